import PyProof.Rows.All
import Wide.All
import OpenK.AllK
import Wide.FinOn
import Lean
import PyProof.EqAt
import PyProof.EqKinds
import PyProof.TupleCall
import PyProof.ZipIter
import PyProof.ConsumeS
import PyProof.StrCalls2
import PyProof.StrWalks
import PyProof.SliceStr2
import PyProof.StrBlock
import PyProof.StrBlockL
import PyProof.ListIndex
import PyProof.StrLawsTight
import PyProof.StrLawsChain
import PyProof.StrLaws
import PyProof.StrLawsFirst
import PyProof.StationsW
import PyProof.ExcClass3
import PyProof.NsDelKeeps
import PyProof.RulesAs
import PyProof.ExcBaseAll.ValueError
import PyProof.ExcArgsOwn
import PyProof.ExcAttrAll.ValueError
import KE.KTryMore
import KE.RegKTryMore
import KE.RegKIsAll
import PyProof.Rows.Range3
import PyProof.Rows.SumGenD
import PyProof.Rows.RuleM_int
import PyProof.EnumMake
import PyProof.EnumFor
import PyProof.EnumStmt
import PyProof.Rows.EnumRows
import KE.KRevIter
import PyProof.ListNew
import PyProof.CollectIter
import PyProof.ListRange
import PyProof.CallStr
import PyProof.StrBlock2
import PyProof.Rows.StrMadeLen
import PyProof.Rows.SetFrom
import PyProof.SetRoads
import PyProof.MeetsStr2
import KE.KRevSl
import PyProof.Conv_int
import PyProof.WalkInts
import PyProof.Rows.SeqMore
import PySem.Challenge.RW_cluemaker_k40_a_book_followed
set_option Elab.async false
set_option linter.all false
set_option maxRecDepth 100000
open PySem.W (Frag nsIn findIn fnOf isFn codeIn keepIn)
set_option maxHeartbeats 40000000
namespace L2
open PySem PySem.Spec PyProof.Rows
abbrev Lp:=@List.length_map
abbrev Lq:=@List.getElem?_eq_getElem
abbrev Ls:=@decide_eq_false
abbrev Lu:=@List.getElem?_map
abbrev Lv:=@decide_eq_true
abbrev Lw:=@decide_eq_true_eq
abbrev Lx:=@List.getElem?_eq_some_iff
abbrev Ly:=@Bool.false_ne_true
abbrev Lz:=@Nat.le_trans
abbrev LA:=@Bool.false_and
abbrev LB:=@List.mem_of_getElem?
abbrev LC:=@List.length_append
abbrev LD:=@Bool.true_and
abbrev LE:=@List.mem_singleton
abbrev LF:=@Nat.le_refl
abbrev LG:=@Heap.get?_push_of_some
abbrev LI:=@List.mem_cons_of_mem
abbrev LJ:=@List.size_toArray
abbrev LK:=@List.mem_map
abbrev LL:=@List.mem_range
abbrev LM:=@List.all_eq_true
abbrev LN:=@PySem.F.plainAttrs_list
abbrev LO:=@List.length_filter_le
abbrev LP:=@List.getElem?_eq_none
abbrev LQ:=@List.mem_cons_self
abbrev LR:=@List.mem_append
abbrev LS:=@Heap.lt_size
abbrev LT:=@List.getElem?_append_left
abbrev LU:=@if_neg
abbrev LV:=@Bool.eq_iff_iff
abbrev LW:=@List.mem_cons
abbrev LX:=@if_pos
abbrev LY:=@Nat.lt_of_lt_of_le
abbrev LZ:=@wpAny_bind
abbrev L0:=@List.length_cons
abbrev L1:=@List.getElem_mem
abbrev L3:=@List.map_cons
abbrev L4:=@List.mem_filter
abbrev L5:=@Heap.get?_push_size
abbrev L6:=@List.getElem?_append_right
abbrev L7:=@PySem.F.slot_list_append
abbrev L8:=@PySem.F.type_list_append
abbrev L9:=@of_decide_eq_true
abbrev Ma:=@Bool.and_eq_true
abbrev Mb:=@Int.emod_lt_of_pos
abbrev Mc:=@Int.emod_nonneg
abbrev Md:=@PassesOwn.never
abbrev Mf:=@List.map_map
abbrev Mg:=@List.filter_append
abbrev Mh:=@List.take_of_length_le
abbrev Mi:=@Nat.ne_of_lt
abbrev Mj:=@Nat.le_of_lt
abbrev Ml:=@Nat.zero_le
abbrev Mm:=@List.length_take
abbrev Mn:=@List.filter_cons
abbrev Mp:=@List.length_range
abbrev Mq:=@wpAny_pure
abbrev Mr:=@List.mem_append_right
abbrev Mt:=@Nat.le_of_ble_eq_true
abbrev Mu:=@List.eq_nil_of_length_eq_zero
abbrev Mv:=@List.getElem?_range
abbrev Mw:=@List.lookup_cons
abbrev Mx:=@PyProof.Rows.callWith_type1
abbrev My:=@List.map_append
abbrev Mz:=@List.range_succ
abbrev MA:=@PySem.mem_of_lookup
abbrev MB:=@List.ext_getElem?
abbrev MC:=@wpAny_mono
abbrev MD:=@Nat.lt_of_le_of_lt
abbrev ME:=@PySem.W.kia_one
abbrev MF:=@wpAny_truthy_bool
abbrev MG:=@Int.toNat_natCast
abbrev MH:=@List.nodup_cons
abbrev MI:=@Nat.lt_irrefl
abbrev MJ:=@wpAny_Call_Name_kw
abbrev MK:=@Bool.false_or
abbrev ML:=@Int.zero_add
abbrev MM:=@List.map_id'
abbrev MN:=@Nat.lt_succ_of_lt
abbrev MO:=@PySem.F.slot_list_index
abbrev MP:=@PySem.F.type_list_index
abbrev MQ:=@Option.some.inj
abbrev MR:=@List.replicate_succ
abbrev MS:=@List.length_drop
abbrev MT:=@wpAny_passesOwn
abbrev MU:=@List.find?_cons
abbrev MV:=@List.mem_iff_getElem
abbrev MW:=@List.mem_of_mem_take
abbrev MX:=@List.set_set
abbrev MY:=@List.nodup_append
abbrev MZ:=@List.findIdx_lt_length_of_exists
abbrev M1:=@call_meets
abbrev M2:=@List.filter_eq_self
abbrev M3:=@Heap.size_push
abbrev M4:=@List.not_mem_nil
abbrev M5:=@wpAny_getItem_str_slice
abbrev M6:=@Int.eq_ofNat_of_zero_le
abbrev M7:=@List.take_length
abbrev M8:=@Int.mul_nonneg
abbrev M9:=@Option.map_eq_some_iff
abbrev Na:=@List.all_map
abbrev Nb:=@PySem.F.plainAttrs_str
abbrev Nc:=@List.foldl_cons
abbrev Nd:=@List.any_cons
abbrev Nf:=@Bool.not_true
abbrev Ng:=@List.flatten_cons
abbrev Nh:=@Int.fdiv_eq_ediv_of_nonneg
abbrev Ni:=@beq_iff_eq
abbrev Nj:=@List.take_succ
abbrev Nk:=@Bool.not_false
abbrev Nl:=@List.any_eq_true
abbrev Nm:=@beq_eq_false_iff_ne
abbrev No:=@Array.length_toList
abbrev Np:=@Nat.add_le_add_left
abbrev Nq:=@Calls.spliced_cons
abbrev Nr:=@tupleKind_room_in1
abbrev Nt:=@List.mem_replicate
abbrev Nu:=@decide_eq_false_iff_not
abbrev Nv:=@wpAny_pyIter_list
abbrev Nw:=@Calls.spliced_nil
abbrev Ny:=@Bool.true_or
abbrev Nz:=@builtinLookup_eq_fast
abbrev NA:=@PySem.F.slot_str_join
abbrev NB:=@PySem.F.type_str_join
abbrev NC:=@Nat.lt_succ_self
abbrev ND:=@PyProof.Rows.callWith_builtin1
abbrev NE:=@typeIs_str
abbrev NF:=@Nat.le_add_right
abbrev NG:=@Nat.min_eq_right
abbrev NH:=@List.all_cons
abbrev NI:=@List.mem_append_left
abbrev NJ:=@Nat.le_succ
abbrev NK:=@Nat.mul_le_mul_right
abbrev NL:=@Int.mul_pos
abbrev NM:=@wpAny_execs_nil
abbrev NN:=@pushCells_keeps
abbrev NO:=@post_val_or_str
abbrev NP:=@Nat.min_eq_left
abbrev NQ:=@List.filterMap_cons
abbrev NR:=@PySem.W.plainGet_of
abbrev NS:=@ne_true_of_eq_false
abbrev NT:=@List.map_congr_left
abbrev NU:=@Nat.ne_of_gt
abbrev NV:=@PySem.F.slot_int_bit_length
abbrev NW:=@PySem.F.type_int_bit_length
abbrev NX:=@Calls.Name_function_global
abbrev NY:=@Int.fmod_eq_emod_of_nonneg
abbrev NZ:=@PySem.W.callWith_K
abbrev N0:=@F.args_str_split_2
abbrev N1:=@List.nodup_nil
abbrev N2:=@List.map_replicate
abbrev N3:=@List.getElem?_drop
abbrev N4:=@PySem.F.slot_dict_getitem
abbrev N5:=@Array.getElem?_eq_getElem
abbrev N6:=@List.drop_eq_getElem_cons
abbrev N7:=@List.append_assoc
abbrev N8:=@Option.isSome_map
abbrev N9:=@F.entry_str_split
abbrev Oa:=@Bool.not_eq_true'
abbrev Ob:=@List.foldl_append
abbrev Oc:=@wpAny_holding
abbrev Od:=@wpAny_comprehension_free
abbrev Oe:=@List.map_take
abbrev Of:=@List.sublist_append_left
abbrev Og:=@List.getElem?_replicate
abbrev Oh:=@F.slot_str_split
abbrev Oi:=@List.drop_length
abbrev Oj:=@Ne.symm
abbrev Ol:=@List.getElem?_set_self
abbrev Om:=@PyProof.noPylong_small
abbrev On:=@PySem.W.cellsFrom_some
abbrev Oo:=@subscriptTail_builtinR
abbrev Op:=@Calls.callWith_builtin
abbrev Oq:=@Txt.slice_le
abbrev Os:=@List.not_of_lt_findIdx
abbrev Ot:=@List.drop_eq_nil_of_le
abbrev Ou:=@PySem.F.plainAttrs_int
abbrev Ov:=@List.of_mem_zip
abbrev Ow:=@Bool.or_eq_true
abbrev Ox:=@typeLookup_type
abbrev Oy:=@List.length_replicate
abbrev Oz:=@List.length_singleton
abbrev OA:=@Array.getElem?_toList
abbrev OB:=@PySem.W.methodCall_KW
abbrev OC:=@sizeLine_eq
abbrev OD:=@or_false
abbrev OE:=@Paired.length
abbrev OF:=@wpAny_standAt
abbrev OG:=@List.sum_cons
abbrev OH:=@Bool.and_self
abbrev OI:=@List.map_drop
abbrev OK:=@codeAny_mono
abbrev OL:=@List.map_nil
abbrev OM:=@if_true
abbrev ON:=@Nat.succ_mul
abbrev OO:=@List.any_map
abbrev OP:=@Nat.lt_or_ge
abbrev Key:=Sum Int Str
def keyIs:Key->Value->Bool
 | .inl k,v=>Value.isInt k v
 | .inr x,v=>Value.isStrOf x v
def keyH(w:World):Key->Int
 | .inl k=>hashInt k
 | .inr x=>hashStr w x
theorem cp:∀{k:Key} {v:Value},keyIs k v=true->(∃ i t,k=Sum.inl i/\v=Value.int i t)\/(∃ x t,k=Sum.inr x/\v=Value.str x t)
 | .inl i,v,h=>by
  obtain⟨t,e⟩:=Value.isInt_shape (k:=i) (v:=v) h;exact .inl ⟨i,t,rfl,e⟩
 | .inr x,v,h=>by
  obtain⟨t,e⟩:=Value.isStrOf_shape (x:=x) (v:=v) h;exact .inr ⟨x,t,rfl,e⟩
theorem Dd(i:Int)(t:Tok):keyIs (.inl i) (.int i t)=true:=by simp[keyIs,Value.isInt]
theorem Df(x:Str)(t:Tok):keyIs (.inr x) (.str x t)=true:=by simp[keyIs,Value.isStrOf]
theorem Gz(a b:Int):decide ((Sum.inl a:Key)=Sum.inl b)=(a==b):=by
 by_cases e:a=b
 . subst e;simp
 . have h:¬ (Sum.inl a:Key)=Sum.inl b:=fun q=>e (Sum.inl.inj q);rw[Ls h];exact(Nm.mpr e).symm
theorem GA(a b:Str):decide ((Sum.inr a:Key)=Sum.inr b)=decide (a=b):=by
 by_cases e:a=b
 . subst e;simp
 . have h:¬ (Sum.inr a:Key)=Sum.inr b:=fun q=>e (Sum.inr.inj q);rw[Ls h,Ls e]
theorem GB(a:Int)(b:Str):decide ((Sum.inl a:Key)=Sum.inr b)=false:=Ls (fun q=>nomatch q)
theorem GC(a:Str)(b:Int):decide ((Sum.inr a:Key)=Sum.inl b)=false:=Ls (fun q=>nomatch q)
def df(prog:Program)(w:World):PySem.KeyKind prog w Key where
 is:=keyIs
 hash:=keyH w
 inj:=fun v a b ha hb=>by
  rcases cp ha with ⟨i,t,rfl,rfl⟩ | ⟨x,t,rfl,rfl⟩
  . rcases cp hb with ⟨j,u,rfl,e⟩ | ⟨y,u,rfl,e⟩
    . injection e with e1 _;rw[e1]
    . exact nomatch e
  . rcases cp hb with ⟨j,u,rfl,e⟩ | ⟨y,u,rfl,e⟩
    . exact nomatch e
    . injection e with e1 _;rw[e1]
 byValue:=fun k v h=>by
  rcases cp h with ⟨i,t,rfl,rfl⟩ | ⟨x,t,rfl,rfl⟩ <;> rfl
 pyHash:=fun hv h=>by
  rcases cp hv with ⟨i,t,rfl,rfl⟩ | ⟨x,t,rfl,rfl⟩
  . exact wpAny_pyHash_int h
  . exact wpAny_pyHash_str h
 eqBool:=fun hu hv h=>by
  rcases cp hu with ⟨i,t,rfl,rfl⟩ | ⟨x,t,rfl,rfl⟩
  . rcases cp hv with ⟨j,u,rfl,rfl⟩ | ⟨y,u,rfl,rfl⟩
    . rw[Gz] at h;exact wpAny_eqBool_int h
    . rw[GB] at h;exact SeqAt.EqAt.int_str i t y u _ _ _ _ h
  . rcases cp hv with ⟨j,u,rfl,rfl⟩ | ⟨y,u,rfl,rfl⟩
    . rw[GC] at h;exact SeqAt.EqAt.str_int x t j u _ _ _ _ h
    . rw[GA] at h;exact wpAny_eqBool_str h
 «strs»:=fun k x t v h=>by
  rcases cp h with ⟨i,u,rfl,e⟩ | ⟨y,u,rfl,e⟩
  . exact nomatch e
  . injection e with e1 _;subst e1;cases v <;> rfl
theorem A5(prog:Program)(w:World)(i:Int)(t:Tok):(df prog w).is (.inl i) (.int i t)=true:=Dd i t
theorem A6(prog:Program)(w:World)(x:Str)(t:Tok):(df prog w).is (.inr x) (.str x t)=true:=Df x t
inductive V where
 | non | bl (b:Bool) | int (i:Int) | str (x:Str) | byt (b:Array UInt8) | flt (b:UInt64) | ref (a:Addr) | ty (n:String)
 deriving DecidableEq
def RelV:V->Value->Prop
 | .non,u=>u=Value.none
 | .bl b,u=>u=Value.bool b
 | .int i,u=>∃ t,u=Value.int i t
 | .str x,u=>∃ t,u=Value.str x t
 | .byt b,u=>∃ t,u=Value.bytes b t
 | .flt b,u=>∃ t,u=Value.float b t
 | .ref a,u=>u=Value.ref a
 | .ty n,u=>u=Value.type n
abbrev Vals:List V->List Value->Prop:=Paired RelV
theorem Vals.length{xs:List V}{us:List Value}(r:Vals xs us):xs.length=us.length:=OE r
theorem Vals.get:∀{xs:List V} {us:List Value} {i:Nat} {x:V},Vals xs us->xs[i]? =some x->∃ u,us[i]? =some u/\RelV x u
 | _,_,_,_,.nil,e=>by simp at e
 | _,_,0,_,.cons r _,e=>by simp at e;subst e;exact⟨_,rfl,r⟩
 | _,_,i+1,x,.cons _ t,e=>by
  obtain⟨u,h1,h2⟩:=Vals.get (i:=i) (x:=x) t (by simpa using e);exact⟨u,by simpa using h1,h2⟩
theorem Vals.append:∀{xs ys:List V} {us ws:List Value},Vals xs us->Vals ys ws->Vals (xs++ys) (us++ws)
 | _,_,_,_,.nil,s=>s
 | _,_,_,_,.cons r t,s=>.cons r (Vals.append t s)
theorem Vals.take:∀{xs:List V} {us:List Value} (n:Nat),Vals xs us->Vals (xs.take n) (us.take n)
 | _,_,0,_=>.nil
 | _,_,_+1,.nil=>.nil
 | _,_,n+1,.cons r t=>.cons r (Vals.take n t)
theorem Vals.drop:∀{xs:List V} {us:List Value} (n:Nat),Vals xs us->Vals (xs.drop n) (us.drop n)
 | _,_,0,r=>r
 | _,_,_+1,.nil=>.nil
 | _,_,n+1,.cons _ t=>Vals.drop n t
def RelO:Option V->Option Value->Prop
 | some v,some u=>RelV v u
 | none,none=>True
 | _,_=>False
def KV{κ:Type}:List (κ × V)->List (κ × Value)->Prop:=Paired fun(p:κ × V) (q:κ × Value)=>p.1=q.1/\RelV p.2 q.2
def kV:Key->V
 | .inl i=>.int i
 | .inr x=>.str x
inductive HO where
  | lst (xs:List V)
  | tup (xs:List V)
  | dK (Lf:List (Key × V)) | dT (Lf:List (List Key × V))
  | set (S:Int->Bool) (n:Nat)
  | ins (C dx:Addr) (fs:List (Str × V))
  | own (x:Addr)
  | xd (fs:List (Str × V))
  | met (f x:Addr)
  | rng (lo hi:Int)
  | frz (o:Obj) (u:HO)
  | tbl (ps:Array Value)
  | ext (φ:Heap->Prop)
abbrev Hp:=Addr->Option HO
def upd(H:Hp)(a:Addr)(o:HO):Hp:=fun b=>if b=a then some o else H b
variable{H:Hp}{a:Addr}{o:HO}
theorem aj:upd H a o a=some o:=by unfold upd;rw[LX rfl]
variable{b:Addr}
theorem ao(h:b≠a):upd H a o b=H b:=by unfold upd;rw[LU h]
theorem HC{u:HO}(h:H a=some o)(h':H b=some u)(d:o≠u):a≠b:=by
 intro e;subst e;rw[h] at h';exact d (MQ h')
theorem aD(h:H a=some o)(h':H b=none):a≠b:=by
 intro e;subst e;rw[h] at h';cases h'
section
variable(P:Program)(w:World)
def ObjOk(H:Hp)(h:Heap)(a:Addr):HO->Prop
 | .lst xs=>xs.length<=sizeLine/\∃(Lg:List Value) (n:Nat),Vals xs Lg/\h.get? a=some {cls:=.type "list",data:=.seq Lg.toArray n}
 | .tup xs=>xs.length<=sizeLine/\∃ Lg:List Value,Vals xs Lg/\IsTup h a Lg.toArray
 | .dK Lf=>Lf.length<=sizeLine/\(a==sysModules)=false/\∃ vs,KV Lf vs/\h.DictOf (df P w) a vs
 | .dT Lf=>Lf.length<=sizeLine/\(a==sysModules)=false/\∃ xs:List (List Key × Addr × Value),
   Paired (fun(p:List Key × V) (q:List Key × Addr × Value)=>p.1=q.1/\H q.2.1=some (.tup (p.1.map kV))/\RelV p.2 q.2.2) Lf xs/\
   ∃ o es ep,h.get? a=some o/\o.ExactDict/\o.data=.dict es ep/\es.toList=xs.map (entryOfKey (tupleKind (df P w)))/\(xs.map (·.1)).Nodup
 | .set S n=>h.SetOf (intKind P w) a S n
 | .ins C dx fs=>H dx=some (.own a)/\fs.length<=1000/\dx≠a/\h.get? a=some (PySem.W.instObj C dx)/\
   ∃ mA,h.Ns1 dx mA/\(∀ f,RelO (fs.lookup f) (mA f))/\PySem.Within mA (fs.map (·.1))
 | .own _=>∃ o,h.get? a=some o
 | .xd fs=>∃ mA,h.Ns1 a mA/\∀ f,RelO (fs.lookup f) (mA f)
 | .rng lo hi=>∃ t u v,h.get? a=some {cls:=.type "range",data:=.fields #[.int lo t,.int hi u,.int 1 v]}
 | .frz o u=>h.get? a=some o/\ObjOk H h a u
 | .tbl ps=>h.get? a=some {cls:=.none,data:=.fields ps}
 | .met f x=>h.get? a=some (PySem.W.methodObj (.ref f) (.ref x))
 | .ext φ=>φ h/\(∃ o,h.get? a=some o)/\∀ h1 h2:Heap,φ h1->(∀ o,h1.get? a=some o->h2.get? a=some o)->φ h2
def HOk(H:Hp)(h:Heap):Prop:=∀ a o,H a=some o->ObjOk P w H h a o
end
section
variable{P:Program}{w:World}{H H':Hp}{h h':Heap}{a:Addr}{o:HO}
theorem ObjOk.lt(x:ObjOk P w H h a o):a<h.objs.size:=by
 cases o with
 | lst xs=>obtain⟨_,_,_,_,e⟩:=x;exact LS e
 | tup xs=>obtain⟨_,_,_,p⟩:=x;exact p.lt
 | dK Lf=>obtain⟨_,_,_,_,o,_,_,e,_⟩:=x;exact LS e
 | dT Lf=>obtain⟨_,_,_,_,o,_,_,e,_⟩:=x;exact LS e
 | set S n=>obtain⟨o,_,_,_,e,_⟩:=x;exact LS e
 | ins C dx fs=>obtain⟨_,_,_,e,_⟩:=x;exact LS e
 | own y=>obtain⟨_,e⟩:=x;exact LS e
 | xd fs=>obtain⟨_,⟨_,_,_,e,_⟩,_⟩:=x;exact LS e
 | rng lo hi=>obtain⟨_,_,_,e⟩:=x;exact LS e
 | frz ob u=>obtain⟨e,_⟩:=x;exact LS e
 | tbl ps=>exact LS (show h.get? a=some _ from x)
 | met f y=>exact LS (show h.get? a=some _ from x)
 | ext φ=>obtain⟨_,⟨_,e⟩,_⟩:=x;exact LS e
theorem Paired.mapP{α β:Type}{F G:α->β->Prop}:∀{l₁:List α} {l₂:List β},Paired F l₁ l₂->(∀ a b,F a b->G a b)->Paired G l₁ l₂
 | _,_,.nil,_=>.nil
 | _,_,.cons r t,f=>.cons (f _ _ r) (Paired.mapP t f)
theorem ObjOk.stay (x:ObjOk P w H h a o) (k:∀ b u,(b=a\/H b=some (.own a))->h.get? b=some u->h'.get? b=some u)
  (ho:∀ b,H b=some (.own a)->H' b=some (.own a)) (ht:∀ b xs,H b=some (.tup xs)->H' b=some (.tup xs)):ObjOk P w H' h' a o:=by
 induction o with
 | lst xs=>obtain⟨z,Lg,n,r,e⟩:=x;exact⟨z,Lg,n,r,k _ _ (.inl rfl) e⟩
 | tup xs=>obtain⟨z,Lg,r,ob,e,c⟩:=x;exact⟨z,Lg,r,ob,k _ _ (.inl rfl) e,c⟩
 | dK Lf=>obtain⟨z,y,vs,r,ob,es,ep,e,c⟩:=x;exact⟨z,y,vs,r,ob,es,ep,k _ _ (.inl rfl) e,c⟩
 | dT Lf=>
  obtain⟨z,y,xs,r,ob,es,ep,e,c⟩:=x;exact⟨z,y,xs,Paired.mapP r fun p q z=>⟨z.1,ht _ _ z.2.1,z.2.2⟩,ob,es,ep,k _ _ (.inl rfl) e,c⟩
 | set S n=>obtain⟨ob,es,ep,t,e,c⟩:=x;exact⟨ob,es,ep,t,k _ _ (.inl rfl) e,c⟩
 | ins C dx fs=>
  obtain⟨d,z,ne,e,mA,⟨od,es,ep,e2,c⟩,r⟩:=x;exact⟨ho _ d,z,ne,k _ _ (.inl rfl) e,mA,⟨od,es,ep,k _ _ (.inr d) e2,c⟩,r⟩
 | own y=>obtain⟨ob,e⟩:=x;exact⟨ob,k _ _ (.inl rfl) e⟩
 | xd fs=>obtain⟨mA,⟨od,es,ep,e,c⟩,r⟩:=x;exact⟨mA,⟨od,es,ep,k _ _ (.inl rfl) e,c⟩,r⟩
 | rng lo hi=>obtain⟨t,u,v,e⟩:=x;exact⟨t,u,v,k _ _ (.inl rfl) e⟩
 | frz ob u ih=>obtain⟨e,q⟩:=x;exact⟨k _ _ (.inl rfl) e,ih q⟩
 | tbl ps=>
  have e:h.get? a=some {cls:=.none,data:=.fields ps}:=x;show h'.get? a=some {cls:=.none,data:=.fields ps};exact k a _ (.inl rfl) e
 | met f y=>
  have e:h.get? a=some (PySem.W.methodObj (.ref f) (.ref y)):=x;show h'.get? a=some (PySem.W.methodObj (.ref f) (.ref y));exact k a _ (.inl rfl) e
 | ext φ=>obtain⟨p,⟨o,e⟩,st⟩:=x;exact⟨st _ _ p fun o q=>k _ _ (.inl rfl) q,⟨o,k _ _ (.inl rfl) e⟩,st⟩
theorem HOk.lt(x:HOk P w H h)(e:H a=some o):a<h.objs.size:=(x a o e).lt
theorem HOk.fresh(x:HOk P w H h)(e:h.objs.size<=a):H a=none:=by
 cases q:H a with
 | none=>rfl
 | some u=>exact absurd (LY (x.lt q) e) (MI _)
theorem HOk.kept(x:HOk P w H h)(k:∀ b u,h.get? b=some u->h'.get? b=some u):HOk P w H h':=fun a o e=>
 (x a o e).stay (fun b u _ q=>k b u q) (fun _ q=>q) fun _ _ q=>q
theorem HOk.laid(x:HOk P w H h)(k:∀ b u,h.get? b=some u->h'.get? b=some u)(hp:h.objs.size<=a)(new:ObjOk P w (upd H a o) h' a o):HOk P w (upd H a o) h':=fun b u e=>by
 have hn:=x.fresh hp;by_cases hb:b=a
 . subst hb;rw[aj] at e;cases e;exact new
 . rw[ao hb] at e;exact(x b u e).stay (fun c v _ q=>k c v q) (fun c q=>by rw[ao (aD q hn)];exact q) fun c xs q=>by rw[ao (aD q hn)];exact q
end
def Rd(H:Hp)(a:Addr)(u:HO):Prop:=H a=some u\/∃ o,H a=some (.frz o u)
variable{h:Heap}
theorem Rd.ok{P:Program}{w:World}{u:HO}(r:Rd H a u)(x:HOk P w H h):ObjOk P w H h a u:=by
 rcases r with r | ⟨o,r⟩
 . exact x a u r
 . obtain⟨_,q⟩:=x a _ r;exact q
def Mut:Option HO->Prop
 | some (.lst _)=>True
 | some (.dK _)=>True
 | some (.dT _)=>True
 | some (.set _ _)=>True
 | some (.ins _ _ _)=>True
 | some (.ext _)=>True
 | _=>False
section
variable{P:Program}{w:World}{H:Hp}{h h':Heap}{x e:Addr}{o':HO}
theorem HOk.write (ok:HOk P w H h) (mu:Mut (H x)) (he:e=x\/H e=some (.own x)) (k:∀ b u,b≠e->h.get? b=some u->h'.get? b=some u) (heo:∃ u,h'.get? e=some u)
  (new:ObjOk P w (upd H x o') h' x o'):HOk P w (upd H x o') h':=fun b u q=>by
 have nown:∀ c y,H c=some (.own y)->c≠x:=fun c y r z=>by subst z;rw[r] at mu;exact mu
 have ntup:∀ c xs,H c=some (.tup xs)->c≠x:=fun c xs r z=>by subst z;rw[r] at mu;exact mu
 by_cases hb:b=x
 . subst hb;rw[aj] at q;cases q;exact new
 . rw[ao hb] at q;by_cases hbe:b=e
   . have q':H b=some (.own x):=by
      rcases he with z | z
      . exact absurd (hbe.trans z) hb
      . rw[hbe];exact z
     rw[q] at q';cases q';obtain⟨v,hv⟩:=heo;exact⟨v,by rw[hbe];exact hv⟩
   . refine(ok b u q).stay (fun c v hc r=>k c v ?_ r) (fun c r=>by rw[ao (nown c b r)];exact r) fun c xs r=>by rw[ao (ntup c xs r)];exact r
     rcases hc with rfl | hc
     . exact hbe
     . rintro rfl;rcases he with z | z
       . exact nown c b hc z
       . rw[hc] at z;cases z;exact hb rfl
end
structure Un(fs ex:List Addr)(H H':Hp)(h h':Heap):Prop where
 keep:∀ b o,h.get? b=some o->H b=none->b∉fs->b∉ex->h'.get? b=some o
 slot:∀ b o,h.get? b=some o->H b=none->b∈fs->b∉ex->∃ sl,h'.get? b=some {o with slots:=sl}
 free:∀ b o,h.get? b=some o->H b=none->b∉ex->H' b=none
 there:∀ b o,h.get? b=some o->b∉ex->∃ o',h'.get? b=some o'
 tups:∀ b xs,H b=some (.tup xs)->H' b=some (.tup xs)
 frzs:∀ b o u,H b=some (.frz o u)->H' b=some (.frz o u)
 tbls:∀ b ps,H b=some (.tbl ps)->∃ more,H' b=some (.tbl (ps++more))
section
variable{fs fs' ex ex':List Addr}{H H1 H2:Hp}{h h1 h2 h':Heap}{a x e:Addr}{o:HO}
theorem Un.any(u:Un fs ex H H1 h h1){b:Addr}{ob:Obj}(q:h.get? b=some ob)(n:H b=none)(hx:b∉ex):∃ sl,h1.get? b=some {ob with slots:=sl}:=by
 by_cases hb:b∈fs
 . exact u.slot b ob q n hb hx
 . exact⟨ob.slots,u.keep b ob q n hb hx⟩
theorem Un.kept(k:∀ b u,h.get? b=some u->h'.get? b=some u):Un fs ex H H h h':=
 ⟨fun b ob q _ _ _=>k b ob q,fun b ob q _ _ _=>⟨ob.slots,k b ob q⟩,fun _ _ _ n _=>n,fun b ob q _=>⟨ob,k b ob q⟩,fun _ _ q=>q,fun _ _ _ q=>q,fun _ ps q=>⟨#[],by rw[q];simp⟩⟩
theorem Un.refl:Un fs ex H H h h:=Un.kept fun _ _ q=>q
theorem Un.laid(k:∀ b u,h.get? b=some u->h'.get? b=some u)(hp:h.objs.size<=a)(hn:H a=none):Un fs ex H (upd H a o) h h' where
 keep:=fun b u q _ _ _=>k b u q
 slot:=fun b u q _ _ _=>⟨u.slots,k b u q⟩
 free:=fun b u q n _=>by rw[ao (Mi (LY (LS q) hp))];exact n
 there:=fun b u q _=>⟨u,k b u q⟩
 tups:=fun b xs q=>by rw[ao (aD q hn)];exact q
 frzs:=fun b u xs q=>by rw[ao (aD q hn)];exact q
 tbls:=fun b ps q=>⟨#[],by rw[ao (aD q hn),q];simp⟩
theorem Un.write(mu:Mut (H x))(he:e=x\/H e=some (.own x))(k:∀ b u,b≠e->h.get? b=some u->h'.get? b=some u)(heo:∃ u,h'.get? e=some u):Un fs ex H (upd H x o) h h':=by
 have hx:∀ b,H b=none->b≠x:=fun b n z=>by subst z;rw[n] at mu;exact mu
 have hb:∀ b,H b=none->b≠e:=fun b n z=>by
  subst z;rcases he with r | r
  . exact hx b n r
  . rw[n] at r;cases r
 have hm:∀ b u,H b=some u->¬ Mut (some u)->b≠x:=fun b u q nm z=>by subst z;rw[q] at mu;exact nm mu
 refine⟨fun b u q n _ _=>k b u (hb b n) q,fun b u q n _ _=>⟨u.slots,k b u (hb b n) q⟩,fun b u q n _=>by rw[ao (hx b n)];exact n,fun b u q _=>?_,
  fun b xs q=>by rw[ao (hm b _ q fun z=>z)];exact q,fun b u xs q=>by rw[ao (hm b _ q fun z=>z)];exact q,fun b ps q=>⟨#[],by rw[ao (hm b _ q fun z=>z),q];simp⟩⟩
 by_cases hbe:b=e
 . subst hbe;exact heo
 . exact⟨u,k b u hbe q⟩
end
def trk(h:Heap)(H:Hp):List Addr:=(List.range h.objs.size).filter fun a=>(H a).isSome
def hidT(h:Heap)(H:Hp):Heap:=PySem.W.hideAll h (trk h H)
theorem Dg(h:Heap)(H:Hp):(hidT h H).objs.size=h.objs.size:=PySem.W.hideAll_size _ _
theorem EX{o:Obj}(e:h.get? b=some o)(n:H b=none):(hidT h H).get? b=some o:=
 PySem.W.hideAll_get _ e fun hm=>by
  have q:(H b).isSome=true:=(L4.mp hm).2;rw[n] at q;simp at q
theorem FH{o:Obj}(e:(hidT h H).get? b=some o):h.get? b=some o/\H b=none:=by
 have e':h.get? b=some o:=PySem.W.of_hideAll (trk h H) e;refine⟨e',?_⟩
 cases q:H b with
 | none=>rfl
 | some x=>
  have hm:b∈trk h H:=L4.mpr ⟨LL.mpr (LS e'),by simp[q]⟩;have z:(hidT h H).get? b=none:=PySem.W.hideAll_none (trk h H) hm;rw[z] at e;cases e
structure Mod(K:Frag)(mg:Str->Option Value)(base:Heap):Prop where
 kin:K.In base
 glob:base.Ns mainGlobals mg
 blt:∃ mb,base.Ns builtinsNs mb/\∀ x:Str,x≠"__name__"->mb x=bootBuiltins x
 nolimit:base.NoLimit
structure Cx where
 prog:Program
 w:World
 K:Frag
 mg:Str->Option Value
 base:Heap
 A:Around
 N:List Str
 s₀:Shared
 H₀:Hp
 env:Env
 outer:List Env
 stack:List Env
 ex:List Addr
 fn:Str->Bool
 calm:Bool
 pn:List (Addr × Obj)
 xe:Value->Shared->Prop
def frs(l:List Env):List Addr:=l.filterMap (·.frame)
abbrev Cx.fs(X:Cx):List Addr:=frs X.outer
def Vis(sc:Scope)(x:Str):Prop:=sc.names.lookup x=some .local\/sc.names.lookup x=some .cell\/sc.names.lookup x=some .free
def Loc(sc:Scope)(x:Str):Prop:=sc.names.lookup x=some .local\/sc.names.lookup x=some .cell
def Look(env:Env)(h:Heap)(m:Str->Option Value)(x:Str)(u:Value):Prop:=
 (env.kindOf x=some .local/\m x=some u)\/((env.kindOf x=some .cell\/env.kindOf x=some .free)/\∃ c,env.cells.lookup x=some c/\h.IsCell c (some u))
structure Cx.Ok(X:Cx):Prop where
 mod:Mod X.K X.mg X.base
 kind:X.env.scope.kind=.function
 glob:X.env.globals=mainGlobals
 blt:X.env.builtins=builtinsNs
 above:X.s₀.heap.objs.size<=X.env.locals
 inj:∀ x y c,X.env.cells.lookup x=some c->X.env.cells.lookup y=some c->x=y
 has:∀ x,(X.env.kindOf x=some .cell\/X.env.kindOf x=some .free)->∃ c,X.env.cells.lookup x=some c
 cab:∀ x c,X.fn x=true->X.env.cells.lookup x=some c->X.s₀.heap.objs.size<=c
 hd:X.calm=true->X.A.handled=none
 frames:X.A.frames=some X.stack
 stk:X.stack=X.outer\/(X.stack=X.env::X.outer/\X.env.frame=some X.env.locals)
 exf:∀ b∈X.ex,b≠X.env.locals/\∀ x c,X.env.cells.lookup x=some c->c≠b
 bs:∀ b o,X.base.get? b=some o->X.s₀.heap.get? b=some o/\X.H₀ b=none
 bsz:X.base.objs.size<=X.s₀.heap.objs.size
 noex:∀ b o,X.base.get? b=some o->b∉X.ex
 exfs:∀ b∈X.ex,b∉X.fs
 funs:X.s₀.heap.FunFrames X.base X.outer
 frf:∀ b∈X.fs,X.H₀ b=none
structure Inv(X:Cx)(Lc:List (Addr × Obj))(σ:List (Option V))(H:Hp)(s:Shared):Prop where
 ok:X.Ok
 os:s.os=X.s₀.os
 bare:AllBare s.gens
 base:Un X.fs X.ex X.H₀ H X.s₀.heap s.heap
 loc:∃ m,s.heap.Ns X.env.locals m/\∀(i:Nat) (x:Str) (v:V),X.N[i]? =some x->σ[i]? =some (some v)->Vis X.env.scope x->∃ u,RelV v u/\Look X.env s.heap m x u
 cell:∀ x c,X.env.cells.lookup x=some c->∃ v,s.heap.IsCell c v
 free:H X.env.locals=none
 freeC:∀ x c,X.env.cells.lookup x=some c->H c=none
 pin:∀ p∈X.pn++Lc,s.heap.get? p.1=some p.2/\H p.1=none/\p.1≠X.env.locals/\p.1∉X.fs/\∀ v,p.2.data≠.cell v
 hok:HOk X.prog X.w H s.heap
 len:σ.length=X.N.length
section
variable{X:Cx}{Lc:List (Addr × Obj)}{σ:List (Option V)}{H H':Hp}{s:Shared}{h':Heap}
theorem Cx.Ok.nofr(ok:X.Ok){b:Addr}{o:Obj}(e:X.base.get? b=some o):b∉X.fs:=fun hb=>by
 have:=(ok.funs.mem hb).1;rw[e] at this;cases this
theorem Inv.bs(I:Inv X Lc σ H s):∀ b o,X.base.get? b=some o->s.heap.get? b=some o/\H b=none:=fun b o e=>
 ⟨I.base.keep b o (I.ok.bs b o e).1 (I.ok.bs b o e).2 (I.ok.nofr e) (I.ok.noex b o e),I.base.free b o (I.ok.bs b o e).1 (I.ok.bs b o e).2 (I.ok.noex b o e)⟩
theorem Inv.bk(I:Inv X Lc σ H s):∀ b o,X.base.get? b=some o->s.heap.get? b=some o:=fun b o e=>(I.bs b o e).1
theorem Inv.mod(I:Inv X Lc σ H s):Mod X.K X.mg X.base:=I.ok.mod
theorem Inv.kIn(I:Inv X Lc σ H s):X.K.In s.heap:=I.ok.mod.kin.keeps I.bk
theorem Inv.lt(I:Inv X Lc σ H s):X.env.locals<s.heap.objs.size:=let ⟨_,hn,_⟩:=I.loc;hn.lt
theorem Inv.sz(I:Inv X Lc σ H s):X.s₀.heap.objs.size<=s.heap.objs.size:=Lz I.ok.above (Mj I.lt)
theorem Inv.nofs(I:Inv X Lc σ H s){a:Addr}(h:s.heap.objs.size<=a):a∉X.fs:=fun hb=>by
 obtain⟨_,o,ho,_⟩:=I.ok.funs.mem hb;exact absurd (LY (LS ho) (Lz I.sz h)) (MI _)
theorem Inv.cne(I:Inv X Lc σ H s):∀ x c,X.env.cells.lookup x=some c->c≠X.env.locals:=fun x c e z=>by
 obtain⟨v,o,ho,hd⟩:=I.cell x c e;obtain⟨m,⟨o',es,ep,ho',hd',_⟩,_⟩:=I.loc;rw[z,ho'] at ho;cases ho;rw[hd'] at hd;cases hd
theorem Inv.funs(I:Inv X Lc σ H s):s.heap.FunFrames X.base X.outer:=by
 have all:∀(l:List Env),(∀ b∈frs l,b∈X.fs)->X.s₀.heap.FunFrames X.base l->s.heap.FunFrames X.base l:=by
  intro l
  induction l with
  | nil=>intro _ _;trivial
  | cons env r ih=>
   intro hs hl;obtain⟨hk,⟨L,o,hf,hn,ho,hd⟩,hr⟩:=hl;have hL:L∈X.fs:=hs L (by unfold frs;rw[NQ,hf];exact LQ);obtain⟨sl,e⟩:=I.base.slot L o ho (I.ok.frf L hL) hL fun z=>I.ok.exfs L z hL;exact⟨hk,⟨L,_,hf,hn,e,hd⟩,ih (fun b hb=>hs b (by unfold frs;rw[NQ,hf];exact LI _ hb)) hr⟩
 exact all X.outer (fun _ hb=>hb) I.ok.funs
theorem Inv.stack(I:Inv X Lc σ H s):s.heap.FunFrames X.base X.stack:=by
 rcases I.ok.stk with e | ⟨e,hf⟩
 . rw[e];exact I.funs
 . rw[e];obtain⟨m,hn,_⟩:=I.loc;refine .cons (by rw[I.ok.kind];decide) hf hn ?_ I.funs;exact Heap.get?_none_of_le (Lz I.ok.bsz I.ok.above)
theorem Inv.stkSub(I:Inv X Lc σ H s):∀ b∈frs X.stack,b∈X.env.locals::X.fs:=fun b hb=>by
 rcases I.ok.stk with e | ⟨e,hf⟩
 . rw[e] at hb;exact LI _ hb
 . rw[e] at hb;unfold frs at hb;rw[NQ,hf] at hb;exact hb
theorem Inv.stkFree(I:Inv X Lc σ H s):∀ b∈frs X.stack,H b=none:=fun b hb=>by
 rcases LW.mp (I.stkSub b hb) with e | hb
 . rw[e];exact I.free
 . obtain⟨_,o,ho,_⟩:=I.ok.funs.mem hb;exact I.base.free b o ho (I.ok.frf b hb) fun z=>I.ok.exfs b z hb
theorem Inv.step {g':Array GenState} {t':Nat} {d':Drawn} {ch:List Addr} (I:Inv X Lc σ H s)
  (hch:∀ b∈ch,(b∈X.ex\/X.s₀.heap.objs.size<=b)/\b≠X.env.locals/\(∀ x c,X.env.cells.lookup x=some c->c≠b)/\∀ p∈X.pn++Lc,p.1≠b)
  (keep:∀ b o,b≠X.env.locals->b∉X.fs->b∉ch->s.heap.get? b=some o->H b=none->h'.get? b=some o)
  (slot:∀ b o,b≠X.env.locals->b∈X.fs->b∉ch->s.heap.get? b=some o->H b=none->∃ sl,h'.get? b=some {o with slots:=sl}) (free:∀ b o,b∉ch->s.heap.get? b=some o->H b=none->H' b=none)
  (there:∀ b o,b∉ch->s.heap.get? b=some o->∃ o',h'.get? b=some o')
  (tups:∀ b xs,H b=some (.tup xs)->H' b=some (.tup xs)) (frzs:∀ b o u,H b=some (.frz o u)->H' b=some (.frz o u)) (tbls:∀ b ps,H b=some (.tbl ps)->∃ more,H' b=some (.tbl (ps++more)))
  (ns:∀ m,s.heap.Ns X.env.locals m->h'.Ns X.env.locals m) (hok:HOk X.prog X.w H' h') (hg:AllBare g'):
  Inv X Lc σ H' {s with heap:=h',gens:=g',drawn:=d',toks:=t'}:=by
 have neL:∀ b o,X.s₀.heap.get? b=some o->b≠X.env.locals:=fun b o e=>Mi (LY (LS e) I.ok.above)
 have neC:∀ b o,X.s₀.heap.get? b=some o->b∉X.ex->b∉ch:=fun b o e hx hb=>by
  rcases(hch b hb).1 with z | z
  . exact hx z
  . exact absurd (LY (LS e) z) (MI _)
 have cellK:∀ x c,X.env.cells.lookup x=some c->∀ v,s.heap.IsCell c v->h'.IsCell c v:=fun x c e v ⟨o,ho,hd⟩=>by
  have nch:c∉ch:=fun z=>(hch c z).2.2.1 x c e rfl;by_cases hc:c∈X.fs
  . obtain⟨sl,q⟩:=slot c o (I.cne x c e) hc nch ho (I.freeC x c e);exact⟨_,q,hd⟩
  . exact⟨o,keep c o (I.cne x c e) hc nch ho (I.freeC x c e),hd⟩
 refine⟨I.ok,I.os,hg,⟨fun b o e n hb hx=>?_,fun b o e n hb hx=>?_,fun b o e n hx=>?_,fun b o e hx=>?_,fun b xs e=>tups b xs (I.base.tups b xs e),fun b o xs e=>frzs b o xs (I.base.frzs b o xs e),fun b ps e=>?_⟩,?_,fun x c e=>?_,?_,fun x c e=>?_,fun p hp=>?_,hok,I.len⟩
 . exact keep b o (neL b o e) hb (neC b o e hx) (I.base.keep b o e n hb hx) (I.base.free b o e n hx)
 . obtain⟨sl,e1⟩:=I.base.slot b o e n hb hx;obtain⟨sl',e2⟩:=slot b _ (neL b o e) hb (neC b o e hx) e1 (I.base.free b o e n hx);exact⟨sl',e2⟩
 . obtain⟨o',e1⟩:=I.base.there b o e hx;exact free b o' (neC b o e hx) e1 (I.base.free b o e n hx)
 . obtain⟨o',e1⟩:=I.base.there b o e hx;exact there b o' (neC b o e hx) e1
 . obtain⟨m1,e1⟩:=I.base.tbls b ps e;obtain⟨m2,e2⟩:=tbls b _ e1;exact⟨m1++m2,by rw[e2,Array.append_assoc]⟩
 . obtain⟨m,hn,hl⟩:=I.loc;refine⟨m,ns m hn,fun i x v e1 e2 e3=>?_⟩;obtain⟨u,r,l⟩:=hl i x v e1 e2 e3;refine⟨u,r,?_⟩;rcases l with l | ⟨k,c,e,z⟩
   . exact .inl l
   . exact .inr ⟨k,c,e,cellK x c e _ z⟩
 . obtain⟨v,z⟩:=I.cell x c e;exact⟨v,cellK x c e v z⟩
 . obtain⟨m,⟨o,_,_,ho,_⟩,_⟩:=I.loc;exact free _ o (fun z=>(hch _ z).2.1 rfl) ho I.free
 . obtain⟨v,o,ho,hd⟩:=I.cell x c e;exact free c o (fun z=>(hch c z).2.2.1 x c e rfl) ho (I.freeC x c e)
 . obtain⟨e,n,ne,nf,d⟩:=I.pin p hp;have nch:p.1∉ch:=fun z=>(hch p.1 z).2.2.2 p hp rfl;exact⟨keep p.1 p.2 ne nf nch e n,free p.1 p.2 nch e n,ne,nf,d⟩
theorem Inv.un{t':Nat}(I:Inv X Lc σ H s)(u:Un X.fs [] H H' s.heap h')(hok:HOk X.prog X.w H' h'):Inv X Lc σ H' {s with heap:=h',toks:=t'}:=by
 obtain⟨m,⟨o,es,ep,ho,r⟩,_⟩:=id I.loc;obtain⟨sl,hL⟩:=u.any ho I.free (by simp)
 exact I.step (g':=s.gens) (d':=s.drawn) (ch:=[]) (fun _ z=>nomatch z) (fun b o _ hb _ e n=>u.keep b o e n hb (by simp)) (fun b o _ hb _ e n=>u.slot b o e n hb (by simp)) (fun b o _ e n=>u.free b o e n (by simp)) (fun b o _ e=>u.there b o e (by simp)) u.tups u.frzs u.tbls (fun m' hm=>by
  obtain⟨o',es',ep',ho',r'⟩:=hm;rw[ho] at ho';cases ho';exact⟨_,es',ep',hL,r'⟩) hok I.bare
theorem Inv.call {g':Array GenState} {t':Nat} {d':Drawn} {ch:List Addr} (I:Inv X Lc σ H s) (u:Un (frs X.stack) ch H H' s.heap h') (hok:HOk X.prog X.w H' h') (hg:AllBare g')
  (hch:∀ b∈ch,(b∈X.ex\/X.s₀.heap.objs.size<=b)/\b≠X.env.locals/\(∀ x c,X.env.cells.lookup x=some c->c≠b)/\∀ p∈X.pn++Lc,p.1≠b):
  Inv X Lc σ H' {s with heap:=h',gens:=g',drawn:=d',toks:=t'}:=by
 obtain⟨m,⟨o,es,ep,ho,r⟩,_⟩:=id I.loc;obtain⟨sl,hL⟩:=u.any ho I.free fun z=>(hch _ z).2.1 rfl
 exact I.step (ch:=ch) hch (fun b o hL hb hc e n=>u.keep b o e n (fun z=>(LW.mp (I.stkSub b z)).elim hL hb) hc) (fun b o _ _ hc e n=>u.any e n hc) (fun b o hc e n=>u.free b o e n hc) (fun b o hc e=>u.there b o e hc) u.tups u.frzs u.tbls (fun m' hm=>by
  obtain⟨o',es',ep',ho',r'⟩:=hm;rw[ho] at ho';cases ho';exact⟨_,es',ep',hL,r'⟩) hok hg
theorem Inv.turned {t':Nat} {it:Addr} (I:Inv X Lc σ H s) (k:∀ b o,b≠it->s.heap.get? b=some o->h'.get? b=some o) (hn:H it=none) (hL:it≠X.env.locals)
  (h1:it∈X.ex\/X.s₀.heap.objs.size<=it) (h2:∀ x c,X.env.cells.lookup x=some c->c≠it) (h3:∀ p∈X.pn++Lc,p.1≠it):Inv X Lc σ H {s with heap:=h',toks:=t'}:=by
 have nit:∀ b u,H b=some u->b≠it:=fun b u e z=>by rw[z,hn] at e;cases e
 refine I.step (g':=s.gens) (d':=s.drawn) (ch:=[it]) (fun b hb=>?_) (fun b o _ _ hc e _=>k b o (fun z=>hc (by simp[z])) e) (fun b o _ _ hc e _=>⟨o.slots,k b o (fun z=>hc (by simp[z])) e⟩) (fun _ _ _ _ n=>n)
  (fun b o hc e=>⟨o,k b o (fun z=>hc (by simp[z])) e⟩) (fun _ _ e=>e) (fun _ _ _ e=>e) (fun b ps e=>⟨#[],by rw[e];simp⟩) (fun m hm=>?_) (fun b u e=>?_) I.bare
 . have e:b=it:=by simpa using hb
   subst e;exact⟨h1,hL,h2,h3⟩
 . obtain⟨o,es,ep,ho,r⟩:=hm;exact⟨o,es,ep,k _ o (Oj hL) ho,r⟩
 . refine(I.hok b u e).stay (fun c v hc q=>k c v ?_ q) (fun _ q=>q) fun _ _ q=>q;rcases hc with z | z
   . rw[z];exact nit b u e
   . exact nit c _ z
theorem Inv.tok(I:Inv X Lc σ H s)(t:Nat):Inv X Lc σ H {s with toks:=t}:=I.un (h':=s.heap) (t':=t) Un.refl I.hok
theorem Inv.kept{t':Nat}(I:Inv X Lc σ H s)(k:∀ b u,s.heap.get? b=some u->h'.get? b=some u):Inv X Lc σ H {s with heap:=h',toks:=t'}:=I.un (Un.kept k) (I.hok.kept k)
theorem Inv.laid{a:Addr}{o:HO}{t':Nat}(I:Inv X Lc σ H s)(k:∀ b u,s.heap.get? b=some u->h'.get? b=some u)(hp:s.heap.objs.size<=a)(new:ObjOk X.prog X.w (upd H a o) h' a o):
  Inv X Lc σ (upd H a o) {s with heap:=h',toks:=t'}:=I.un (Un.laid k hp (I.hok.fresh hp)) (I.hok.laid k hp new)
theorem Inv.write {x e:Addr} {o:HO} {t':Nat} (I:Inv X Lc σ H s) (mu:Mut (H x)) (he:e=x\/H e=some (.own x)) (k:∀ b u,b≠e->s.heap.get? b=some u->h'.get? b=some u) (heo:∃ u,h'.get? e=some u)
  (new:ObjOk X.prog X.w (upd H x o) h' x o):Inv X Lc σ (upd H x o) {s with heap:=h',toks:=t'}:=I.un (Un.write mu he k heo) (I.hok.write mu he k heo new)
theorem Inv.pins_of{pins':List (Addr × Obj)}(I:Inv X Lc σ H s)(h:∀ p∈pins',s.heap.get? p.1=some p.2/\H p.1=none/\p.1≠X.env.locals/\p.1∉X.fs/\∀ v,p.2.data≠.cell v):Inv X pins' σ H s:=
 ⟨I.ok,I.os,I.bare,I.base,I.loc,I.cell,I.free,I.freeC,fun p hp=>(LR.mp hp).elim (fun z=>I.pin p (NI _ z)) (h p),I.hok,I.len⟩
theorem ze{N:List Str}(hN:N.Nodup){i j:Nat}{x:Str}(a:N[i]? =some x)(b:N[j]? =some x):i=j:=by
 obtain⟨h1,e1⟩:=Lx.mp a;obtain⟨h2,e2⟩:=Lx.mp b;exact(List.getElem_inj hN).mp (e1.trans e2.symm)
theorem xT {M:Model} {A:Around} {E:Value->Shared->Prop} {i:Nat} {x:Str} {v:V} {u:Value} {Q:Unit->Shared->Prop} (I:Inv X Lc σ H s) (hN:X.N.Nodup) (hi:X.N[i]? =some x) (hx:Loc X.env.scope x) (r:RelV v u)
  (h:∀ s',Inv X Lc (σ.set i (some v)) H s'->(∃ a,Heap.SameBut a s.heap s'.heap/\(a=X.env.locals\/X.env.cells.lookup x=some a))->Q () s') (hf:X.fn x=true\/X.env.scope.names.lookup x=some .local:=by first | exact .inl rfl | exact .inr rfl | assumption):wpAny M A (storeName X.env x u) Q E s:=by
 obtain⟨m,hn,hl⟩:=id I.loc;have hcls:(X.env.scope.kind==.class||(X.env.scope.kind==.module&&X.env.locals != X.env.globals))=false:=by rw[I.ok.kind];rfl
 have hiσ:i<σ.length:=by rw[I.len];exact(Lx.mp hi).1
 have cne:=I.cne
 have tracked:∀{a:Addr} {h':Heap},(∃ o,s.heap.get? a=some o/\H a=none)->Heap.SameBut a s.heap h'->HOk X.prog X.w H h':=fun{a h'} ha hs b ob e=>by
  obtain⟨_,_,hfree⟩:=ha;refine(I.hok b ob e).stay (fun c w' hc q=>(hs.2 c ?_).trans q) (fun _ q=>q) fun _ _ q=>q;rintro rfl;rcases hc with rfl | hc
  . rw[hfree] at e;cases e
  . rw[hfree] at hc;cases hc
 rcases hx with hk | hk
 . refine wpAny_storeName_local hk hn (fun h' hn' hs=>?_) hcls;obtain⟨oL,_,_,hoL,_⟩:=id hn;refine h _ ⟨I.ok,I.os,I.bare,⟨fun b o e n hb hx=>?_,fun b o e n hb hx=>?_,I.base.free,fun b o e hx=>?_,I.base.tups,I.base.frzs,I.base.tbls⟩,⟨_,hn',fun j y v' e1 e2 e3=>?_⟩,fun y c e=>?_,I.free,I.freeC,fun p hp=>?_,tracked ⟨oL,hoL,I.free⟩ hs,by simpa using I.len⟩ ⟨_,hs,.inl rfl⟩
   . exact(hs.2 b (Mi (LY (LS e) I.ok.above))).trans (I.base.keep b o e n hb hx)
   . obtain⟨sl,e1⟩:=I.base.slot b o e n hb hx;exact⟨sl,(hs.2 b (Mi (LY (LS e) I.ok.above))).trans e1⟩
   . obtain⟨o',e1⟩:=I.base.there b o e hx;exact⟨o',(hs.2 b (Mi (LY (LS e) I.ok.above))).trans e1⟩
   . by_cases hj:j=i
     . subst hj;rw[hi] at e1;cases e1;rw[Ol hiσ] at e2;cases e2;exact⟨u,r,.inl ⟨hk,by simp⟩⟩
     . rw[List.getElem?_set_ne (Oj hj)] at e2;obtain⟨u',r',q⟩:=hl j y v' e1 e2 e3;refine⟨u',r',?_⟩;rcases q with ⟨k,e⟩ | ⟨k,c,e,z⟩
       . refine .inl ⟨k,?_⟩;have:y≠x:=fun e=>hj (ze hN e1 (e ▸ hi));simp[this,e]
       . exact .inr ⟨k,c,e,z.sameBut hs (cne y c e)⟩
   . obtain⟨w',z⟩:=I.cell y c e;exact⟨w',z.sameBut hs (cne y c e)⟩
   . obtain⟨e,n,ne,nf,d⟩:=I.pin p hp;exact⟨(hs.2 p.1 ne).trans e,n,ne,nf,d⟩
 . have hfn:X.fn x=true:=by
    rcases hf with z | z
    . exact z
    . rw[z] at hk;cases hk
   obtain⟨c,hc⟩:=I.ok.has x (.inl hk);obtain⟨w',z⟩:=I.cell x c hc;refine wpAny_storeName_cell I.ok.kind hk hc z (fun h' hc' hs=>?_);obtain⟨oc,hoc,hocd⟩:=id z;refine h {s with heap:=h'} ⟨I.ok,I.os,I.bare,⟨fun b o e n hb hx=>?_,fun b o e n hb hx=>?_,I.base.free,fun b o e hx=>?_,I.base.tups,I.base.frzs,I.base.tbls⟩,⟨m,hn.sameBut hs (Oj (cne x c hc)),fun j y v' e1 e2 e3=>?_⟩,fun y c' e=>?_,I.free,I.freeC,fun p hp=>?_,tracked ⟨oc,hoc,I.freeC x c hc⟩ hs,by simpa using I.len⟩ ⟨c,hs,.inr hc⟩
   . exact(hs.2 b (Mi (LY (LS e) (I.ok.cab x c hfn hc)))).trans (I.base.keep b o e n hb hx)
   . obtain⟨sl,e1⟩:=I.base.slot b o e n hb hx;exact⟨sl,(hs.2 b (Mi (LY (LS e) (I.ok.cab x c hfn hc)))).trans e1⟩
   . obtain⟨o',e1⟩:=I.base.there b o e hx;exact⟨o',(hs.2 b (Mi (LY (LS e) (I.ok.cab x c hfn hc)))).trans e1⟩
   . by_cases hj:j=i
     . subst hj;rw[hi] at e1;cases e1;rw[Ol hiσ] at e2;cases e2;exact⟨u,r,.inr ⟨.inl hk,c,hc,hc'⟩⟩
     . rw[List.getElem?_set_ne (Oj hj)] at e2;obtain⟨u',r',q⟩:=hl j y v' e1 e2 e3;refine⟨u',r',?_⟩;rcases q with q | ⟨k,c',e,z'⟩
       . exact .inl q
       . refine .inr ⟨k,c',e,z'.sameBut hs ?_⟩;rintro rfl;exact hj (ze hN e1 (I.ok.inj _ _ _ e hc ▸ hi))
   . by_cases hcc:c'=c
     . subst hcc;exact⟨_,hc'⟩
     . obtain⟨w2,z2⟩:=I.cell y c' e;exact⟨w2,z2.sameBut hs hcc⟩
   . obtain⟨e,n,ne,nf,d⟩:=I.pin p hp;refine⟨(hs.2 p.1 ?_).trans e,n,ne,nf,d⟩;intro q;rw[q,hoc] at e;have q':oc=p.2:=MQ e;exact d w' (by rw[← q'];exact hocd)
theorem zf {M:Model} {A:Around} {E:Value->Shared->Prop} {i:Nat} {x:Str} {v:V} {u:Value} {Q:Unit->Shared->Prop} (I:Inv X Lc σ H s) (hN:X.N.Nodup) (hi:X.N[i]? =some x) (hx:Loc X.env.scope x) (r:RelV v u)
  (h:∀ s',Inv X Lc (σ.set i (some v)) H s'->Q () s') (hf:X.fn x=true\/X.env.scope.names.lookup x=some .local:=by first | exact .inl rfl | exact .inr rfl | assumption):wpAny M A (storeName X.env x u) Q E s:=
 xT I hN hi hx r (fun s' I' _=>h s' I') hf
theorem Inv.call' {s':Shared} {ch:List Addr} (I:Inv X Lc σ H s) (ho:s'.os=s.os) (u:Un (frs X.stack) ch H H' s.heap s'.heap) (hok:HOk X.prog X.w H' s'.heap) (hg:AllBare s'.gens)
  (hch:∀ b∈ch,(b∈X.ex\/X.s₀.heap.objs.size<=b)/\b≠X.env.locals/\(∀ x c,X.env.cells.lookup x=some c->c≠b)/\∀ p∈X.pn++Lc,p.1≠b):Inv X Lc σ H' s':=by
 obtain⟨h',g',d',t',o'⟩:=s';have e:o'=s.os:=ho;subst e;exact I.call (g':=g') (t':=t') (d':=d') u hok hg hch
end
abbrev XK:=Value->Option Addr->Hp->Prop
abbrev St:=List (Option V)
abbrev VK:=V->Hp->Prop
abbrev TE:=St->Hp->VK->Prop
abbrev TT:=St->Hp->(Bool->Hp->Prop)->Prop
abbrev TA:=St->Hp->(List V->Hp->Prop)->Prop
structure Ends where
 nx:St->Hp->Prop
 rt:VK
 bk:St->Hp->Prop:=fun _ _=>False
 ct:St->Hp->Prop:=fun _ _=>False
abbrev TS:=Ends->St->Hp->Prop
def EP(X:Cx)(Lc:List (Addr × Obj))(σ:St)(Q:VK)(u:Value)(s':Shared):Prop:=∃ v H',Inv X Lc σ H' s'/\RelV v u/\Q v H'
def TP(X:Cx)(Lc:List (Addr × Obj))(σ:St)(Q:Bool->Hp->Prop)(b:Bool)(s':Shared):Prop:=∃ H',Inv X Lc σ H' s'/\Q b H'
def AP(X:Cx)(Lc:List (Addr × Obj))(σ:St)(Q:List V->Hp->Prop)(us:List Value)(s':Shared):Prop:=∃ vs H',Inv X Lc σ H' s'/\Vals vs us/\Q vs H'
def SP(X:Cx)(Lc:List (Addr × Obj))(D:Ends)(f:Flow)(s':Shared):Prop:=
 match f with
 | .next=>∃ σ' H',Inv X Lc σ' H' s'/\D.nx σ' H'
 | .brk=>∃ σ' H',Inv X Lc σ' H' s'/\D.bk σ' H'
 | .cont=>∃ σ' H',Inv X Lc σ' H' s'/\D.ct σ' H'
 | .ret u=>∃ v σ' H',Inv X Lc σ' H' s'/\RelV v u/\D.rt v H'
def PE(X:Cx)(e:Expr)(t:TE):Prop:=
 ∀(Lc:List (Addr × Obj)) (s:Shared) (σ:St) (H:Hp) (Q:VK),Inv X Lc σ H s->t σ H Q->wpAny (model X.prog X.w) X.A (eval e X.env) (EP X Lc σ Q) X.xe s
def PT(X:Cx)(e:Expr)(t:TT):Prop:=
 ∀(Lc:List (Addr × Obj)) (s:Shared) (σ:St) (H:Hp) (Q:Bool->Hp->Prop),Inv X Lc σ H s->t σ H Q->wpAny (model X.prog X.w) X.A (isTrue e X.env (eval e X.env)) (TP X Lc σ Q) X.xe s
def PW(X:Cx)(e:Expr)(t:TT):Prop:=
 ∀(Lm:Sem Value) (Lc:List (Addr × Obj)) (s:Shared) (σ:St) (H:Hp) (Q:Bool->Hp->Prop),Inv X Lc σ H s->t σ H Q->wpAny (model X.prog X.w) X.A (isTrue e X.env Lm) (TP X Lc σ Q) X.xe s
theorem PW.pt{X:Cx}{e:Expr}{t:TT}(h:PW X e t):PT X e t:=h _
abbrev M0:=@PW.pt
def PA(X:Cx)(es:List Expr)(t:TA):Prop:=
 ∀(pos:Pos) (Lc:List (Addr × Obj)) (s:Shared) (σ:St) (H:Hp) (Q:List V->Hp->Prop),Inv X Lc σ H s->t σ H Q->wpAny (model X.prog X.w) X.A (spliced (backTo pos (starEach es X.env))) (AP X Lc σ Q) X.xe s
def PS(X:Cx)(st:Stmt)(t:TS):Prop:=
 ∀(Lc:List (Addr × Obj)) (s:Shared) (σ:St) (H:Hp) (D:Ends),Inv X Lc σ H s->t D σ H->wpAny (model X.prog X.w) X.A (exec st X.env) (SP X Lc D) X.xe s
def PSs(X:Cx)(st:List Stmt)(t:TS):Prop:=
 ∀(Lc:List (Addr × Obj)) (s:Shared) (σ:St) (H:Hp) (D:Ends),Inv X Lc σ H s->t D σ H->wpAny (model X.prog X.w) X.A (execs st X.env) (SP X Lc D) X.xe s
theorem thn{α:Type}{t:Sem α}{Q Q':α->Shared->Prop}{M:Model}{A:Around}{E:Value->Shared->Prop}{s:Shared}(h:wpAny M A t Q E s)(hQ:∀ a s,Q a s->Q' a s):wpAny M A t Q' E s:=MC h hQ fun _ _ x=>x
section
variable{X:Cx}
def vB:Option (Option V)->(V->Prop)->Prop
 | some (some v),k=>k v
 | _,_=>False
theorem Fx{o:Option (Option V)}{k:V->Prop}(h:vB o k):∃ v,o=some (some v)/\k v:=by
 rcases o with _ | _ | v
 . cases h
 . cases h
 . exact⟨v,rfl,h⟩
theorem pR{o:Option (Option V)}{k:V->Prop}{v:V}(e:o=some (some v))(h:k v):vB o k:=by subst e;exact h
def tVar(i:Nat):TE:=fun σ H Q=>vB σ[i]? fun v=>Q v H
def tC(v:V):TE:=fun _ H Q=>Q v H
theorem GD{i:Nat}{x:Str}{pos:Pos}(hN:X.N[i]? =some x)(hv:Vis X.env.scope x)(hd:(x==("__debug__":Str))=false:=by decide)(hcd:(x==("__classdict__":Str))=false:=by decide):PE X (.Name x pos) (tVar i):=by
 intro Lc s σ H Q I h;obtain⟨v,e,h⟩:=Fx h;obtain⟨m,hn,hl⟩:=I.loc;obtain⟨u,r,l⟩:=hl i x v hN e hv;have fin:EP X Lc σ Q u s:=⟨v,H,I,r,h⟩;rcases l with ⟨hk,hm⟩ | ⟨hk,c,hc,hcell⟩
 . exact wpAny_Name (wpAny_loadName_local I.ok.kind hk hn hm fin) hd
 . rcases hk with hk | hk
   . exact wpAny_Name (wpAny_loadName_cell I.ok.kind hk hc hcell fin) hd
   . exact wpAny_Name (wpAny_loadName_free I.ok.kind hk hc hcell fin hcd) hd
theorem ae{i j pos}:PE X (.Constant (.int i) j pos) (tC (.int i)):=fun _ _ _ H _ I h=>wpAny_Constant_int ⟨.int i,H,I.tok _,⟨_,rfl⟩,h⟩
theorem bg{b j pos}:PE X (.Constant (.bool b) j pos) (tC (.bl b)):=fun _ _ _ H _ I h=>Constant_bool ⟨.bl b,H,I,rfl,h⟩
theorem ld{j pos}:PE X (.Constant .none j pos) (tC .non):=fun _ _ _ H _ I h=>Constant_none ⟨.non,H,I,rfl,h⟩
theorem au{x j pos}:PE X (.Constant (.str x) j pos) (tC (.str x)):=fun _ _ _ H _ I h=>Calls.Constant_str ⟨.str x,H,I.tok _,⟨_,rfl⟩,h⟩
def Gl(X:Cx)(x:Str):Prop:=X.env.kindOf x=some .globalImplicit
theorem xb {E:Value->Shared->Prop} {Lc:List (Addr × Obj)} {s:Shared} {σ:St} {H:Hp} {x:Str} {u:Value} {pos:Pos} {Q:Value->Shared->Prop} (I:Inv X Lc σ H s) (hg:Gl X x) (hm:X.mg x=some u) (h:Q u s)
  (hd:(x==("__debug__":Str))=false:=by decide):wpAny (model X.prog X.w) X.A (eval (.Name x pos) X.env) Q E s:=
 NX I.ok.kind hg (Calls.loadGlobal_global (by rw[I.ok.glob];exact I.mod.glob.keeps I.bk) hm h) hd
theorem iC {E:Value->Shared->Prop} {Lc:List (Addr × Obj)} {s:Shared} {σ:St} {H:Hp} {x:Str} {u:Value} {pos:Pos} {Q:Value->Shared->Prop} (I:Inv X Lc σ H s) (hg:Gl X x) (hm:X.mg x=none) (hv:bootBuiltins x=some u) (h:Q u s)
  (hn:x≠"__name__":=by decide) (hd:(x==("__debug__":Str))=false:=by decide):wpAny (model X.prog X.w) X.A (eval (.Name x pos) X.env) Q E s:=by
 obtain⟨mb,h1,h2⟩:=I.mod.blt;exact NX I.ok.kind hg (Calls.loadGlobal_builtin (by rw[I.ok.glob];exact I.mod.glob.keeps I.bk) hm (by rw[I.ok.blt];exact h1.keeps I.bk) ((h2 x hn).trans hv) h) hd
theorem dg{x:Str}{v:V}{u:Value}{pos:Pos}(hg:Gl X x)(hm:X.mg x=some u)(r:RelV v u)(hd:(x==("__debug__":Str))=false:=by decide):PE X (.Name x pos) (tC v):=
 fun _ _ _ H _ I h=>xb I hg hm ⟨v,H,I,r,h⟩ hd
theorem fi{x:Str}{v:V}{u:Value}{pos:Pos}(hg:Gl X x)(hm:X.mg x=none)(hv:bootBuiltins x=some u)(r:RelV v u)(hn:x≠"__name__":=by decide)(hd:(x==("__debug__":Str))=false:=by decide):PE X (.Name x pos) (tC v):=
 fun _ _ _ H _ I h=>iC I hg hm hv ⟨v,H,I,r,h⟩ hn hd
variable{a b:Expr}{ta tb:TE}{pos:Pos}
def tB(t:TE):TT:=fun σ H Q=>t σ H fun x H1=>∃ c,x=.bl c/\Q c H1
theorem aI{e:Expr}{t:TE}(h:PE X e t)(he:∀ Lm,isTrue e X.env Lm=(do let v ← Lm;standAt e.pos;holding [v] (truthy v)):=by intro _;rfl):PT X e (tB t):=by
 intro Lc s σ H Q I hw;refine isTrue_plain (thn (h Lc s σ H _ I hw) fun v s1 ⟨x,H1,I1,r1,q1⟩=>?_) (he _);obtain⟨d,rfl,q⟩:=q1;cases r1;exact MF ⟨H1,I1,q⟩
variable{tA tB':TT}{rest:List Expr}
def tAnd(t u:TT):TT:=fun σ H Q=>t σ H fun c H1=>if c=true then u σ H1 Q else Q false H1
def tOr(t u:TT):TT:=fun σ H Q=>t σ H fun c H1=>if c=true then Q true H1 else u σ H1 Q
def tNot(t:TT):TT:=fun σ H Q=>t σ H fun c H1=>Q (!c) H1
theorem fV(ha:PT X a tA):PW X (.BoolOp .And [a] pos) tA:=by
 intro wh Lc s σ H Q I h;refine isTrue_and (thn (ha Lc s σ H Q I h) fun c s1 e=>?_)
 cases c with
 | true=>exact isTrue_and_nil e
 | false=>exact e
theorem bJ(ha:PT X a tA):PW X (.BoolOp .Or [a] pos) tA:=by
 intro wh Lc s σ H Q I h;refine isTrue_or (thn (ha Lc s σ H Q I h) fun c s1 e=>?_)
 cases c with
 | false=>exact isTrue_or_nil e
 | true=>exact e
theorem gt(ha:PT X a tA)(hb:PW X (.BoolOp .And (b::rest) pos) tB'):PW X (.BoolOp .And (a::b::rest) pos) (tAnd tA tB'):=by
 intro wh Lc s σ H Q I h;refine isTrue_and (thn (ha Lc s σ H _ I h) fun c s1 ⟨H1,I1,q1⟩=>?_)
 cases c with
 | true=>exact hb wh Lc s1 σ H1 Q I1 q1
 | false=>exact⟨H1,I1,q1⟩
theorem bG(ha:PT X a tA)(hb:PW X (.BoolOp .Or (b::rest) pos) tB'):PW X (.BoolOp .Or (a::b::rest) pos) (tOr tA tB'):=by
 intro wh Lc s σ H Q I h;refine isTrue_or (thn (ha Lc s σ H _ I h) fun c s1 ⟨H1,I1,q1⟩=>?_)
 cases c with
 | true=>exact⟨H1,I1,q1⟩
 | false=>exact hb wh Lc s1 σ H1 Q I1 q1
theorem bb(ha:PT X a tA):PT X (.UnaryOp .Not a pos) (tNot tA):=by
 intro Lc s σ H Q I h;exact isTrue_not (ha Lc s σ H (fun c H1=>Q (!c) H1) I h)
def tAndV(ta tb:TE):TE:=fun σ H Q=>ta σ H fun x H1=>∃ c,x=.bl c/\if c=true then tb σ H1 Q else Q (.bl false) H1
def tOrV(ta tb:TE):TE:=fun σ H Q=>ta σ H fun x H1=>∃ c,x=.bl c/\if c=true then Q (.bl true) H1 else tb σ H1 Q
def tNotV(ta:TE):TE:=fun σ H Q=>ta σ H fun x H1=>∃ c,x=.bl c/\Q (.bl (!c)) H1
theorem bq{op}{t:TE}(h:PE X a t):PE X (.BoolOp op [a] pos) t:=fun Lc s σ H Q I hw=>BoolOp_one (h Lc s σ H Q I hw)
theorem bc(ha:PE X a ta)(hb:PE X (.BoolOp .And (b::rest) pos) tb):PE X (.BoolOp .And (a::b::rest) pos) (tAndV ta tb):=by
 intro Lc s σ H Q I h;refine BoolOp_and (thn (ha Lc s σ H _ I h) fun v s1 ⟨x,H1,I1,r1,q1⟩=>?_);obtain⟨c,rfl,q1⟩:=q1;cases r1;refine MF ?_
 cases c with
 | true=>exact hb Lc s1 σ H1 Q I1 q1
 | false=>exact⟨.bl false,H1,I1,rfl,q1⟩
theorem y7(ha:PE X a ta)(hb:PE X (.BoolOp .Or (b::rest) pos) tb):PE X (.BoolOp .Or (a::b::rest) pos) (tOrV ta tb):=by
 intro Lc s σ H Q I h;refine BoolOp_or (thn (ha Lc s σ H _ I h) fun v s1 ⟨x,H1,I1,r1,q1⟩=>?_);obtain⟨c,rfl,q1⟩:=q1;cases r1;refine MF ?_
 cases c with
 | false=>exact hb Lc s1 σ H1 Q I1 q1
 | true=>exact⟨.bl true,H1,I1,rfl,q1⟩
theorem Dh(ha:PE X a ta):PE X (.UnaryOp .Not a pos) (tNotV ta):=by
 intro Lc s σ H Q I h;refine UnaryOp_ (thn (ha Lc s σ H _ I h) fun v s1 ⟨x,H1,I1,r1,q1⟩=>?_);obtain⟨c,rfl,q1⟩:=q1;cases r1;exact not_of (MF ⟨.bl (!c),H1,I1,rfl,q1⟩)
def tIf(t:TT)(ta tb:TE):TE:=fun σ H Q=>t σ H fun c H1=>if c=true then ta σ H1 Q else tb σ H1 Q
theorem ku{c:Expr}(hc:PT X c tA)(ha:PE X a ta)(hb:PE X b tb):PE X (.IfExp c a b pos) (tIf tA ta tb):=by
 intro Lc s σ H Q I h;refine wpAny_IfExp (thn (hc Lc s σ H _ I h) fun d s1 ⟨H1,I1,q1⟩=>?_)
 cases d with
 | true=>exact ha Lc s1 σ H1 Q I1 q1
 | false=>exact hb Lc s1 σ H1 Q I1 q1
end
def SqL(K:Frag)(H:Hp)(a:Addr)(xs:List V):Prop:=
 Rd H a (.lst xs)\/
  ∃(o:Obj) (Lg:Array Value) (n:Nat),K.lookup a=some o/\o.cls=.type "list"/\o.dict=none/\o.data=.seq Lg n/\Lg.size<=sizeLine/\Vals xs Lg.toList
def SqT(K:Frag)(H:Hp)(a:Addr)(xs:List V):Prop:=
 Rd H a (.tup xs)\/
  ∃(o:Obj) (Lg:Array Value) (n:Nat),K.lookup a=some o/\o.cls=.type "tuple"/\o.data=.seq Lg n/\Lg.size<=sizeLine/\Vals xs Lg.toList
def absV:Value->Option V
 | .none=>some .non
 | .bool b=>some (.bl b)
 | .int i _=>some (.int i)
 | .str x _=>some (.str x)
 | .bytes b _=>some (.byt b)
 | .float b _=>some (.flt b)
 | .ref a=>some (.ref a)
 | .type n=>some (.ty n)
 | _=>none
variable{u:Value}
theorem RelV.abs{x:V}(r:RelV x u):absV u=some x:=by
 cases x with
 | non=>cases r;rfl
 | bl _=>cases r;rfl
 | int _=>obtain⟨t,rfl⟩:=r;rfl
 | str _=>obtain⟨t,rfl⟩:=r;rfl
 | byt _=>obtain⟨t,rfl⟩:=r;rfl
 | flt _=>obtain⟨t,rfl⟩:=r;rfl
 | ref _=>cases r;rfl
 | ty _=>cases r;rfl
theorem RelV.inj{x y:V}(r:RelV x u)(q:RelV y u):x=y:=MQ (r.abs.symm.trans q.abs)
theorem Vals.inj:∀{xs ys:List V} {us:List Value},Vals xs us->Vals ys us->xs=ys
 | _,_,_,.nil,.nil=>rfl
 | _,_,_,.cons r t,.cons r' t'=>by rw[r.inj r',Vals.inj t t']
section
variable{X:Cx}{Lc:List (Addr × Obj)}{σ:St}{H:Hp}{s:Shared}{a:Addr}{xs ys:List V}
theorem SqL.of{K:Frag}(h:H a=some (.lst xs)):SqL K H a xs:=.inl (.inl h)
abbrev LH:=@SqL.of
theorem SqT.of{K:Frag}(h:H a=some (.tup xs)):SqT K H a xs:=.inl (.inl h)
abbrev OQ:=@SqT.of
theorem Inv.list(I:Inv X Lc σ H s)(h:SqL X.K H a xs):∃ Lg:List Value,Vals xs Lg/\PlainL s.heap a Lg.toArray/\xs.length<=sizeLine:=by
 rcases h with h | ⟨o,Lg,n,hk,hc,hd,hs,hz,r⟩
 . obtain⟨z,Lg,n,r,e⟩:=h.ok I.hok;exact⟨Lg,r,⟨_,n,e,rfl,rfl,rfl⟩,z⟩
 . refine⟨Lg.toList,r,⟨o,n,I.kIn a o hk,hc,hd,by simpa using hs⟩,?_⟩;have e:=r.length;simp only[No] at e;omega
theorem Inv.tuple(I:Inv X Lc σ H s)(h:SqT X.K H a xs):∃ Lg:List Value,Vals xs Lg/\IsTup s.heap a Lg.toArray/\xs.length<=sizeLine:=by
 rcases h with h | ⟨o,Lg,n,hk,hc,hs,hz,r⟩
 . obtain⟨z,Lg,r,p⟩:=h.ok I.hok;exact⟨Lg,r,p,z⟩
 . refine⟨Lg.toList,r,⟨o,I.kIn a o hk,hc,n,by simpa using hs⟩,?_⟩;have e:=r.length;simp only[No] at e;omega
theorem Inv.list_inj(I:Inv X Lc σ H s)(h:SqL X.K H a xs)(h':SqL X.K H a ys):xs=ys:=by
 obtain⟨Lg,r,⟨o,n,e,_,_,d⟩,_⟩:=I.list h;obtain⟨its',r',⟨o',n',e',_,_,d'⟩,_⟩:=I.list h';rw[e] at e';cases e';rw[d] at d';injection d' with d1 _;have:Lg=its':=by simpa using congrArg Array.toList d1
 subst this;exact r.inj r'
theorem Inv.tuple_inj(I:Inv X Lc σ H s)(h:SqT X.K H a xs)(h':SqT X.K H a ys):xs=ys:=by
 obtain⟨Lg,r,⟨o,e,_,n,d⟩,_⟩:=I.tuple h;obtain⟨its',r',⟨o',e',_,n',d'⟩,_⟩:=I.tuple h';rw[e] at e';cases e';rw[d] at d';injection d' with d1 _;have:Lg=its':=by simpa using congrArg Array.toList d1
 subst this;exact r.inj r'
end
abbrev Cx.wish(X:Cx)(E:Value->Shared->Prop):Cx:={X with xe:=E}
abbrev Cx.nox(X:Cx):Cx:=X.wish fun _ _=>False
variable{X:Cx}
theorem Cx.Ok.wish(ok:X.Ok)(E:Value->Shared->Prop):(X.wish E).Ok:=
 ⟨ok.mod,ok.kind,ok.glob,ok.blt,ok.above,ok.inj,ok.has,ok.cab,ok.hd,ok.frames,ok.stk,ok.exf,ok.bs,ok.bsz,ok.noex,ok.exfs,ok.funs,ok.frf⟩
variable{E:Value->Shared->Prop}
theorem Cx.Ok.unwish(ok:(X.wish E).Ok):X.Ok:=
 ⟨ok.mod,ok.kind,ok.glob,ok.blt,ok.above,ok.inj,ok.has,ok.cab,ok.hd,ok.frames,ok.stk,ok.exf,ok.bs,ok.bsz,ok.noex,ok.exfs,ok.funs,ok.frf⟩
section
variable{X:Cx}{Lc:List (Addr × Obj)}{σ:St}{H:Hp}{s:Shared}{E:Value->Shared->Prop}
theorem Inv.wish(I:Inv X Lc σ H s)(E:Value->Shared->Prop):Inv (X.wish E) Lc σ H s:=⟨I.ok.wish E,I.os,I.bare,I.base,I.loc,I.cell,I.free,I.freeC,I.pin,I.hok,I.len⟩
theorem Inv.unwish(I:Inv (X.wish E) Lc σ H s):Inv X Lc σ H s:=⟨I.ok.unwish,I.os,I.bare,I.base,I.loc,I.cell,I.free,I.freeC,I.pin,I.hok,I.len⟩
theorem SP.unwish{D:Ends}{f:Flow}{s':Shared}(h:SP (X.wish E) Lc D f s'):SP X Lc D f s':=by
 cases f with
 | next=>obtain⟨σ',H',I,q⟩:=h;exact⟨σ',H',I.unwish,q⟩
 | brk=>obtain⟨σ',H',I,q⟩:=h;exact⟨σ',H',I.unwish,q⟩
 | cont=>obtain⟨σ',H',I,q⟩:=h;exact⟨σ',H',I.unwish,q⟩
 | ret u=>obtain⟨v,σ',H',I,r,q⟩:=h;exact⟨v,σ',H',I.unwish,r,q⟩
theorem PSs.nox{st:List Stmt}{t:TS}(h:PSs X.nox st t):PSs X st t:=fun Lc s σ H D I hw=>
 MC (h Lc s σ H D (I.wish _) hw) (fun _ _ q=>q.unwish) fun _ _ z=>False.elim z
end
section
variable{X:Cx}{st:Stmt}{rest:List Stmt}{t u:TS}{e:Expr}{te:TE}{pos:Pos}
def tNext:TS:=fun D σ H=>D.nx σ H
def tSeq(t u:TS):TS:=fun D σ H=>t {D with nx:=u D} σ H
theorem am:PSs X [] tNext:=fun _ _ σ H _ I h=>NM ⟨σ,H,I,h⟩
theorem ad(h1:PS X st t)(h2:PSs X rest u):PSs X (st::rest) (tSeq t u):=by
 intro Lc s σ H D I h;refine wpAny_execs_cons (thn (h1 Lc s σ H {D with nx:=u D} I h) fun f s1 q=>?_)
 cases f with
 | next=>
  obtain⟨σ',H',I',q⟩:=q;exact h2 Lc s1 σ' H' D I' q
 | ret v=>exact q
 | brk=>exact q
 | cont=>exact q
theorem af(h1:PS X st t):PSs X [st] t:=by
 intro Lc s σ H D I h;refine wpAny_execs_cons (thn (h1 Lc s σ H D I h) fun f s1 q=>?_)
 cases f with
 | next=>exact NM q
 | ret v=>exact q
 | brk=>exact q
 | cont=>exact q
theorem Inv.quiet{Lc:List (Addr × Obj)}{σ:St}{H:Hp}{s:Shared}(I:Inv X Lc σ H s):interactive X.env=false:=by simp[interactive,I.ok.kind]
def tDrop(te:TE):TS:=fun D σ H=>te σ H fun _ H1=>D.nx σ H1
theorem cQ(he:PE X e te)(hs:swapsWith e none pos.line X.env=pure false:=by rfl):PS X (.Expr e pos) (tDrop te):=by
 intro Lc s σ H D I h;exact wpAny_Expr_any (thn (he Lc s σ H _ I h) fun v s1 ⟨x,H1,I1,r1,q1⟩=>⟨σ,H1,I1,q1⟩) I.quiet hs
def tRet(te:TE):TS:=fun D σ H=>te σ H D.rt
theorem ag(he:PE X e te):PS X (.Return (some e) pos) (tRet te):=by
 intro Lc s σ H D I h;exact wpAny_Return_some (thn (he Lc s σ H _ I h) fun v s1 ⟨x,H1,I1,r1,q1⟩=>⟨x,σ,H1,I1,r1,q1⟩)
def tRetN:TS:=fun D _ H=>D.rt .non H
def tIfS(c:TT)(t u:TS):TS:=fun D σ H=>c σ H fun b H1=>if b=true then t D σ H1 else u D σ H1
theorem ar{c:Expr}{a b:List Stmt}{tc:TT}(hc:PT X c tc)(ha:PSs X a t)(hb:PSs X b u):PS X (.If c a b pos) (tIfS tc t u):=by
 intro Lc s σ H D I h;refine wpAny_If (thn (hc Lc s σ H _ I h) fun d s1 ⟨H1,I1,q1⟩=>?_)
 cases d with
 | true=>exact ha Lc s1 σ H1 D I1 q1
 | false=>exact hb Lc s1 σ H1 D I1 q1
def cu:TS:=fun _ _ _=>False
theorem bx:PS X st cu:=fun _ _ _ _ _ _ h=>h.elim
end
abbrev TG:=V->St->Hp->(St->Hp->Prop)->Prop
abbrev TGs:=List V->St->Hp->(St->Hp->Prop)->Prop
def PG(X:Cx)(target:Expr)(t:TG):Prop:=
 ∀(Lc:List (Addr × Obj)) (s:Shared) (σ:St) (H:Hp) (v:V) (u:Value) (Q:St->Hp->Prop),Inv X Lc σ H s->RelV v u->t v σ H Q->
  wpAny (model X.prog X.w) X.A (assign target X.env u) (fun _ s'=>∃ σ' H',Inv X Lc σ' H' s'/\Q σ' H') X.xe s
def PGs(X:Cx)(ts:List Expr)(t:TGs):Prop:=
 ∀(Lc:List (Addr × Obj)) (s:Shared) (σ:St) (H:Hp) (vs:List V) (us:List Value) (Q:St->Hp->Prop),Inv X Lc σ H s->Vals vs us->t vs σ H Q->
  wpAny (model X.prog X.w) X.A (assignInOrder ((assignEach ts X.env).map (·.2)) us) (fun _ s'=>∃ σ' H',Inv X Lc σ' H' s'/\Q σ' H') X.xe s
abbrev TSet:=V->V->V->Hp->(Hp->Prop)->Prop
def PSet(X:Cx)(t:TSet):Prop:=
 ∀(Lc:List (Addr × Obj)) (s:Shared) (σ:St) (H:Hp) (o i v:V) (ov iv u:Value) (Q:Hp->Prop),Inv X Lc σ H s->RelV o ov->RelV i iv->RelV v u->t o i v H Q->
  wpAny (model X.prog X.w) X.A (setItem ov iv u) (fun _ s'=>∃ H',Inv X Lc σ H' s'/\Q H') X.xe s
section
variable{X:Cx}{pos:Pos}
def gName(i:Nat):TG:=fun v σ H Q=>Q (σ.set i (some v)) H
theorem aq{i:Nat}{x:Str}(hN:X.N.Nodup)(hi:X.N[i]? =some x)(hx:Loc X.env.scope x)(hf:X.fn x=true\/X.env.scope.names.lookup x=some .local:=by first | exact .inl rfl | exact .inr rfl | assumption):PG X (.Name x pos) (gName i):=by
 intro Lc s σ H v u Q I r h;exact wpAny_assign_Name (zf I hN hi hx r (fun s' I'=>⟨_,H,I',h⟩) hf)
def gNil:TGs:=fun vs σ H Q=>vs=[]/\Q σ H
def gCons(t:TG)(u:TGs):TGs:=fun vs σ H Q=>∃ v r,vs=v::r/\t v σ H fun σ' H'=>u r σ' H' Q
theorem je:PGs X [] gNil:=by
 intro Lc s σ H vs us Q I r h;obtain⟨e,h⟩:=h;subst e;cases r;exact assignInOrder_nil ⟨σ,H,I,h⟩
theorem bo {e:Expr} {es:List Expr} {t:TG} {u:TGs} (h1:PG X e t) (h2:PGs X es u)
  (hs:(assignEach (e::es) X.env).map (·.2)=assign e X.env::(assignEach es X.env).map (·.2):=by rfl):PGs X (e::es) (gCons t u):=by
 intro Lc s σ H vs us Q I r h;obtain⟨v,vr,e1,h⟩:=h;subst e1
 cases r with
 | cons r rr=>
  rw[hs];refine assignInOrder_cons (thn (h1 Lc s σ H _ _ _ I r h) fun _ s1 ⟨σ1,H1,I1,q1⟩=>?_);exact h2 Lc s1 σ1 H1 _ _ Q I1 rr q1
def gTup(K:Frag)(n:Nat)(t:TGs):TG:=fun v σ H Q=>∃ a xs,v=.ref a/\SqT K H a xs/\xs.length=n/\t xs σ H Q
theorem lf {es:List Expr} {k:Nat} {t:TGs} {n:Nat} (hc:X.calm=true) (h:PGs X es t)
  (hn:(assignEach es X.env).length=n:=by rfl) (hst:(assignEach es X.env).findIdx? (·.1)=none:=by rfl):PG X (.Tuple es k pos) (gTup X.K n t):=by
 intro Lc s σ H v u Q I r hw;obtain⟨a,xs,e1,hq,hl,hw⟩:=hw;subst e1;cases r;obtain⟨Lg,rv,ht,hz⟩:=I.tuple hq;refine assign_Tuple_tuple (I.ok.hd hc) ht (by simp[hn,← hl,rv.length]) hst fun h' hx=>?_;have I1:Inv X Lc σ H {s with heap:=h'}:=I.kept (t':=s.toks) fun b o e=>hx b o (Mi (LS e)) e;exact h Lc _ σ H xs _ Q I1 (by simpa using rv) hw
def gSub(to ti:TE)(t:TSet):TG:=fun v σ H Q=>to σ H fun o H1=>ti σ H1 fun i H2=>t o i v H2 fun H3=>Q σ H3
theorem Di {o i:Expr} {to ti:TE} {t:TSet} (ho:PE X o to) (hi:PE X i ti) (hs:PSet X t)
  (ha:∀ v,assign (.Subscript o i pos) X.env v=(do
   let ov ← holding [v] (eval o X.env);let iv ← holding [v,ov] (eval i X.env)
   standAt pos
   holding [v,ov,iv] (setItem ov iv v)
   release [v,ov,iv] []):=by intro _;rfl):PG X (.Subscript o i pos) (gSub to ti t):=by
 intro Lc s σ H v u Q I r h;rw[ha];refine LZ (Oc (thn (ho Lc s σ H _ I h) fun ov s1 ⟨x,H1,I1,r1,q1⟩=>?_));refine LZ (Oc (thn (hi Lc s1 σ H1 _ I1 q1) fun iv s2 ⟨y,H2,I2,r2,q2⟩=>?_));refine LZ (OF (LZ (Oc (thn (hs Lc s2 σ H2 x y v ov iv u _ I2 r1 r2 r q2) fun _ s3 ⟨H3,I3,q3⟩=>?_))));exact wpAny_release ⟨σ,H3,I3,q3⟩
def tAsg(te:TE)(g:TG):TS:=fun D σ H=>te σ H fun x H1=>g x σ H1 D.nx
theorem qV {tg e:Expr} {te:TE} {g:TG} (he:PE X e te) (hg:PG X tg g) (hs:swapsWithSole [tg] e pos.line X.env=pure false:=by rfl) (hw:swappedStores [tg] e X.env=pure none:=by rfl)
  (h1:(assignEach [tg] X.env).map (·.2)=[assign tg X.env]:=by rfl):PS X (.Assign [tg] e pos) (tAsg te g):=by
 intro Lc s σ H D I h;refine wpAny_Assign_stores (thn (he Lc s σ H _ I h) fun v s1 ⟨x,H1,I1,r1,q1⟩=>?_) hs hw;rw[h1];exact thn (hg Lc s1 σ H1 x v _ I1 r1 q1) fun _ s2 q=>q
theorem fR{i:Nat}{x:Str}{e:Expr}{te:TE}{pos':Pos}(hN:X.N.Nodup)(hi:X.N[i]? =some x)(hx:Loc X.env.scope x)(he:PE X e te)(hs:swapsWith e (some (.Name x pos')) pos.line X.env=pure false:=by rfl)(hf:X.fn x=true\/X.env.scope.names.lookup x=some .local:=by first | exact .inl rfl | exact .inr rfl | assumption):
  PS X (.Assign [.Name x pos'] e pos) (tAsg te (gName i)):=by
 intro Lc s σ H D I h;refine wpAny_Assign_Name (thn (he Lc s σ H _ I h) fun v s1 ⟨y,H1,I1,r1,q1⟩=>?_) hs;exact zf I1 hN hi hx r1 (fun s2 I2=>⟨_,H1,I2,q1⟩) hf
end
section
variable{X:Cx}{pos:Pos}
def zg(c:TT)(tb:TS):TS:=fun D σ H=>∃ W:Nat->St->Hp->Prop,(∃ m,W m σ H)/\∀ m σ H,W m σ H->
 c σ H fun b H1=>if b=true then ∃ N:St->Hp->Prop,(∀ σ' H',N σ' H'->∃ m',m'<m/\W m' σ' H')/\tb {D with nx:=N,ct:=N,bk:=D.nx} σ H1 else D.nx σ H1
theorem zh{c:Expr}{body:List Stmt}{tc:TT}{tb:TS}(hp:PassesOwn (model X.prog X.w) X.A X.env X.xe)(hc:PT X c tc)(hb:PSs X body tb):PS X (.While c body [] pos) (zg tc tb):=by
 intro Lc s σ H D I h;obtain⟨W,⟨m0,w0⟩,turn⟩:=h;refine wpAny_While (codeAny_whileLoop (fun n s'=>∃ σ' H',Inv X Lc σ' H' s'/\W n σ' H') ?_ m0 ⟨σ,H,I,w0⟩);rintro n s1 ⟨σ1,H1,I1,w1⟩;refine MT hp (thn (hc Lc s1 σ1 H1 _ I1 (turn n σ1 H1 w1)) fun b s2 ⟨H2,I2,q2⟩=>?_)
 cases b with
 | true=>
  obtain⟨N,hN,q2⟩:=q2;rw[LX rfl];refine MT hp (thn (hb Lc s2 σ1 H2 _ I2 q2) fun f s3 q3=>?_)
  cases f with
  | next=>
   obtain⟨σ3,H3,I3,n3⟩:=q3;obtain⟨m',hm,w3⟩:=hN σ3 H3 n3;exact⟨m',hm,σ3,H3,I3,w3⟩
  | cont=>
   obtain⟨σ3,H3,I3,n3⟩:=q3;obtain⟨m',hm,w3⟩:=hN σ3 H3 n3;exact⟨m',hm,σ3,H3,I3,w3⟩
  | brk=>exact q3
  | ret v=>exact q3
 | false=>
  rw[LU Ly];exact NM ⟨σ1,H2,I2,q2⟩
end
structure It where
 go:Nat->Hp->Prop
 yld:Nat->Hp->V->Hp->Prop
 stop:Nat->Hp->Prop
def FpOk(X:Cx)(Lc:List (Addr × Obj))(H:Hp)(b:Addr):Prop:=
 H b=none/\b≠X.env.locals/\b∉X.fs/\(b∈X.ex\/X.s₀.heap.objs.size<=b)/\(∀ x c,X.env.cells.lookup x=some c->c≠b)/\∀ p∈X.pn++Lc,p.1≠b
variable{s:Shared}
theorem Inv.fpOk{Lc:List (Addr × Obj)}{σ:St}{H H':Hp}{b:Addr}(I:Inv X Lc σ H s)(hb:s.heap.objs.size<=b)(hn:H' b=none):FpOk X Lc H' b:=by
 refine⟨hn,NU (LY I.lt hb),I.nofs hb,.inr (Lz I.sz hb),fun x c e z=>?_,fun p hp z=>?_⟩
 . obtain⟨v,q⟩:=I.cell x c e;exact absurd (LY q.lt (by rw[z];exact hb)) (MI _)
 . exact absurd (LY (LS (I.pin p hp).1) (by rw[z];exact hb)) (MI _)
structure Turn(P:Program)(w:World)(K:Frag)(tg:Expr)(J:It)(fp:List Addr)(it:Addr)(tn:Nat->Heap->Prop):Prop where
 mem:it∈fp
 obj:∀ i h,tn i h->∀ b∈fp,∃ o,h.get? b=some o/\∀ v,o.data≠.cell v
 keep:∀ i h h',tn i h->(∀ b∈fp,∀ o,h.get? b=some o->h'.get? b=some o)->tn i h'
 item:∀(X:Cx),X.prog=P->X.w=w->X.K=K->X.calm=true->∀(i:Nat) (Lc:List (Addr × Obj)) (s:Shared) (σ:St) (H:Hp) (E:Value->Shared->Prop),Inv X Lc σ H s->(∀ b∈fp,FpOk X Lc H b)->tn i s.heap->J.go i H->
  wpAny (model P w) X.A (pyNext (.ref it)) (fun r s1=>∃ u,r=some u/\
   wpAny (model P w) X.A (letOwnedTupleGo tg (.ref it) u) (fun _ s2=>∃ x H',Inv X Lc σ H' s2/\RelV x u/\J.yld i H x H'/\tn (i+1) s2.heap/\∀ b∈fp,H' b=none) E s1) E s
 done:∀(X:Cx),X.prog=P->X.w=w->X.K=K->X.calm=true->∀(i:Nat) (Lc:List (Addr × Obj)) (s:Shared) (σ:St) (H:Hp) (E:Value->Shared->Prop),Inv X Lc σ H s->(∀ b∈fp,FpOk X Lc H b)->tn i s.heap->J.stop i H->
  wpAny (model P w) X.A (pyNext (.ref it)) (fun r s1=>r=none/\Inv X Lc σ H s1) E s
 self:∀(A:Around) (i:Nat) (s:Shared) (Q:Value->Shared->Prop) (E:Value->Shared->Prop),tn i s.heap->Q (.ref it) s->wpAny (model P w) A (pyIter (.ref it)) Q E s
abbrev TI:=St->Hp->(It->Hp->Prop)->Prop
def PIE(X:Cx)(Lc:List (Addr × Obj))(σ:St)(tg:Expr)(R:It->Hp->Prop)(itv:Value)(s2:Shared):Prop:=
 ∃(it:Addr) (fp:List Addr) (tn:Nat->Heap->Prop) (J:It) (H':Hp),itv=.ref it/\Inv X Lc σ H' s2/\Turn X.prog X.w X.K tg J fp it tn/\tn 0 s2.heap/\(∀ b∈fp,FpOk X Lc H' b)/\R J H'
def PI(X:Cx)(tg iter:Expr)(wi:TI):Prop:=
 ∀(Lc:List (Addr × Obj)) (s:Shared) (σ:St) (H:Hp) (R:It->Hp->Prop),Inv X Lc σ H s->wi σ H R->
  wpAny (model X.prog X.w) X.A (eval iter X.env) (fun v s1=>wpAny (model X.prog X.w) X.A (pyIter v) (PIE X Lc σ tg R) X.xe s1) X.xe s
variable{tg:Expr}
theorem y8 {M:Model} {A:Around} {it:Addr} {o:Obj} {n:String} {vs:Array Value} {Q:Unit->Shared->Prop} (ho:s.heap.get? it=some o) (hc:o.cls=.type n) (hd:o.data=.fields vs)
  (hn:["enumerate","zip","dict_itemiterator","dict_reverseitemiterator","odict_iterator","itertools.zip_longest","itertools.pairwise"].contains n=false) (hQ:Q () s):wpAny M A (letOwnedTupleGo tg (.ref it) u) Q E s:=by
 unfold letOwnedTupleGo
 cases tg <;> first
  | exact Mq hQ
  | (cases u <;> first
    | exact Mq hQ
    | (refine LZ (wpAny_load ho ?_)
       rw[hc,hd];show wpAny M A (if (["enumerate","zip","dict_itemiterator","dict_reverseitemiterator","odict_iterator","itertools.zip_longest","itertools.pairwise"].contains n&&vs[0]? ==some (rawInt _))=true then _ else _) Q E s;rw[LU (by intro h;rw[hn,LA] at h;cases h)];exact Mq hQ))
def Itl(K:Frag)(a:Addr):It:=
 ⟨fun i H=>∃ xs x,SqL K H a xs/\xs[i]? =some x,fun i H x H'=>H'=H/\∀ xs,SqL K H a xs->xs[i]? =some x,fun i H=>∃ xs,SqL K H a xs/\xs.length<=i⟩
def Itt(K:Frag)(a:Addr):It:=
 ⟨fun i H=>∃ xs x,SqT K H a xs/\xs[i]? =some x,fun i H x H'=>H'=H/\∀ xs,SqT K H a xs->xs[i]? =some x,fun i H=>∃ xs,SqT K H a xs/\xs.length<=i⟩
def Itr(lo:Int)(n:Nat):It:=⟨fun i _=>i<n,fun i H x H'=>H'=H/\x=.int (lo+i),fun i _=>n<=i⟩
variable{P:Program}{w:World}{K:Frag}
theorem Dj(a it:Addr):Turn P w K tg (Itl K a) [it] it (fun i h=>h.IsListIter it a i) where
 mem:=by simp
 obj:=fun i h st b hb=>by
  have e:b=it:=by simpa using hb
  subst e;obtain⟨o,e,c,d⟩:=st;exact⟨o,e,fun v z=>by rw[d] at z;cases z⟩
 keep:=fun i h h' st k=>st.at fun o e=>k it (by simp) o e
 item:=by
  intro X hP hw hK hc i Lc s σ H E I hf st hg;subst hP hw hK;obtain⟨xs,x,hq,hx⟩:=hg;obtain⟨Lg,rv,p,hz⟩:=I.list hq;obtain⟨u,hu,ru⟩:=rv.get hx;obtain⟨f0,f1,f2,f3,f4,f5⟩:=hf it (by simp);refine wpAny_pyNext_list_item st p.isList (x:=u) (by simpa using hu) fun h' st' sb=>?_;have I1:Inv X Lc σ H {s with heap:=h'}:=I.turned (t':=s.toks) (fun b o hb e=>(sb.2 b hb).trans e) f0 f1 f3 f4 f5;obtain⟨o,e,c,d⟩:=id st';exact⟨u,rfl,y8 (s:={s with heap:=h'}) e c d (by decide) ⟨x,H,I1,ru,⟨rfl,fun ys hy=>by rw[I.list_inj hy hq];exact hx⟩,st',fun b hb=>(hf b hb).1⟩⟩
 done:=by
  intro X hP hw hK hc i Lc s σ H E I hf st hg;subst hP hw hK;obtain⟨xs,hq,hx⟩:=hg;obtain⟨Lg,rv,p,hz⟩:=I.list hq;obtain⟨f0,f1,f2,f3,f4,f5⟩:=hf it (by simp);have hl:=rv.length;exact wpAny_pyNext_list_end (I.ok.hd hc) st p.isList (by simp;omega) fun h' eb=>⟨rfl,I.turned (t':=s.toks) (fun b o hb e=>eb b o hb e) f0 f1 f3 f4 f5⟩
 self:=fun _ _ _ _ _ st h=>wpAny_pyIter_listiter st h
theorem B3(a it:Addr):Turn P w K tg (Itt K a) [it] it (fun i h=>h.IsTupleIter it a i) where
 mem:=by simp
 obj:=fun i h st b hb=>by
  have e:b=it:=by simpa using hb
  subst e;obtain⟨o,e,c,d⟩:=st;exact⟨o,e,fun v z=>by rw[d] at z;cases z⟩
 keep:=fun i h h' st k=>st.at fun o e=>k it (by simp) o e
 item:=by
  intro X hP hw hK hc i Lc s σ H E I hf st hg;subst hP hw hK;obtain⟨xs,x,hq,hx⟩:=hg;obtain⟨Lg,rv,p,hz⟩:=I.tuple hq;obtain⟨u,hu,ru⟩:=rv.get hx;obtain⟨f0,f1,f2,f3,f4,f5⟩:=hf it (by simp);refine wpAny_pyNext_tuple_item st (show s.heap.IsTuple a Lg.toArray from p) (x:=u) (by simpa using hu) fun h' st' sb=>?_;have I1:Inv X Lc σ H {s with heap:=h'}:=I.turned (t':=s.toks) (fun b o hb e=>(sb.2 b hb).trans e) f0 f1 f3 f4 f5;obtain⟨o,e,c,d⟩:=id st';exact⟨u,rfl,y8 (s:={s with heap:=h'}) e c d (by decide) ⟨x,H,I1,ru,⟨rfl,fun ys hy=>by rw[I.tuple_inj hy hq];exact hx⟩,st',fun b hb=>(hf b hb).1⟩⟩
 done:=by
  intro X hP hw hK hc i Lc s σ H E I hf st hg;subst hP hw hK;obtain⟨xs,hq,hx⟩:=hg;obtain⟨Lg,rv,p,hz⟩:=I.tuple hq;obtain⟨f0,f1,f2,f3,f4,f5⟩:=hf it (by simp);have hl:=rv.length;exact wpAny_pyNext_tuple_end (I.ok.hd hc) st (show s.heap.IsTuple a Lg.toArray from p) (by simp;omega) fun h' eb=>⟨rfl,I.turned (t':=s.toks) (fun b o hb e=>eb b o hb e) f0 f1 f3 f4 f5⟩
 self:=fun _ _ _ _ _ st h=>wpAny_pyIter_tupleiter st h
theorem B4(it:Addr)(lo:Int)(n:Nat):Turn P w K tg (Itr lo n) [it] it (fun i h=>IsRangeIter h it (lo+(i:Nat)*1) ((n:Int) - (i:Nat)) 1) where
 mem:=by simp
 obj:=fun i h st b hb=>by
  have e:b=it:=by simpa using hb
  subst e
  exact⟨_,st,fun v z=>by
   have z':Data.fields _=Data.cell v:=z;cases z'⟩
 keep:=fun i h h' st k=>k it (by simp) _ st
 item:=by
  intro X hP hw hK hc i Lc s σ H E I hf st hg;subst hP hw hK;obtain⟨f0,f1,f2,f3,f4,f5⟩:=hf it (by simp);have W:=Walks.range (prog:=X.prog) (w:=X.w) (I.ok.hd hc) it lo 1 n;refine W.item i s _ _ hg st fun v h' tk hv st' kk=>?_;obtain⟨t,rfl⟩:=hv;have I1:Inv X Lc σ H {s with heap:=h',toks:=tk}:=I.turned (fun b o hb e=>kk b o (by simpa using hb) e) f0 f1 f3 f4 f5;refine⟨_,rfl,y8 (s:={s with heap:=h',toks:=tk}) (n:="range_iterator") st' rfl rfl (by decide) ⟨.int (lo+i),H,I1,⟨t,?_⟩,⟨rfl,rfl⟩,st',fun b hb=>(hf b hb).1⟩⟩;rw[Int.mul_one]
 done:=by
  intro X hP hw hK hc i Lc s σ H E I hf st hg;subst hP hw hK;obtain⟨f0,f1,f2,f3,f4,f5⟩:=hf it (by simp);exact wpAny_pyNext_range_end (I.ok.hd hc) st (by have:n<=i:=hg;omega) fun h' eb=>⟨rfl,I.turned (t':=s.toks) (fun b o hb e=>eb b o hb e) f0 f1 f3 f4 f5⟩
 self:=fun _ _ _ _ _ st h=>wpAny_pyIter_rangeiter st h
section
variable{X:Cx}{tg:Expr}
def iList(K:Frag)(tl:TE):TI:=fun σ H R=>tl σ H fun x H1=>∃ a,x=.ref a/\(∃ xs,SqL K H1 a xs)/\R (Itl K a) H1
def iTup(K:Frag)(tl:TE):TI:=fun σ H R=>tl σ H fun x H1=>∃ a,x=.ref a/\(∃ xs,SqT K H1 a xs)/\R (Itt K a) H1
theorem aE{l:Expr}{tl:TE}(hl:PE X l tl):PI X tg l (iList X.K tl):=by
 intro Lc s σ H R I h;refine thn (hl Lc s σ H _ I h) fun v s1 ⟨x,H1,I1,r1,q1⟩=>?_;obtain⟨a,e,⟨xs,hq⟩,q⟩:=q1;subst e;cases r1;obtain⟨Lg,rv,p,hz⟩:=I1.list hq;refine Nv p.isList ?_;refine⟨s1.heap.objs.size,[s1.heap.objs.size],_,_,H1,rfl,I1.kept (t':=s1.toks) fun b o e=>LG _ e,Dj a _,⟨_,L5 _ rfl,rfl,rfl⟩,fun b hb=>?_,q⟩;have e:b=s1.heap.objs.size:=by simpa using hb
 subst e;exact I1.fpOk (LF _) (I1.hok.fresh (LF _))
theorem Dk{l:Expr}{tl:TE}(hl:PE X l tl):PI X tg l (iTup X.K tl):=by
 intro Lc s σ H R I h;refine thn (hl Lc s σ H _ I h) fun v s1 ⟨x,H1,I1,r1,q1⟩=>?_;obtain⟨a,e,⟨xs,hq⟩,q⟩:=q1;subst e;cases r1;obtain⟨Lg,rv,p,hz⟩:=I1.tuple hq;refine wpAny_pyIter_tuple (show s1.heap.IsTuple a Lg.toArray from p) ?_;refine⟨s1.heap.objs.size,[s1.heap.objs.size],_,_,H1,rfl,I1.kept (t':=s1.toks) fun b o e=>LG _ e,B3 a _,⟨_,L5 _ rfl,rfl,rfl⟩,fun b hb=>?_,q⟩;have e:b=s1.heap.objs.size:=by simpa using hb
 subst e;exact I1.fpOk (LF _) (I1.hok.fresh (LF _))
theorem zi {Lc:List (Addr × Obj)} {σ:St} {H:Hp} {s:Shared} {R:It->Hp->Prop} {E:Value->Shared->Prop} {lo hi:Int} {t u v:Tok} {tk:Nat} (I:Inv X Lc σ H s) (h1: -(2^62)<=lo) (h2:lo<2^62) (h3: -(2^62)<=hi) (h4:hi<2^62)
  (q:R (Itr lo (hi-lo).toNat) H):wpAny (model X.prog X.w) X.A (pyIter (.ref s.heap.objs.size)) (PIE X Lc σ tg R) E {s with heap:=s.heap.push {cls:=.type "range",data:=.fields #[.int lo t,.int hi u,.int 1 v]},toks:=tk}:=by
 refine wpAny_pyIter_range (IsRange.new ..) (small_one h1 h2 h3 h4) ?_;have I1:Inv X Lc σ H {s with heap:=s.heap.push {cls:=.type "range",data:=.fields #[.int lo t,.int hi u,.int 1 v]},toks:=tk}:=I.kept fun b o e=>LG _ e
 refine⟨(s.heap.push {cls:=.type "range",data:=.fields #[.int lo t,.int hi u,.int 1 v]}).objs.size,[(s.heap.push {cls:=.type "range",data:=.fields #[.int lo t,.int hi u,.int 1 v]}).objs.size],_,_,H,rfl,
  I1.kept (t':=tk) fun b o e=>LG _ e,B4 _ lo (hi-lo).toNat,?_,fun b hb=>?_,q⟩
 . have e1:lo+((0:Nat):Int)*1=lo:=by simp
   have e2:(((hi-lo).toNat:Nat):Int) - ((0:Nat):Int)=Builtin.Range.rangeSize lo hi 1:=by rw[rangeSize_one];split <;> omega
   show IsRangeIter _ _ (lo+((0:Nat):Int)*1) ((((hi-lo).toNat:Nat):Int) - ((0:Nat):Int)) 1;rw[e1,e2];exact L5 _ rfl
 . have e:b=(s.heap.push {cls:=.type "range",data:=.fields #[.int lo t,.int hi u,.int 1 v]}).objs.size:=by simpa using hb
   subst e;exact I1.fpOk (LF _) (I1.hok.fresh (LF _))
def fD(ta:TA):TI:=fun σ H R=>ta σ H fun vs H1=>∃ j:Int,vs=[.int j]/\ -(2^62)<=j/\j<2^62/\R (Itr 0 j.toNat) H1
def sW(ta:TA):TI:=fun σ H R=>ta σ H fun vs H1=>∃ i j:Int,vs=[.int i,.int j]/\(-(2^62)<=i/\i<2^62/\ -(2^62)<=j/\j<2^62)/\R (Itr i (j-i).toNat) H1
theorem cw{a:Expr}{ta:TA}{p pos:Pos}(hg:Gl X "range")(hm:X.mg "range"=none)(ha:PA X [a] ta)(hs:starEach [a] X.env=[(false,eval a X.env)]:=by rfl):PI X tg (.Call (.Name "range" p) [a] [] pos) (fD ta):=by
 intro Lc s σ H R I h;refine Call_ (iC I hg hm boot_range (Mx (thn (ha pos Lc s σ H _ I h) fun us s1 ⟨vs,H1,I1,r1,q1⟩=>?_) hs rfl));obtain⟨j,e,q1,q2,q⟩:=q1;subst e
 cases r1 with
 | cons r rr=>
  cases rr;obtain⟨t,rfl⟩:=r;exact call_range_1 (zi I1 (by omega) (by omega) q1 q2 (by simpa using q))
theorem xU{a b:Expr}{ta:TA}{p pos:Pos}(hg:Gl X "range")(hm:X.mg "range"=none)(ha:PA X [a,b] ta)(hs:starEach [a,b] X.env=[(false,eval a X.env),(false,eval b X.env)]:=by rfl)(hs2:starEach [b] X.env=[(false,eval b X.env)]:=by rfl):
  PI X tg (.Call (.Name "range" p) [a,b] [] pos) (sW ta):=by
 intro Lc s σ H R I h;refine Call_ (iC I hg hm boot_range (Mx (thn (ha pos Lc s σ H _ I h) fun us s1 ⟨vs,H1,I1,r1,q1⟩=>?_) (by rw[hs,hs2]) (by rw[hs2];rfl)));obtain⟨i,j,e,⟨q1,q2,q3,q4⟩,q⟩:=q1;subst e
 cases r1 with
 | cons r rr=>
  cases rr with
  | cons r' rr=>
   cases rr;obtain⟨t,rfl⟩:=r;obtain⟨t',rfl⟩:=r';exact call_range_2 (zi I1 q1 q2 q3 q4 q)
def tFor(wi:TI)(g:TG)(tb:TS):TS:=fun D σ H=>wi σ H fun J H1=>∃ W:Nat->Nat->St->Hp->Prop,(∃ m,W 0 m σ H1)/\∀ i m σ H,W i m σ H->
 (J.stop i H/\D.nx σ H)\/(J.go i H/\∃ N:St->Hp->Prop,(∀ σ' H',N σ' H'->∃ m',m'<m/\W (i+1) m' σ' H')/\∀ x H',J.yld i H x H'->g x σ H' fun σ2 H2=>tb {D with nx:=N,ct:=N,bk:=D.nx} σ2 H2)
def qW(fp:List Addr)(h:Heap):List (Addr × Obj):=fp.filterMap fun b=>(h.get? b).map fun o=>(b,o)
theorem lS{fp:List Addr}{h:Heap}{b:Addr}{o:Obj}(hb:b∈fp)(e:h.get? b=some o):(b,o)∈qW fp h:=List.mem_filterMap.mpr ⟨b,hb,by rw[e];rfl⟩
theorem Dl{fp:List Addr}{h:Heap}{p:Addr × Obj}(hp:p∈qW fp h):p.1∈fp/\h.get? p.1=some p.2:=by
 obtain⟨b,hb,e⟩:=List.mem_filterMap.mp hp
 cases q:h.get? b with
 | none=>rw[q] at e;cases e
 | some o=>
  rw[q] at e;have e':(b,o)=p:=MQ e;subst e';exact⟨hb,q⟩
theorem Inv.pinned{Lc:List (Addr × Obj)}{σ:St}{H:Hp}{s:Shared}{fp:List Addr}(I:Inv X Lc σ H s)(hf:∀ b∈fp,FpOk X Lc H b)(ho:∀ b∈fp,∃ o,s.heap.get? b=some o/\∀ v,o.data≠.cell v):Inv X (Lc++qW fp s.heap) σ H s:=
 I.pins_of fun p hp=>(LR.mp hp).elim (fun z=>I.pin p (Mr _ z)) fun z=>by
  obtain⟨hb,e⟩:=Dl z;obtain⟨f0,f1,f2,_⟩:=hf p.1 hb;obtain⟨o,e',d⟩:=ho p.1 hb;rw[e] at e';cases e';exact⟨e,f0,f1,f2,d⟩
theorem Inv.unpinned{Lc pl:List (Addr × Obj)}{σ:St}{H:Hp}{s:Shared}(I:Inv X (Lc++pl) σ H s):Inv X Lc σ H s:=I.pins_of fun p hp=>I.pin p (Mr _ (NI _ hp))
theorem cZ {iter:Expr} {body:List Stmt} {wi:TI} {g:TG} {tb:TS} {pos:Pos} (hp:PassesOwn (model X.prog X.w) X.A X.env X.xe) (hc:X.calm=true) (hi:PI X tg iter wi) (hg:PG X tg g) (hb:PSs X body tb)
  (hs:∀ x,foldedSetIterable iter X.env x=pure x:=by intro _;rfl):PS X (.For tg iter body [] pos) (tFor wi g tb):=by
 intro Lc s σ H D I h;refine wpAny_For (thn (hi Lc s σ H _ I h) fun v s1 h1=>thn h1 fun itv s2 h2=>?_) hs;obtain⟨it,fp,tn,J,H2,e,I2,T,st2,f2,W,⟨m0,w0⟩,turn⟩:=h2;subst e;have stat:∀{H':Hp},(∀ b∈fp,H' b=none)->∀ b∈fp,FpOk X Lc H' b:=fun hn b hb=>⟨hn b hb,(f2 b hb).2⟩;refine codeAny_forLoop_any (fun n s'=>∃ i σ' H',Inv X Lc σ' H' s'/\tn i s'.heap/\(∀ b∈fp,H' b=none)/\W i n σ' H') ?_ m0 ⟨0,σ,H2,I2,st2,fun b hb=>(f2 b hb).1,w0⟩;rintro n s3 ⟨i,σ3,H3,I3,st3,fr3,w3⟩;rcases turn i n σ3 H3 w3 with ⟨stop,qn⟩ | ⟨go,N,hN,step⟩
 . refine MT hp (thn (T.done X rfl rfl rfl hc i Lc s3 σ3 H3 X.xe I3 (stat fr3) st3 stop) fun r s4 ⟨hr,I4⟩=>?_);subst hr;exact NM ⟨σ3,H3,I4,qn⟩
 . refine MT hp (thn (T.item X rfl rfl rfl hc i Lc s3 σ3 H3 X.xe I3 (stat fr3) st3 go) fun r s4 ⟨u,hr,h4⟩=>?_);subst hr;refine MT hp (thn h4 fun _ s5 ⟨x,H5,I5,r5,y5,st5,fr5⟩=>?_);have I5':=I5.pinned (stat fr5) (T.obj _ _ st5);refine MT hp (thn (hg _ s5 σ3 H5 x u _ I5' r5 (step x H5 y5)) fun _ s6 ⟨σ6,H6,I6,q6⟩=>?_);refine MT hp (thn (hb _ s6 σ6 H6 _ I6 q6) fun f s7 q7=>?_)
   have again:∀{σ7:St} {H7:Hp},Inv X (Lc++qW fp s5.heap) σ7 H7 s7->N σ7 H7->∃ m,m<n/\∃ i σ' H',Inv X Lc σ' H' s7/\tn i s7.heap/\(∀ b∈fp,H' b=none)/\W i m σ' H':=fun{σ7 H7} I7 n7=>by
    obtain⟨m',hm,w7⟩:=hN σ7 H7 n7;refine⟨m',hm,i+1,σ7,H7,I7.unpinned,T.keep _ _ _ st5 fun b hb o e=>(I7.pin (b,o) (Mr _ (Mr _ (lS hb e)))).1,fun b hb=>?_,w7⟩;obtain⟨o,e,d⟩:=T.obj _ _ st5 b hb;exact(I7.pin (b,o) (Mr _ (Mr _ (lS hb e)))).2.1
   cases f with
   | next=>obtain⟨σ7,H7,I7,n7⟩:=q7;exact again I7 n7
   | cont=>obtain⟨σ7,H7,I7,n7⟩:=q7;exact again I7 n7
   | brk=>obtain⟨σ7,H7,I7,q7⟩:=q7;exact⟨σ7,H7,I7.unpinned,q7⟩
   | ret v=>obtain⟨x7,σ7,H7,I7,r7,q7⟩:=q7;exact⟨x7,σ7,H7,I7.unpinned,r7,q7⟩
end
theorem dn {K:Frag} {a:Addr} {xs:List V} {g:TG} {tb:TS} {D:Ends} {σ:St} {H:Hp} (Pv:Nat->St->Hp->Prop) (h0:Pv 0 σ H) (hl:∀ i σ H,i<=xs.length->Pv i σ H->SqL K H a xs)
  (hs:∀ i x σ H,xs[i]? =some x->Pv i σ H->g x σ H fun σ2 H2=>tb {D with nx:=Pv (i+1),ct:=Pv (i+1),bk:=D.nx} σ2 H2) (hd:∀ σ H,Pv xs.length σ H->D.nx σ H):
  ∃ W:Nat->Nat->St->Hp->Prop,(∃ m,W 0 m σ H)/\∀ i m σ H,W i m σ H->
   ((Itl K a).stop i H/\D.nx σ H)\/((Itl K a).go i H/\∃ N:St->Hp->Prop,(∀ σ' H',N σ' H'->∃ m',m'<m/\W (i+1) m' σ' H')/\∀ x H',(Itl K a).yld i H x H'->g x σ H' fun σ2 H2=>tb {D with nx:=N,ct:=N,bk:=D.nx} σ2 H2):=by
 refine⟨fun i m σ H=>m=xs.length-i/\i<=xs.length/\Pv i σ H,⟨xs.length,by simp,Ml _,h0⟩,?_⟩;rintro i m σ H ⟨rfl,hi,p⟩;have q:=hl i σ H hi p;by_cases hlt:i<xs.length
 . refine .inr ⟨⟨xs,xs[i],q,by simp[hlt]⟩,Pv (i+1),fun σ' H' p'=>⟨xs.length - (i+1),by omega,rfl,hlt,p'⟩,fun x H' y=>?_⟩;obtain⟨e,y⟩:=y;subst e;exact hs i x σ _ (y xs q) p
 . have e:i=xs.length:=by omega
   subst e;exact .inl ⟨⟨xs,q,LF _⟩,hd σ H p⟩
theorem qX {lo:Int} {n:Nat} {g:TG} {tb:TS} {D:Ends} {σ:St} {H:Hp} (Pv:Nat->St->Hp->Prop) (h0:Pv 0 σ H)
  (hs:∀ i σ H,i<n->Pv i σ H->g (.int (lo+i)) σ H fun σ2 H2=>tb {D with nx:=Pv (i+1),ct:=Pv (i+1),bk:=D.nx} σ2 H2) (hd:∀ σ H,Pv n σ H->D.nx σ H):
  ∃ W:Nat->Nat->St->Hp->Prop,(∃ m,W 0 m σ H)/\∀ i m σ H,W i m σ H->
   ((Itr lo n).stop i H/\D.nx σ H)\/((Itr lo n).go i H/\∃ N:St->Hp->Prop,(∀ σ' H',N σ' H'->∃ m',m'<m/\W (i+1) m' σ' H')/\∀ x H',(Itr lo n).yld i H x H'->g x σ H' fun σ2 H2=>tb {D with nx:=N,ct:=N,bk:=D.nx} σ2 H2):=by
 refine⟨fun i m σ H=>m=n-i/\i<=n/\Pv i σ H,⟨n,by simp,Ml _,h0⟩,?_⟩;rintro i m σ H ⟨rfl,hi,p⟩;by_cases hlt:i<n
 . refine .inr ⟨hlt,Pv (i+1),fun σ' H' p'=>⟨n - (i+1),by omega,rfl,hlt,p'⟩,fun x H' y=>?_⟩;obtain⟨e,y⟩:=y;subst e y;exact hs i σ _ hlt p
 . have e:i=n:=by omega
   subst e;exact .inl ⟨LF _,hd σ H p⟩
abbrev R2:=V->V->Hp->VK->Prop
def OpR(X:Cx)(f:Value->Value->Sem Value)(r:R2):Prop:=
 ∀(Lc:List (Addr × Obj)) (s:Shared) (σ:St) (H:Hp) (x y:V) (v u:Value) (Q:VK),Inv X Lc σ H s->RelV x v->RelV y u->r x y H Q->
  wpAny (model X.prog X.w) X.A (f v u) (EP X Lc σ Q) X.xe s
def UnR(X:Cx)(f:Value->Sem Value)(r:V->Hp->VK->Prop):Prop:=
 ∀(Lc:List (Addr × Obj)) (s:Shared) (σ:St) (H:Hp) (x:V) (v:Value) (Q:VK),Inv X Lc σ H s->RelV x v->r x H Q->
  wpAny (model X.prog X.w) X.A (f v) (EP X Lc σ Q) X.xe s
def CallR(X:Cx)(f:Value)(r:List V->Hp->VK->Prop):Prop:=
 ∀(Lc:List (Addr × Obj)) (s:Shared) (σ:St) (H:Hp) (xs:List V) (us:List Value) (Q:VK),Inv X Lc σ H s->Vals xs us->r xs H Q->
  wpAny (model X.prog X.w) X.A (call f us) (EP X Lc σ Q) X.xe s
def tOp(r:R2)(ta tb:TE):TE:=fun σ H Q=>ta σ H fun x H1=>tb σ H1 fun y H2=>r x y H2 Q
def tUn(r:V->Hp->VK->Prop)(ta:TE):TE:=fun σ H Q=>ta σ H fun x H1=>r x H1 Q
def rI(C:Int->Int->Prop)(g:Int->Int->V):R2:=fun x y H Q=>∃ i j,x=.int i/\y=.int j/\C i j/\Q (g i j) H
def rI0(g:Int->Int->V):R2:=fun x y H Q=>∃ i j,x=.int i/\y=.int j/\Q (g i j) H
def rU(g:Int->V):V->Hp->VK->Prop:=fun x H Q=>∃ i,x=.int i/\Q (g i) H
section
variable{X:Cx}{a b c:Expr}{ta tb tc:TE}{pos:Pos}
theorem binT (ha:PE X a ta) (hb:PE X b tb) {Lc:List (Addr × Obj)} {s:Shared} {σ:St} {H:Hp} {R:V->V->Hp->Prop} (I:Inv X Lc σ H s)
  (h:ta σ H fun x H1=>tb σ H1 fun y H2=>R x y H2) {Q:Value->Shared->Prop} {f:Value->Value->Sem Value}
  (hf:∀ v u s2 x y H2,Inv X Lc σ H2 s2->RelV x v->RelV y u->R x y H2->wpAny (model X.prog X.w) X.A (f v u) Q X.xe s2):
  wpAny (model X.prog X.w) X.A (eval a X.env) (fun v s₁=>wpAny (model X.prog X.w) X.A (eval b X.env) (fun u s₂=>wpAny (model X.prog X.w) X.A (f v u) Q X.xe s₂) X.xe s₁) X.xe s:=by
 refine thn (ha Lc s σ H _ I h) fun v s1 ⟨x,H1,I1,r1,q1⟩=>?_;refine thn (hb Lc s1 σ H1 _ I1 q1) fun u s2 ⟨y,H2,I2,r2,q2⟩=>?_;exact hf v u s2 x y H2 I2 r1 r2 q2
theorem ak{op:Operator}{r:R2}(ho:OpR X (binaryOp op) r)(ha:PE X a ta)(hb:PE X b tb):PE X (.BinOp a op b pos) (tOp r ta tb):=by
 intro Lc s σ H Q I h;exact wpAny_BinOp (binT ha hb I h fun v u s2 x y H2 I2 rx ry q=>ho Lc s2 σ H2 x y v u Q I2 rx ry q)
theorem sX{op:UnaryOp}{r:V->Hp->VK->Prop}(ho:UnR X (unaryOp op) r)(ha:PE X a ta):PE X (.UnaryOp op a pos) (tUn r ta):=by
 intro Lc s σ H Q I h;exact UnaryOp_ (thn (ha Lc s σ H _ I h) fun v s1 ⟨x,H1,I1,r1,q1⟩=>ho Lc s1 σ H1 x v Q I1 r1 q1)
theorem opI {f:Value->Value->Sem Value} {C:Int->Int->Prop} {g:Int->Int->Int}
  (rule:∀(i j:Int) (t u:Tok) (s:Shared) (Q:Value->Shared->Prop) (E:Value->Shared->Prop),C i j->Q (.int (g i j) s.toks) {s with toks:=s.toks+1}->wpAny (model X.prog X.w) X.A (f (.int i t) (.int j u)) Q E s):
  OpR X f (rI C fun i j=>.int (g i j)):=by
 intro Lc s σ H x y v u Q I rx ry h;obtain⟨i,j,rfl,rfl,hc,q⟩:=h;obtain⟨t,rfl⟩:=rx;obtain⟨t',rfl⟩:=ry;exact rule i j t t' s _ _ hc ⟨.int (g i j),H,I.tok _,⟨_,rfl⟩,q⟩
theorem B5 {f:Value->Value->Sem Value} {g:Int->Int->Int}
  (rule:∀(i j:Int) (t u:Tok) (s:Shared) (Q:Value->Shared->Prop) (E:Value->Shared->Prop),Q (.int (g i j) s.toks) {s with toks:=s.toks+1}->wpAny (model X.prog X.w) X.A (f (.int i t) (.int j u)) Q E s):
  OpR X f (rI0 fun i j=>.int (g i j)):=by
 intro Lc s σ H x y v u Q I rx ry h;obtain⟨i,j,rfl,rfl,q⟩:=h;obtain⟨t,rfl⟩:=rx;obtain⟨t',rfl⟩:=ry;exact rule i j t t' s _ _ ⟨.int (g i j),H,I.tok _,⟨_,rfl⟩,q⟩
theorem B6 {f:Value->Value->Sem Value} {g:Int->Int->Bool}
  (rule:∀(i j:Int) (t u:Tok) (s:Shared) (Q:Value->Shared->Prop) (E:Value->Shared->Prop),Q (.bool (g i j)) s->wpAny (model X.prog X.w) X.A (f (.int i t) (.int j u)) Q E s):
  OpR X f (rI0 fun i j=>.bl (g i j)):=by
 intro Lc s σ H x y v u Q I rx ry h;obtain⟨i,j,rfl,rfl,q⟩:=h;obtain⟨t,rfl⟩:=rx;obtain⟨t',rfl⟩:=ry;exact rule i j t t' s _ _ ⟨.bl (g i j),H,I,rfl,q⟩
def CDiv(i j:Int):Prop:=0<j/\j<1073741824
def CPow(i j:Int):Prop:=0<=j/\j<=1000000/\i.natAbs<2^64
def CMul(i j:Int):Prop:=(-(2^64)<i/\i<2^64)\/(-(2^64)<j/\j<2^64)
theorem CMul.ok{i j:Int}(h:CMul i j):IntMulOk i j:=by
 rcases h with ⟨h1,h2⟩ | ⟨h1,h2⟩
 . exact .of_left (intBits_le_64 h1 h2)
 . exact .of_right (intBits_le_64 h1 h2)
theorem B7(k:Nat):(0:Int)<=2^k:=by
 rw[two_pow_cast];exact Int.natCast_nonneg _
theorem GE:OpR X (binaryOp .Add) (rI0 fun i j=>.int (i+j)):=B5 fun _ _ _ _ _ _ _ q=>add_int q
theorem GF:OpR X (binaryOp .Sub) (rI0 fun i j=>.int (i-j)):=B5 fun _ _ _ _ _ _ _ q=>sub_int q
theorem GG:OpR X (binaryOp .Mult) (rI CMul fun i j=>.int (i*j)):=opI fun _ _ _ _ _ _ _ hc q=>mul_int q hc.ok
theorem FI:OpR X (binaryOp .FloorDiv) (rI CDiv fun i j=>.int (i/j)):=opI fun i j _ _ _ _ _ hc q=>by
 have h1:(0:Int)<j:=hc.1;have h2:j<1073741824:=hc.2;exact floordiv_int (by omega) (by rw[Nh i (by omega)];exact q) (.inl (Om (by omega)))
theorem GH:OpR X (binaryOp .Mod) (rI (fun _ j=>0<j) fun i j=>.int (i%j)):=opI fun i j _ _ _ _ _ hc q=>by
 have h1:(0:Int)<j:=hc;exact mod_int' (by omega) (by rw[NY i (by omega)];exact q)
theorem GI:OpR X (binaryOp .LShift) (rI CPow fun i j=>.int (i*2^j.toNat)):=opI fun _ _ _ _ _ _ _ hc q=>lshift_int_small hc.1 hc.2.1 hc.2.2 q
theorem GJ:OpR X (binaryOp .RShift) (rI (fun _ j=>0<=j) fun i j=>.int (i/2^j.toNat)):=opI fun i j _ _ _ _ _ hc q=>
 rshift_int hc (by rw[Nh i (B7 _)];exact q)
theorem GK:OpR X (binaryOp .BitAnd) (rI0 fun i j=>.int (Builtin.bitAnd i j)):=B5 fun _ _ _ _ _ _ _ q=>and_int q
theorem HD:OpR X (binaryOp .BitOr) (rI0 fun i j=>.int (Builtin.bitOr i j)):=B5 fun _ _ _ _ _ _ _ q=>or_int q
theorem unI {f:Value->Sem Value} {g:Int->Int}
  (rule:∀(i:Int) (t:Tok) (s:Shared) (Q:Value->Shared->Prop) (E:Value->Shared->Prop),Q (.int (g i) s.toks) {s with toks:=s.toks+1}->wpAny (model X.prog X.w) X.A (f (.int i t)) Q E s):
  UnR X f (rU fun i=>.int (g i)):=by
 intro Lc s σ H x v Q I rx h;obtain⟨i,rfl,q⟩:=h;obtain⟨t,rfl⟩:=rx;exact rule i t s _ _ ⟨.int (g i),H,I.tok _,⟨_,rfl⟩,q⟩
theorem oW:UnR X (unaryOp .USub) (rU fun i=>.int (-i)):=unI fun _ _ _ _ _ q=>neg_int q
end
def scal:V->V->Bool
 | .non,.non=>true | .non,.int _=>true | .int _,.non=>true | .non,.bl _=>true | .bl _,.non=>true | .non,.str _=>true | .str _,.non=>true
 | .int _,.int _=>true | .bl _,.bl _=>true | .str _,.str _=>true | .byt _,.byt _=>true
 | .int _,.str _=>true | .str _,.int _=>true | .bl _,.str _=>true | .str _,.bl _=>true
 | _,_=>false
def rEq:R2:=fun x y H Q=>scal x y=true/\Q (.bl (decide (x=y))) H
def rNe:R2:=fun x y H Q=>scal x y=true/\Q (.bl (!decide (x=y))) H
theorem BC{i j:Int}:decide (V.int i=V.int j)=(i==j):=by
 rw[LV];simp
theorem Dm{i j:Bool}:decide (V.bl i=V.bl j)=(i==j):=by
 rw[LV];simp
theorem BD{i j:Str}:decide (V.str i=V.str j)=(i==j):=by
 rw[LV];simp
theorem BE{i j:Array UInt8}:decide (V.byt i=V.byt j)=(i.toList==j.toList):=by
 rw[LV];cases i;cases j;simp
section
variable{X:Cx}{a b c:Expr}{ta tb tc:TE}{pos:Pos}
theorem aU{Lc:List (Addr × Obj)}{σ:St}{H:Hp}{s:Shared}{Q:VK}{k k':Bool}(I:Inv X Lc σ H s)(q:Q (.bl k) H)(e:k=k'):EP X Lc σ Q (.bool k') s:=by
 subst e;exact⟨.bl k,H,I,rfl,q⟩
theorem B8:OpR X (compareOp .Eq) rEq:=by
 intro Lc s σ H x y v u Q I rx ry h;obtain⟨hs,q⟩:=h
 cases x with
 | non=>
  cases rx
  cases y with
  | non=>cases ry;exact PySem.EqNone.eq_none_none (aU I q (by simp))
  | bl j=>cases ry;exact PySem.EqNone.eq_none_bool (aU I q (by simp))
  | int j=>obtain⟨t',rfl⟩:=ry;exact PySem.EqNone.eq_none_int (aU I q (by simp))
  | str j=>obtain⟨t',rfl⟩:=ry;exact PySem.EqNone.eq_none_str (aU I q (by simp))
  | _=>exact absurd (show false=true from hs) Ly
 | bl i=>
  cases rx
  cases y with
  | non=>cases ry;exact PySem.EqNone.eq_bool_none (aU I q (by simp))
  | bl j=>cases ry;exact eq_bool (aU I q Dm)
  | str j=>obtain⟨t',rfl⟩:=ry;exact PySem.EqMixed.eq_bool_str (aU I q (by simp))
  | _=>exact absurd (show false=true from hs) Ly
 | int i=>
  obtain⟨t,rfl⟩:=rx
  cases y with
  | non=>cases ry;exact PySem.EqNone.eq_int_none (aU I q (by simp))
  | int j=>obtain⟨t',rfl⟩:=ry;exact eq_int (aU I q BC)
  | str j=>obtain⟨t',rfl⟩:=ry;exact PySem.EqMixed.eq_int_str (aU I q (by simp))
  | _=>exact absurd (show false=true from hs) Ly
 | str i=>
  obtain⟨t,rfl⟩:=rx
  cases y with
  | non=>cases ry;exact PySem.EqNone.eq_str_none (aU I q (by simp))
  | bl j=>cases ry;exact PySem.EqMixed.eq_str_bool (aU I q (by simp))
  | int j=>obtain⟨t',rfl⟩:=ry;exact PySem.EqMixed.eq_str_int (aU I q (by simp))
  | str j=>obtain⟨t',rfl⟩:=ry;exact eq_str (aU I q BD)
  | _=>exact absurd (show false=true from hs) Ly
 | byt i=>
  obtain⟨t,rfl⟩:=rx
  cases y with
  | byt j=>obtain⟨t',rfl⟩:=ry;exact PySem.W.eq_bytes (aU I q BE)
  | _=>exact absurd (show false=true from hs) Ly
 | _=>cases y <;> exact absurd (show false=true from hs) Ly
theorem B9:OpR X (compareOp .NotEq) rNe:=by
 intro Lc s σ H x y v u Q I rx ry h;obtain⟨hs,q⟩:=h
 cases x with
 | non=>
  cases rx
  cases y with
  | non=>cases ry;exact PySem.EqNone.ne_none_none (aU I q (by simp))
  | bl j=>cases ry;exact PySem.EqNone.ne_none_bool (aU I q (by simp))
  | int j=>obtain⟨t',rfl⟩:=ry;exact PySem.EqNone.ne_none_int (aU I q (by simp))
  | str j=>obtain⟨t',rfl⟩:=ry;exact PySem.EqNone.ne_none_str (aU I q (by simp))
  | _=>exact absurd (show false=true from hs) Ly
 | bl i=>
  cases rx
  cases y with
  | non=>cases ry;exact PySem.EqNone.ne_bool_none (aU I q (by simp))
  | bl j=>cases ry;exact ne_bool (aU I q (congrArg not Dm))
  | str j=>obtain⟨t',rfl⟩:=ry;exact PySem.EqMixed.ne_bool_str (aU I q (by simp))
  | _=>exact absurd (show false=true from hs) Ly
 | int i=>
  obtain⟨t,rfl⟩:=rx
  cases y with
  | non=>cases ry;exact PySem.EqNone.ne_int_none (aU I q (by simp))
  | int j=>obtain⟨t',rfl⟩:=ry;exact ne_int (aU I q (congrArg not BC))
  | str j=>obtain⟨t',rfl⟩:=ry;exact PySem.EqMixed.ne_int_str (aU I q (by simp))
  | _=>exact absurd (show false=true from hs) Ly
 | str i=>
  obtain⟨t,rfl⟩:=rx
  cases y with
  | non=>cases ry;exact PySem.EqNone.ne_str_none (aU I q (by simp))
  | bl j=>cases ry;exact PySem.EqMixed.ne_str_bool (aU I q (by simp))
  | int j=>obtain⟨t',rfl⟩:=ry;exact PySem.EqMixed.ne_str_int (aU I q (by simp))
  | str j=>obtain⟨t',rfl⟩:=ry;exact ne_str (aU I q (congrArg not BD))
  | _=>exact absurd (show false=true from hs) Ly
 | byt i=>
  obtain⟨t,rfl⟩:=rx
  cases y with
  | byt j=>obtain⟨t',rfl⟩:=ry;exact PySem.W.ne_bytes (aU I q (congrArg not BE))
  | _=>exact absurd (show false=true from hs) Ly
 | _=>cases y <;> exact absurd (show false=true from hs) Ly
theorem HE:OpR X (compareOp .Lt) (rI0 fun i j=>.bl (decide (i<j))):=B6 fun _ _ _ _ _ _ _ q=>lt_int q
theorem HF:OpR X (compareOp .LtE) (rI0 fun i j=>.bl (decide (i<=j))):=B6 fun _ _ _ _ _ _ _ q=>le_int q
theorem HG:OpR X (compareOp .Gt) (rI0 fun i j=>.bl (decide (j<i))):=B6 fun _ _ _ _ _ _ _ q=>gt_int q
theorem HH:OpR X (compareOp .GtE) (rI0 fun i j=>.bl (decide (j<=i))):=B6 fun _ _ _ _ _ _ _ q=>ge_int q
theorem Dn:OpR X (compareOp .In) (fun x y H Q=>∃ i j,x=.str i/\y=.str j/\Q (.bl (!(Builtin.Str.occurrences j i 0 j.length 1).isEmpty)) H):=by
 intro Lc s σ H x y v u Q I rx ry h;obtain⟨i,j,rfl,rfl,q⟩:=h;obtain⟨t,rfl⟩:=rx;obtain⟨t',rfl⟩:=ry;exact in_str (aU I q rfl)
theorem GL:OpR X (compareOp .Is) (fun x y H Q=>y=.non/\Q (.bl (decide (x=.non))) H):=by
 intro Lc s σ H x y v u Q I rx ry h;obtain⟨rfl,q⟩:=h;cases ry;refine is_none_gen (aU I q ?_)
 cases x <;> first
  | (cases rx;rfl)
  | (obtain⟨t,rfl⟩:=rx;rfl)
theorem BF:OpR X (compareOp .IsNot) (fun x y H Q=>y=.non/\Q (.bl (!decide (x=.non))) H):=by
 intro Lc s σ H x y v u Q I rx ry h;obtain⟨rfl,q⟩:=h;cases ry;refine isnot_none_gen (aU I q ?_)
 cases x <;> first
  | (cases rx;rfl)
  | (obtain⟨t,rfl⟩:=rx;rfl)
theorem ah(b:Expr){op:CmpOp}(h:op≠.In:=by decide)(h2:op≠.NotIn:=by decide):behindInMarks op b=false:=by
 have e1:(op==CmpOp.In)=false:=by cases op <;> first | rfl | exact absurd rfl h
 have e2:(op==CmpOp.NotIn)=false:=by cases op <;> first | rfl | exact absurd rfl h2
 cases b <;> simp[behindInMarks,e1,e2]
theorem az{op:CmpOp}{r:R2}(ho:OpR X (compareOp op) r)(ha:PE X a ta)(hb:PE X b tb)(hm:behindInMarks op b=false):PE X (.Compare a [op] [b] pos) (tOp r ta tb):=by
 intro Lc s σ H Q I h;exact wpAny_Compare1 (binT ha hb I h fun v u s2 x y H2 I2 rx ry q=>ho Lc s2 σ H2 x y v u Q I2 rx ry q) hm
def tTest(t:TE):TT:=fun σ H Q=>t σ H fun x H'=>∃ k,x=.bl k/\Q k H'
theorem ai{op:CmpOp}{r:R2}(ho:OpR X (compareOp op) r)(ha:PE X a ta)(hb:PE X b tb)(hm:behindInMarks op b=false):PT X (.Compare a [op] [b] pos) (tTest (tOp r ta tb)):=by
 intro Lc s σ H Q I h
 refine wpAny_isTrue_Compare1 (thn (ha Lc s σ H _ I h) fun v s1 ⟨x,H1,I1,r1,q1⟩=>thn (hb Lc s1 σ H1 _ I1 q1) fun u s2 ⟨y,H2,I2,r2,q2⟩=>
  thn (ho Lc s2 σ H2 x y v u _ I2 r1 r2 q2) fun c s3 ⟨z,H3,I3,r3,k,e,q3⟩=>?_) hm
 subst e;cases r3;exact MF ⟨H3,I3,q3⟩
def vm(r r':R2)(ta tb tc:TE):TE:=fun σ H Q=>ta σ H fun x H1=>tb σ H1 fun y H2=>r x y H2 fun z H3=>∃ k,z=.bl k/\
 (if k=true then tc σ H3 fun w' H4=>r' y w' H4 Q else Q (.bl false) H3)
theorem zj {op op':CmpOp} {r r':R2} (ho:OpR X (compareOp op) r) (ho':OpR X (compareOp op') r') (ha:PE X a ta) (hb:PE X b tb) (hc:PE X c tc)
  (hm:lastMarks [op,op'] [b,c]=false:=by with_unfolding_all rfl):PT X (.Compare a [op,op'] [b,c] pos) (tTest (vm r r' ta tb tc)):=by
 intro Lc s σ H Q I h
 refine isTrue_chain (thn (ha Lc s σ H _ I h) fun v s1 ⟨x,H1,I1,r1,q1⟩=>test_link (thn (hb Lc s1 σ H1 _ I1 q1) fun u s2 ⟨y,H2,I2,r2,q2⟩=>
  thn (ho Lc s2 σ H2 x y v u _ I2 r1 r2 q2) fun d s3 ⟨z,H3,I3,r3,k,e,q3⟩=>?_)) hm
 subst e;cases r3;refine MF ?_
 cases k with
 | false=>
  obtain⟨k',e',q'⟩:=q3;cases e';exact ite_ff ⟨H3,I3,q'⟩
 | true=>
  refine ite_tt (test_last (thn (hc Lc s3 σ H3 _ I3 q3) fun w' s4 ⟨z',H4,I4,r4,q4⟩=>thn (ho' Lc s4 σ H4 y z' u w' _ I4 r2 r4 q4) fun d' s5 ⟨z2,H5,I5,r5,k2,e2,q5⟩=>?_));subst e2;cases r5;exact MF ⟨H5,I5,q5⟩
theorem qY:(sizeLine:Nat)<2^63:=by rw[OC];decide
theorem Ca:OpR X (binaryOp .Add) (fun x y H Q=>∃ i j,x=.str i/\y=.str j/\i.length+j.length<=sizeLine/\Q (.str (i++j)) H):=by
 intro Lc s σ H x y v u Q I rx ry h;obtain⟨i,j,rfl,rfl,hz,q⟩:=h;obtain⟨t,rfl⟩:=rx;obtain⟨t',rfl⟩:=ry;exact add_str (fun t' tk=>⟨.str (i++j),H,I.tok _,⟨_,rfl⟩,q⟩) hz
theorem dv{x:V}{us:List Value}(r:Vals [x] us):∃ u,us=[u]/\RelV x u:=by
 cases r with
 | cons r1 r2=>cases r2;exact⟨_,rfl,r1⟩
theorem y9{x y:V}{us:List Value}(r:Vals [x,y] us):∃ u w',us=[u,w']/\RelV x u/\RelV y w':=by
 cases r with
 | cons r1 r2=>
  cases r2 with
  | cons r3 r4=>cases r4;exact⟨_,_,rfl,r1,r3⟩
theorem Do(hc:X.calm=true):CallR X (.builtin "max") (fun xs H Q=>∃ i j,xs=[.int i,.int j]/\Q (.int (if j>i then j else i)) H):=by
 intro Lc s σ H xs us Q I r h;obtain⟨i,j,rfl,q⟩:=h;obtain⟨u,w',rfl,⟨t,rfl⟩,⟨t',rfl⟩⟩:=y9 r;refine max_two_ints (I.ok.hd hc) fun h' tk k=>⟨_,H,I.kept k,?_,q⟩;by_cases hj:j>i
 . rw[LX hj,LX hj];exact⟨_,rfl⟩
 . rw[LU hj,LU hj];exact⟨_,rfl⟩
theorem Dp(hc:X.calm=true):CallR X (.builtin "min") (fun xs H Q=>∃ i j,xs=[.int i,.int j]/\Q (.int (if j<i then j else i)) H):=by
 intro Lc s σ H xs us Q I r h;obtain⟨i,j,rfl,q⟩:=h;obtain⟨u,w',rfl,⟨t,rfl⟩,⟨t',rfl⟩⟩:=y9 r;refine min_two_ints (I.ok.hd hc) fun h' tk k=>⟨_,H,I.kept k,?_,q⟩;by_cases hj:j<i
 . rw[LX hj,LX hj];exact⟨_,rfl⟩
 . rw[LU hj,LU hj];exact⟨_,rfl⟩
theorem xV:CallR X (.type "int") (fun xs H Q=>(∃ i,xs=[.int i]/\Q (.int i) H)\/∃ k,xs=[.bl k]/\Q (.int (if k then 1 else 0)) H):=by
 intro Lc s σ H xs us Q I r h;rcases h with ⟨i,rfl,q⟩ | ⟨k,rfl,q⟩
 . obtain⟨u,rfl,t,rfl⟩:=dv r;exact call_int_int ⟨.int i,H,I,⟨_,rfl⟩,q⟩
 . obtain⟨u,rfl,r1⟩:=dv r;cases r1;exact call_int_bool ⟨.int (if k then 1 else 0),H,I.tok _,⟨_,rfl⟩,q⟩
theorem A7:CallR X (.builtin "divmod") (fun xs H Q=>∃ i j,xs=[.int i,.int j]/\CDiv i j/\∀ p,H p=none->Q (.ref p) (upd H p (.tup [.int (i/j),.int (i%j)]))):=by
 intro Lc s σ H xs us Q I r h;obtain⟨i,j,rfl,⟨h1,h2⟩,q⟩:=h;obtain⟨u,w',rfl,⟨t,rfl⟩,⟨t',rfl⟩⟩:=y9 r;refine divmod_int (by omega) ?_ (.inl (Om (by omega)));rw[Nh i (by omega),NY i (by omega)];have hn:H s.heap.objs.size=none:=I.hok.fresh (LF _);refine⟨.ref s.heap.objs.size,_,?_,rfl,q _ hn⟩;refine I.laid (fun b o e=>LG _ e) (LF _) ⟨by simp only[L0,List.length_nil];rw[OC];decide,[.int (i/j) s.toks,.int (i%j) (s.toks+1)],.cons ⟨_,rfl⟩ (.cons ⟨_,rfl⟩ .nil),?_⟩;exact⟨_,L5 s.heap rfl,rfl,0,rfl⟩
end
structure ObjM(h:Heap)(x dx C:Addr)(mA:Str->Option Value):Prop where
 obj:h.get? x=some (PySem.W.instObj C dx)
 ns:h.Ns1 dx mA
 ne:dx≠x
variable{mA:Str->Option Value}
theorem Dq{h:Heap}{dx:Addr}(n:h.Ns1 dx mA):∃ od,h.get? dx=some od/\∀ name,PySem.W.lookIn name od=some (mA name):=by
 obtain⟨o,es,ep,ho,hd,hk,_,hm⟩:=n;refine⟨o,ho,fun name=>?_⟩;have e:=hm name;unfold nsFind findBy at e;rw[← Array.find?_toList] at e;unfold PySem.W.lookIn;rw[hd];dsimp only
 split
 . rename_i y q
   rw[q] at e;exact congrArg some e
 . rename_i q
   rw[q] at e
   have a:es.toList.any (·.refKey)=false:=by
    rw[List.any_eq_false];intro y hy;obtain⟨z,t,hkey⟩:=hk y (Array.mem_toList_iff.mp hy);simp[DictEntry.refKey,hkey]
   have a':¬ es.toList.any (·.refKey)=true:=by rw[a];exact Ly
   rw[LU a'];exact congrArg some e
variable{C:Addr}
theorem ObjM.look{h:Heap}{x dx:Addr}(I:ObjM h x dx C mA):∃ od,PySem.W.InstAt h x (PySem.W.instObj C dx) C (some od)/\∀ name,PySem.W.lookIn name od=some (mA name):=
 let ⟨od,ho,hl⟩:=Dq I.ns
 ⟨od,⟨I.obj,rfl,rfl,ho⟩,hl⟩
section
variable{prog:Program}{w:World}{A:Around}{E:Value->Shared->Prop}{s:Shared}{K:Frag}{x dx C f:Addr}{mA:Str->Option Value}{name:Str}{v:Value}
theorem FJ {expr:Bool} {Q:Value->Shared->Prop} (X:K.In s.heap) (I:ObjM s.heap x dx C mA) (hg:PySem.W.plainGet K C name=true) (hh:PySem.W.hasDictIn K C=true)
  (ha:findIn K (.ref C) name=some none) (hv:mA name=some v) (hv':PySem.W.handedIn v=true) (h:Q v {s with toks:=s.toks+1}):
  wpAny (model prog w) A (getAttr (.ref x) name expr) Q E s:=by
 obtain⟨od,J,hl⟩:=I.look;exact PySem.W.get_value X J (NR hg).1 (PySem.W.findObj_own hh ha rfl (by rw[hl,hv])) hv' h
theorem EY {pl:Sem Bool} {Q:Value × List Value->Shared->Prop} (X:K.In s.heap) (I:ObjM s.heap x dx C mA) (hg:PySem.W.plainGet K C name=true)
  (hf:findIn K (.ref C) name=some (some (.ref f))) (ht:isFn K (.ref f)=true) (hv:mA name=none) (h:Q (.ref f,[.ref x]) s):
  wpAny (model prog w) A (getMethod (.ref x) name pl) Q E s:=by
 obtain⟨od,J,hl⟩:=I.look;exact PySem.W.method_fn X J (NR hg).1 (NR hg).2 hf (Ni.mp ht) (by show(PySem.W.lookIn name od).map (·.isSome)=some false;rw[hl,hv];rfl) h
theorem FK {ns:List Str} {Q:Unit->Shared->Prop} (X:K.In s.heap) (I:ObjM s.heap x dx C mA)
  (hs:findIn K (.ref C) "__setattr__"=some (some (.builtin "object.__setattr__"))) (hp:PySem.W.plainOver K C=true) (ht:PySem.W.takerIn K C name=some none) (hh:PySem.W.hasDictIn K C=true)
  (hw:PySem.Within mA ns) (hsz:ns.length<=sizeLine)
  (h:∀ h',ObjM h' x dx C (fun y=>if y=name then some v else mA y)->Heap.SameBut dx s.heap h'->Q () {s with heap:=h',toks:=s.toks+2}):
  wpAny (model prog w) A (setAttr (.ref x) name v) Q E s:=by
 obtain⟨od,J,hl⟩:=I.look;refine PySem.W.set_plain X J hs (PySem.W.osa_open (s:={s with toks:=s.toks+1}) (r:=none) X J hp ht fun b=>?_);obtain⟨cd,hc,hd'⟩:=PySem.W.any_some hh;have hx:s.heap.get? x=some ⟨.ref C,some dx,.plain,#[]⟩:=I.obj;refine LZ (Mq (LZ (LZ (wpAny_loadPart hx (LZ (PySem.W.Looks.here (s:={s with toks:=s.toks+1}) (PySem.W.looks_clsIn X hc) ?_))))));rw[hd'];refine Mq (a:=some dx) (LZ (Mq (LZ ?_)));refine wpAny_nsSet1 (s:={s with toks:=s.toks+1}) I.ns fun h' hn2 hs2=>?_;obtain⟨oD,esD,epD,hoD,hdD,hcD⟩:=hn2.count (PySem.Within.cons name v hw);refine LZ (wpAny_lookBehind hoD (by rw[hdD];exact pastItsLine_dict (Lz hcD (by rw[L0];omega))) ?_);exact Mq (h _ ⟨(hs2.2 _ (Oj I.ne)).trans I.obj,hn2,I.ne⟩ hs2)
theorem EZ {R:Result->Shared->Prop} {vs:List Value} {kw:List (Str × Value)} (X:K.In s.heap) (hm:PySem.W.makesIn K C=true)
  (hi:findIn K (.ref C) "__init__"=some (some (.ref f))) (hf:PySem.W.typeIn K (.ref f)=some (.type "function"))
  (h:codeAny (model prog w) (A.under (.builtin "type.__call__" ⟨.ref C::vs,kw⟩)) (.call (.ref f) ⟨.ref (s.heap.objs.size+1)::vs,kw⟩) (PySem.W.InitBack (s.heap.objs.size+1) R)
   {s with heap:=(s.heap.push PySem.W.emptyDict).push (PySem.W.instObj C s.heap.objs.size)}):
  codeAny (model prog w) A (.call (.ref C) ⟨vs,kw⟩) R s:=by
 obtain⟨hh,g,d,t,os⟩:=s;exact PySem.W.make_core (PySem.W.makes_of X hm) (PySem.W.looks_findIn X hi) (fun self=>PySem.W.bind_fn X self hf) (.inl rfl) h
end
def putF(f:Str)(v:V):List (Str × V)->List (Str × V)
 | []=>[(f,v)]
 | (g,x)::r=>if g=f then(g,v)::r else(g,x)::putF f v r
theorem tY(f g:Str)(v:V):∀ fs:List (Str × V),(putF f v fs).lookup g=if g=f then some v else fs.lookup g
 | []=>by
  show List.lookup g [(f,v)]=_;by_cases h:g=f
  . have hb:(g==f)=true:=Ni.mpr h;simp only[List.lookup,hb,LX h]
  . have hb:(g==f)=false:=Nm.mpr h;simp only[List.lookup,hb,LU h]
 | (k,x)::r=>by
  have ih:=tY f g v r;rw[show putF f v ((k,x)::r)=(if k=f then(k,v)::r else(k,x)::putF f v r) from rfl];by_cases hk:k=f
  . rw[LX hk];by_cases h:g=k
    . have hb:(g==k)=true:=Ni.mpr h;simp only[List.lookup,hb,LX (h.trans hk)]
    . have hb:(g==k)=false:=Nm.mpr h;simp only[List.lookup,hb,LU (fun e:g=f=>h (e.trans hk.symm))]
  . rw[LU hk];by_cases h:g=k
    . have hb:(g==k)=true:=Ni.mpr h;simp only[List.lookup,hb,LU (fun e:g=f=>hk (h.symm.trans e))]
    . have hb:(g==k)=false:=Nm.mpr h;simp only[List.lookup,hb];exact ih
theorem qZ(f:Str)(v:V):∀ fs:List (Str × V),f∈(putF f v fs).map (·.1)/\∀ g,g∈fs.map (·.1)->g∈(putF f v fs).map (·.1)
 | []=>⟨by simp[putF],fun g h=>by simp at h⟩
 | (k,x)::r=>by
  obtain⟨i1,i2⟩:=qZ f v r;rw[show putF f v ((k,x)::r)=(if k=f then(k,v)::r else(k,x)::putF f v r) from rfl];by_cases hk:k=f
  . rw[LX hk];subst hk;exact⟨by simp,fun g h=>by simpa using h⟩
  . rw[LU hk];refine⟨?_,fun g h=>?_⟩
    . rw[L3];exact LI _ i1
    . rw[L3] at h ⊢;rcases LW.mp h with e | e
      . exact LW.mpr (.inl e)
      . exact LI _ (i2 g e)
theorem tZ(f:Str)(v:V):∀ fs:List (Str × V),(putF f v fs).length<=fs.length+1
 | []=>by simp[putF]
 | (k,x)::r=>by
  have ih:=tZ f v r;rw[show putF f v ((k,x)::r)=(if k=f then(k,v)::r else(k,x)::putF f v r) from rfl];by_cases hk:k=f
  . rw[LX hk,L0,L0];omega
  . rw[LU hk,L0,L0];omega
variable{o:Option Value}
theorem RelO.some_of{v:V}(r:RelO (some v) o):∃ u,o=some u/\RelV v u:=by
 cases o with
 | none=>exact(show False from r).elim
 | some u=>exact⟨u,rfl,r⟩
abbrev OJ:=@RelO.some_of
theorem RelO.none_of(r:RelO none o):o=none:=by
 cases o with
 | none=>rfl
 | some u=>exact(show False from r).elim
theorem Dr{v:V}{u:Value}(r:RelV v u):PySem.W.handedIn u=true:=by
 cases v with
 | non=>cases (show u=Value.none from r);rfl
 | bl b=>cases (show u=Value.bool b from r);rfl
 | int i=>obtain⟨t,e⟩:=(show ∃ t,u=Value.int i t from r);cases e;rfl
 | str x=>obtain⟨t,e⟩:=(show ∃ t,u=Value.str x t from r);cases e;rfl
 | byt b=>obtain⟨t,e⟩:=(show ∃ t,u=Value.bytes b t from r);cases e;rfl
 | flt b=>obtain⟨t,e⟩:=(show ∃ t,u=Value.float b t from r);cases e;rfl
 | ref a=>cases (show u=Value.ref a from r);rfl
 | ty n=>cases (show u=Value.type n from r);rfl
section
variable{P:Program}{w:World}{H H':Hp}{h h':Heap}{a C dx:Addr}{fs fs':List (Str × V)}
theorem sY(hok:HOk P w H h)(e:H a=some (.ins C dx fs)):∃ mA,ObjM h a dx C mA/\(∀ f,RelO (fs.lookup f) (mA f))/\PySem.Within mA (fs.map (·.1))/\fs.length<=1000/\H dx=some (.own a):=by
 obtain⟨d,z,ne,ob,mA,n,r,q⟩:=(show ObjOk P w H h a (.ins C dx fs) from hok a _ e);exact⟨mA,⟨ob,n,ne⟩,r,q,z,d⟩
end
structure Cls(K:Frag)(C:Addr):Prop where
 pg:PySem.W.plainGet K C Str.empty=true
 hd:PySem.W.hasDictIn K C=true
 po:PySem.W.plainOver K C=true
 sa:findIn K (.ref C) "__setattr__"=some (some (.builtin "object.__setattr__"))
theorem Cls.get{K:Frag}(c:Cls K C)(f:Str):PySem.W.plainGet K C f=true:=c.pg
def NoAttr(K:Frag)(C:Addr)(f:Str):Prop:=findIn K (.ref C) f=some none
theorem NoAttr.taker{K:Frag}{f:Str}(n:NoAttr K C f):PySem.W.takerIn K C f=some none:=by
 unfold PySem.W.takerIn;rw[show findIn K (.ref C) f=some none from n];rfl
structure Meth(K:Frag)(C:Addr)(m:Str)(f:Addr):Prop where
 at_:findIn K (.ref C) m=some (some (.ref f))
 fn:isFn K (.ref f)=true
 kp:keepIn K (.ref f)=true
section
variable{X:Cx}{Lc:List (Addr × Obj)}{σ:St}{H:Hp}{s:Shared}{a C dx:Addr}{fs:List (Str × V)}{f:Str}{v:V}{A:Around}{E:Value->Shared->Prop}
theorem Cb {b:Bool} {Q:Value->Shared->Prop} (I:Inv X Lc σ H s) (e:H a=some (.ins C dx fs)) (c:Cls X.K C) (n:NoAttr X.K C f) (l:fs.lookup f=some v)
  (h:∀ u s',Inv X Lc σ H s'->RelV v u->Q u s'):wpAny (model X.prog X.w) A (getAttr (.ref a) f b) Q E s:=by
 obtain⟨mA,O,r,_,_,_⟩:=sY I.hok e;obtain⟨u,hu,ru⟩:=OJ (v:=v) (o:=mA f) (by rw[← l];exact r f);exact FJ I.kIn O (c.get f) c.hd n hu (Dr ru) (h u _ (I.tok _) ru)
theorem vn {m:Str} {g:Addr} {pl:Sem Bool} {Q:Value × List Value->Shared->Prop} (I:Inv X Lc σ H s) (e:H a=some (.ins C dx fs)) (c:Cls X.K C) (k:Meth X.K C m g) (l:fs.lookup m=none)
  (h:Q (.ref g,[.ref a]) s):wpAny (model X.prog X.w) A (getMethod (.ref a) m pl) Q E s:=by
 obtain⟨mA,O,r,_,_,_⟩:=sY I.hok e;have hn:mA m=none:=RelO.none_of (by rw[← l];exact r m);exact EY I.kIn O (c.get m) k.at_ k.fn hn h
theorem Cd {y:V} {u:Value} {Q:Unit->Shared->Prop} (I:Inv X Lc σ H s) (e:H a=some (.ins C dx fs)) (c:Cls X.K C) (n:NoAttr X.K C f) (hl:fs.length<1000) (ry:RelV y u)
  (h:∀ s',Inv X Lc σ (upd H a (.ins C dx (putF f y fs))) s'->Q () s'):wpAny (model X.prog X.w) A (setAttr (.ref a) f u) Q E s:=by
 obtain⟨mA,O,r,wi,_,ho⟩:=sY I.hok e;have hz:(fs.map (·.1)).length<=sizeLine:=by rw[Lp,OC];omega
 refine FK I.kIn O c.sa c.po n.taker c.hd wi hz fun h' O' sb=>h _ ?_;have hd:∃ o,h'.get? dx=some o:=let ⟨o,_,_,e',_⟩:=O'.ns;⟨o,e'⟩;refine I.write (x:=a) (e:=dx) (by rw[e];exact True.intro) (.inr ho) (fun b q hb z=>(sb.2 b hb).trans z) hd ?_;refine⟨by rw[ao O.ne];exact ho,?_,O.ne,O'.obj,_,O'.ns,fun g=>?_,fun g hg=>?_⟩
 . have:=tZ f y fs;omega
 . show RelO ((putF f y fs).lookup g) (if g=f then some u else mA g);rw[tY];by_cases q:g=f
   . rw[LX q,LX q];exact ry
   . rw[LU q,LU q];exact r g
 . by_cases q:g=f
   . rw[q];exact(qZ f y fs).1
   . refine(qZ f y fs).2 g (wi g fun z=>hg ?_);show(if g=f then some u else mA g)=none;rw[LU q];exact z
theorem Inv.made(I:Inv X Lc σ H s):Inv X Lc σ (upd (upd H s.heap.objs.size (.own (s.heap.objs.size+1))) (s.heap.objs.size+1) (.ins C s.heap.objs.size []))
  {s with heap:=(s.heap.push PySem.W.emptyDict).push (PySem.W.instObj C s.heap.objs.size)}:=by
 have e1:(s.heap.push PySem.W.emptyDict).get? s.heap.objs.size=some PySem.W.emptyDict:=L5 s.heap rfl
 have e2:((s.heap.push PySem.W.emptyDict).push (PySem.W.instObj C s.heap.objs.size)).get? (s.heap.objs.size+1)=some (PySem.W.instObj C s.heap.objs.size):=by
  have:=L5 (s.heap.push PySem.W.emptyDict) (o:=PySem.W.instObj C s.heap.objs.size) rfl
  rwa [M3] at this
 have e3:(s.heap.push PySem.W.emptyDict).Ns s.heap.objs.size (fun _=>none):=⟨PySem.W.emptyDict,#[],_,e1,rfl,(fun e he=>absurd he (by simp)),fun _=>rfl⟩;have I1:=I.laid (a:=s.heap.objs.size) (o:=.own (s.heap.objs.size+1)) (h':=s.heap.push PySem.W.emptyDict) (t':=s.toks) (fun b u q=>LG _ q) (LF _) ⟨_,e1⟩;refine I1.laid (a:=s.heap.objs.size+1) (o:=.ins C s.heap.objs.size []) (t':=s.toks) (fun b u q=>LG _ q) (Nat.le_of_eq (M3 _ _)) ?_;have ne:s.heap.objs.size≠s.heap.objs.size+1:=Mi (NC _);refine⟨by rw[ao ne,aj],Ml _,ne,e2,fun _=>none,(Heap.Ns1.of_empty e3).at fun o q=>LG _ q,fun _=>True.intro,fun y hy=>absurd rfl hy⟩
theorem FL {prog:Program} {w:World} {env:Env} {e:Expr} {f:Str} {pos:Pos} {s:Shared} {Q:Value->Shared->Prop} (hb:attributeBase e f env (eval e env)=eval e env)
  (h:wpAny (model prog w) A (eval e env) (fun o s₁=>wpAny (model prog w) A (getAttr o f true) Q E s₁) E s):wpAny (model prog w) A (eval (.Attribute e f pos) env) Q E s:=
 Attribute_any_ h (by rw[arm_eval_Attribute,hb])
end
section
variable{X:Cx}{o e value:Expr}{f:Str}{pos pos' tpos:Pos}{ta tv:TE}
end
section
variable{X:Cx}{Lc:List (Addr × Obj)}{σ:St}{H:Hp}{s:Shared}{A:Around}{E:Value->Shared->Prop}{Q:Value->Shared->Prop}{c:Value}{b:Bool}
inductive TyOf(K:Frag)(H:Hp):V->Value->Prop where
 | non:TyOf K H .non (.type "NoneType")
 | bl (x:Bool):TyOf K H (.bl x) (.type "bool")
 | int (i:Int):TyOf K H (.int i) (.type "int")
 | str (x:Str):TyOf K H (.str x) (.type "str")
 | flt (x:UInt64):TyOf K H (.flt x) (.type "float")
 | lst {a:Addr} {xs:List V} (e:H a=some (.lst xs)):TyOf K H (.ref a) (.type "list")
 | frz {a:Addr} {o:Obj} {xs:List V} (e:H a=some (.frz o (.lst xs))):TyOf K H (.ref a) (.type "list")
 | tup {a:Addr} {xs:List V} (e:H a=some (.tup xs)):TyOf K H (.ref a) (.type "tuple")
 | dK {a:Addr} {Lf:List (Key × V)} (e:H a=some (.dK Lf)):TyOf K H (.ref a) (.type "dict")
 | dT {a:Addr} {Lf:List (List Key × V)} (e:H a=some (.dT Lf)):TyOf K H (.ref a) (.type "dict")
 | ins {a C dx:Addr} {fs:List (Str × V)} (e:H a=some (.ins C dx fs)) (cl:Cls K C) (ha:findIn K (.ref C) "__class__"=some (some (.builtin "object.__class__")))
   (hn:PySem.W.specialIn K (.builtin "object.__class__") "__get__"=some (some (.builtin "getset_descriptor.__get__"))) (htk:PySem.W.takesIn K (.builtin "object.__class__")=some true)
   (hm:PySem.W.mroIn K C (.type "object")=some true):TyOf K H (.ref a) (.ref C)
theorem Ds{x:V}{u t:Value}(I:Inv X Lc σ H s)(rx:RelV x u)(ty:TyOf X.K H x t)(e:PySem.W.kitOne X.K t c=some b)(h:∀ tk,Q (.bool b) {s with toks:=tk}):
  wpAny (model X.prog X.w) A (call (.builtin "isinstance") [u,c]) Q E s:=by
 cases ty with
 | non=>cases (show u=Value.none from rx);exact ME PySem.W.kitx_none I.kIn True.intro e (fun z=>nomatch z) h
 | bl y=>cases (show u=Value.bool y from rx);exact ME PySem.W.kitx_bool I.kIn True.intro e (fun z=>nomatch z) h
 | int i=>obtain⟨t,q⟩:=(show ∃ t,u=Value.int i t from rx);cases q;exact ME PySem.W.kitx_int I.kIn True.intro e (fun z=>nomatch z) h
 | str y=>obtain⟨t,q⟩:=(show ∃ t,u=Value.str y t from rx);cases q;exact ME PySem.W.kitx_str I.kIn True.intro e (fun z=>nomatch z) h
 | flt y=>obtain⟨t,q⟩:=(show ∃ t,u=Value.float y t from rx);cases q;exact ME PySem.W.kitx_float I.kIn True.intro e (fun z=>nomatch z) h
 | @lst a xs ea=>
  cases (show u=Value.ref a from rx);obtain⟨_,_,n,_,h1⟩:=(show ObjOk X.prog X.w H s.heap a (.lst xs) from I.hok a _ ea);exact ME PySem.W.kitx_list I.kIn ⟨_,h1,rfl⟩ e (fun z=>nomatch z) h
 | @frz a ob xs ea=>
  cases (show u=Value.ref a from rx);obtain⟨_,_,_,n,_,h1⟩:=(show ObjOk X.prog X.w H s.heap a (.frz ob (.lst xs)) from I.hok a _ ea);exact ME PySem.W.kitx_list I.kIn ⟨_,h1,rfl⟩ e (fun z=>nomatch z) h
 | @tup a xs ea=>
  cases (show u=Value.ref a from rx);obtain⟨_,_,_,p⟩:=(show ObjOk X.prog X.w H s.heap a (.tup xs) from I.hok a _ ea);obtain⟨o,h1,h2,_⟩:=p;exact ME PySem.W.kitx_tuple I.kIn ⟨o,h1,h2⟩ e (fun z=>nomatch z) h
 | @dK a Lf ea=>
  cases (show u=Value.ref a from rx);obtain⟨_,_,vs,_,p⟩:=(show ObjOk X.prog X.w H s.heap a (.dK Lf) from I.hok a _ ea);obtain⟨o,es,ep,h1,h2,_⟩:=p;exact ME PySem.W.kitx_dict I.kIn ⟨o,h1,h2.1⟩ e (fun z=>nomatch z) h
 | @dT a Lf ea=>
  cases (show u=Value.ref a from rx);obtain⟨_,_,xs,_,o,es,ep,h1,h2,_⟩:=(show ObjOk X.prog X.w H s.heap a (.dT Lf) from I.hok a _ ea);exact ME PySem.W.kitx_dict I.kIn ⟨o,h1,h2.1⟩ e (fun z=>nomatch z) h
 | @ins a C dx fs ea cl ha hn htk hm=>
  cases (show u=Value.ref a from rx);obtain⟨mA,O,_⟩:=sY I.hok ea;obtain⟨od,J,_⟩:=O.look;exact ME (PySem.W.kitx_own (cl.get _) cl.hd ha hn htk hm) I.kIn J e (fun z=>nomatch z) h
end
structure Room(k:Nat)(A:Around):Prop where
 hd:A.handled=none
 dp:A.depth+3*k+5<recursionLimit
 un:A.units+16*k+200<cLine
variable{A:Around}
theorem Room.mono{j k:Nat}(r:Room k A)(h:j<=k):Room j A:=⟨r.hd,by have:=r.dp;omega,by have:=r.un;omega⟩
theorem Room.deeper{k:Nat}(r:Room (k+1) A)(env:Env):Room k (A.deeper env):=
 ⟨r.hd,by have:=r.dp;show A.depth+1+3*k+5<_;omega,by have:=r.un;show A.units+3+16*k+200<_;omega⟩
variable{us:List Value}{kw:List (Str × Value)}
theorem Ce{C:Addr}:(A.under (.builtin "type.__call__" ⟨.ref C::us,kw⟩)).depth=A.depth+1:=by
 first | rfl | simp[Around.under,Code.weight,Code.isCreation,Code.isGuard,Code.isCaller,Code.frames,Code.isFrame,guardIds]
theorem Cf{C:Addr}:(A.under (.builtin "type.__call__" ⟨.ref C::us,kw⟩)).units=A.units+1:=by
 first | rfl | simp[Around.under,Code.cUnits,Code.frames,Code.isFrame]
theorem Room.make{k:Nat}(r:Room (k+1) A)(C:Addr)(us:List Value)(kw:List (Str × Value)):Room k (A.under (.builtin "type.__call__" ⟨.ref C::us,kw⟩)):=
 ⟨r.hd,by have:=r.dp;rw[Ce];omega,by have:=r.un;rw[Cf];omega⟩
theorem Room.depth{k:Nat}(r:Room k A):A.depth<recursionLimit:=by have:=r.dp;omega
theorem Room.units{k:Nat}(r:Room k A):A.units+64<cLine:=by have:=r.un;omega
def tNil:TA:=fun _ H Q=>Q [] H
def tCons(ta:TE)(tr:TA):TA:=fun σ H Q=>ta σ H fun x H1=>tr σ H1 fun xs H2=>Q (x::xs) H2
section
variable{X:Cx}{e:Expr}{es:List Expr}{te:TE}{t:TA}{pos:Pos}
theorem ab:PA X [] tNil:=fun _ _ _ _ H Q I h=>Nw ⟨[],H,I,.nil,h⟩
theorem aa(ha:PE X e te)(hr:PA X es t)(hs:starEach (e::es) X.env=(false,eval e X.env)::starEach es X.env:=by rfl):PA X (e::es) (tCons te t):=by
 intro pos Lc s σ H Q I h;rw[hs];show wpAny _ _ (spliced ((false,eval e X.env)::backTo pos (starEach es X.env))) _ _ s;refine Nq (thn (ha Lc s σ H _ I h) fun u s1 ⟨x,H1,I1,r1,q1⟩=>?_);exact thn (hr pos Lc s1 σ H1 _ I1 q1) fun us s2 ⟨xs,H2,I2,r2,q2⟩=>⟨x::xs,H2,I2,.cons r1 r2,q2⟩
def tTup(t:TA):TE:=fun σ H Q=>t σ H fun xs H1=>xs.length<=sizeLine/\∀ p,H1 p=none->Q (.ref p) (upd H1 p (.tup xs))
def tLst(t:TA):TE:=fun σ H Q=>t σ H fun xs H1=>xs.length<=sizeLine/\∀ p,H1 p=none->Q (.ref p) (upd H1 p (.lst xs))
theorem c5{x1}(h:PA X es t):PE X (.Tuple es x1 pos) (tTup t):=by
 intro Lc s σ H Q I hq;refine wpAny_Tuple_spliced (thn (h pos Lc s σ H _ I hq) fun us s1 ⟨xs,H1,I1,r,z,q⟩=>⟨by rw[← r.length];exact z,?_⟩);have hf:H1 s1.heap.objs.size=none:=I1.hok.fresh (LF _);refine⟨.ref s1.heap.objs.size,upd H1 s1.heap.objs.size (.tup xs),I1.laid (t':=s1.toks) (fun b u e=>LG _ e) (LF _) ?_,rfl,q _ hf⟩;exact⟨z,us,r,⟨_,L5 _ rfl,rfl,_,rfl⟩⟩
theorem aA(h:PA X es t):PE X (.List es pos) (tLst t):=by
 intro Lc s σ H Q I hq;refine wpAny_List_spliced (thn (h pos Lc s σ H _ I hq) fun us s1 ⟨xs,H1,I1,r,z,q⟩=>⟨by rw[← r.length];exact z,?_⟩);have hf:H1 s1.heap.objs.size=none:=I1.hok.fresh (LF _);refine⟨.ref s1.heap.objs.size,upd H1 s1.heap.objs.size (.lst xs),I1.laid (t':=s1.toks) (fun b u e=>LG _ e) (LF _) ?_,rfl,q _ hf⟩;exact⟨z,us,0,r,L5 _ rfl⟩
end
abbrev Sp:=List V->Hp->VK->XK->Prop
abbrev CXT:=List Env->Hp->Shared->XK->Value->Shared->Prop
structure Env0(P:Program)(w:World)(K:Frag)(mg:Str->Option Value)(base:Heap)(A:Around)(outer:List Env)(s:Shared)(H:Hp):Prop where
 frames:A.frames=some outer
 mod:Mod K mg base
 bs:∀ b o,base.get? b=some o->s.heap.get? b=some o/\H b=none
 bsz:base.objs.size<=s.heap.objs.size
 funs:s.heap.FunFrames base outer
 frf:∀ b∈frs outer,H b=none
 hok:HOk P w H s.heap
 bare:AllBare s.gens
def CE(outer:List Env)(P:Program)(w:World)(H:Hp)(s:Shared)(Q:VK)(u:Value)(s':Shared):Prop:=
 ∃ v H',s'.os=s.os/\AllBare s'.gens/\Un (frs outer) [] H H' s.heap s'.heap/\HOk P w H' s'.heap/\RelV v u/\Q v H'
def CR(CX:CXT)(outer:List Env)(P:Program)(w:World)(H:Hp)(s:Shared)(Q:VK)(E:XK)(r:Result)(s':Shared):Prop:=
 match r with
 | .ok (.ret u)=>CE outer P w H s Q u s'
 | .ok _=>False
 | .error e=>CX outer H s E e s'
structure FnOk(P:Program)(w:World)(K:Frag)(mg:Str->Option Value)(base:Heap)(CX:CXT)(k:Nat)(f:Addr)(fd:FuncData)(ps:List Str)(sp:Sp):Prop where
 len:∀ vs H Q E,sp vs H Q E->vs.length=ps.length
 run:∀(A:Around) (outer:List Env) (s:Shared) (H:Hp) (args:Args) (us:List Value) (vs:List V) (Q:VK) (E:XK),Room k A->Env0 P w K mg base A outer s H->BindsTo s fd args (ps.zip us)->Vals vs us->sp vs H Q E->
  codeAny (model P w) A (.call (.ref f) args) (CR CX outer P w H s Q E) s
variable{P:Program}{w:World}{K:Frag}{mg:Str->Option Value}{base:Heap}{CX:CXT}{f:Addr}{fd:FuncData}{ps:List Str}
theorem FnOk.mono{j k:Nat}{sp:Sp}(F:FnOk P w K mg base CX j f fd ps sp)(h:j<=k):
  FnOk P w K mg base CX k f fd ps sp:=⟨F.len,fun A outer s H args us vs Q E hr=>F.run A outer s H args us vs Q E (hr.mono h)⟩
theorem FnOk.imp {k:Nat} {sp sp':Sp} (F:FnOk P w K mg base CX k f fd ps sp)
  (h:∀ vs H Q E,sp' vs H Q E->sp vs H Q E):FnOk P w K mg base CX k f fd ps sp':=
 ⟨fun vs H Q E q=>F.len vs H Q E (h _ _ _ _ q),fun A outer s H args us vs Q E hr he hb hv hs=>F.run A outer s H args us vs Q E hr he hb hv (h _ _ _ _ hs)⟩
variable{outer:List Env}
theorem Env0.make{s:Shared}{H:Hp}(e:Env0 P w K mg base A outer s H)(C:Addr)(us:List Value)(kw:List (Str × Value)):
  Env0 P w K mg base (A.under (.builtin "type.__call__" ⟨.ref C::us,kw⟩)) outer s H:=⟨by first | exact e.frames | (simpa [Around.under,Code.envs,Code.isFrame,pushEnvs] using e.frames),e.mod,e.bs,e.bsz,e.funs,e.frf,e.hok,e.bare⟩
section
variable{X:Cx}{Lc:List (Addr × Obj)}{σ:St}{H:Hp}{s s':Shared}
theorem Inv.env0(I:Inv X Lc σ H s):Env0 X.prog X.w X.K X.mg X.base X.A X.stack s H:=
 ⟨I.ok.frames,I.ok.mod,I.bs,Lz I.ok.bsz I.sz,I.stack,I.stkFree,I.hok,I.bare⟩
theorem Inv.after{Q:VK}{u:Value}(I:Inv X Lc σ H s)(h:CE X.stack X.prog X.w H s Q u s'):EP X Lc σ Q u s':=by
 obtain⟨v,H',os,bare,un,hok,r,q⟩:=h;obtain⟨hh,g,d,t,os'⟩:=s';obtain rfl:os'=s.os:=os;exact⟨v,H',I.call (h':=hh) (g':=g) (d':=d) (t':=t) (ch:=[]) un hok bare (fun b z=>absurd z (by simp)),r,q⟩
end
def tCall(sp:Sp)(dvs:List V)(E:XK)(t:TA):TE:=fun σ H Q=>t σ H fun vs H1=>sp (vs++dvs) H1 Q E
def tMake(C:Addr)(sp:Sp)(dvs:List V)(E:XK)(t:TA):TE:=fun σ H Q=>t σ H fun vs H1=>∀ x dx,H1 x=none->H1 dx=none->dx≠x->
 sp (.ref x::(vs++dvs)) (upd (upd H1 dx (.own x)) x (.ins C dx [])) (fun v H2=>v=.non/\Q (.ref x) H2) E
def Binds(K:Frag)(fd:FuncData)(ps:List Str)(ds:List Value):Prop:=
 ∀(s:Shared) (us:List Value),K.In s.heap->(us++ds).length=ps.length->BindsTo s fd ⟨us,[]⟩ (ps.zip (us++ds))
theorem Binds.all(h:∀ us:List Value,us.length=ps.length->bindArgs fd ⟨us,[]⟩=pure (ps.zip us)):Binds K fd ps []:=fun s us _ hl=>by
 rw[List.append_nil] at hl ⊢;exact .of_eq (h us hl)
def ra(CX:CXT)(X:Cx)(E:XK):Prop:=∀(Lc:List (Addr × Obj)) (σ:St) (H:Hp) (s:Shared) (e:Value) (s':Shared),Inv X Lc σ H s->CX X.stack H s E e s'->X.xe e s'
section
variable{X:Cx}{CX:CXT}{k:Nat}{f C:Addr}{fd:FuncData}{ps:List Str}{sp:Sp}{dvs:List V}{ds:List Value}{E:XK}{x m:Str}{p pos apos:Pos}{e o:Expr}{es:List Expr}{ta:TE}{t:TA}
theorem zk {Lc:List (Addr × Obj)} {σ:St} {H:Hp} {s:Shared} {Q:VK} {us:List Value} {vs:List V} (F:FnOk X.prog X.w X.K X.mg X.base CX k f fd ps sp) (hr:Room k X.A) (hb:Binds X.K fd ps ds) (hd:Vals dvs ds) (hx:ra CX X E)
  (I:Inv X Lc σ H s) (r:Vals vs us) (h:sp (vs++dvs) H Q E):wpAny (model X.prog X.w) X.A (call (.ref f) us) (EP X Lc σ Q) X.xe s:=by
 have r2:Vals (vs++dvs) (us++ds):=r.append hd;have hl:(us++ds).length=ps.length:=by rw[← r2.length];exact F.len _ _ _ _ h
 refine wpAny_call (OK (F.run X.A X.stack s H ⟨us,[]⟩ (us++ds) (vs++dvs) Q E hr I.env0 (hb s us I.kIn hl) r2 h) fun r s' hq=>?_)
 cases r with
 | error e=>exact hx Lc σ H s e s' I hq
 | ok fl=>
  cases fl with
  | ret u=>exact I.after hq
  | next=>exact False.elim hq
  | brk=>exact False.elim hq
  | cont=>exact False.elim hq
theorem FM (F:FnOk X.prog X.w X.K X.mg X.base CX k f fd ps sp) (hr:Room k X.A) (hg:Gl X x) (hm:X.mg x=some (.ref f)) (hk:keepIn X.K (.ref f)=true) (hb:Binds X.K fd ps ds) (hd:Vals dvs ds) (hx:ra CX X E)
  (ha:PA X (e::es) t) (hdb:(x==("__debug__":Str))=false:=by decide) (he:starEach (e::es) X.env=(false,eval e X.env)::starEach es X.env:=by rfl) (hpl:(backTo pos (starEach es X.env)).any (·.1)=false:=by rfl):
  PE X (.Call (.Name x p) (e::es) [] pos) (tCall sp dvs E t):=by
 intro Lc s σ H Q I h;refine MJ (xb I hg hm ?_ hdb);refine NZ (h₀:=X.base) I.ok.mod.kin hk (thn (ha pos Lc s σ H _ I h) fun us s1 ⟨vs,H1,I1,r,q⟩=>⟨I1.kIn,?_⟩) he hpl;exact zk F hr hb hd hx I1 r q
structure Mk(K:Frag)(C f:Addr):Prop where
 makes:PySem.W.makesIn K C=true
 init:findIn K (.ref C) "__init__"=some (some (.ref f))
 fn:isFn K (.ref f)=true
 kp:keepIn K (.ref C)=true
theorem E2 {Lc:List (Addr × Obj)} {σ:St} {H:Hp} {s:Shared} {Q:VK} {us:List Value} {vs:List V} (M:Mk X.K C f) (F:FnOk X.prog X.w X.K X.mg X.base CX k f fd ps sp) (hr:Room (k+1) X.A) (hb:Binds X.K fd ps ds) (hd:Vals dvs ds)
  (hx:ra CX X E) (I:Inv X Lc σ H s) (r:Vals vs us)
  (h:∀ x dx,H x=none->H dx=none->dx≠x->sp (.ref x::(vs++dvs)) (upd (upd H dx (.own x)) x (.ins C dx [])) (fun v H2=>v=.non/\Q (.ref x) H2) E):
  wpAny (model X.prog X.w) X.A (call (.ref C) us) (EP X Lc σ Q) X.xe s:=by
 have hq:=h (s.heap.objs.size+1) s.heap.objs.size (I.hok.fresh (NJ _)) (I.hok.fresh (LF _)) (Mi (NC _));have I2:=Inv.made (C:=C) I;have r2:Vals (V.ref (s.heap.objs.size+1)::(vs++dvs)) (Value.ref (s.heap.objs.size+1)::(us++ds)):=.cons rfl (r.append hd)
 have hl:(Value.ref (s.heap.objs.size+1)::us++ds).length=ps.length:=by
  have e:=r2.length;rw[F.len _ _ _ _ hq] at e;exact e.symm
 refine wpAny_call (EZ (f:=f) I.kIn M.makes M.init (Ni.mp M.fn) (OK (F.run _ X.stack _ _ ⟨Value.ref (s.heap.objs.size+1)::us,[]⟩ (Value.ref (s.heap.objs.size+1)::(us++ds)) _ _ E (hr.make C us [])
  (I2.env0.make C us []) (hb _ (Value.ref (s.heap.objs.size+1)::us) I2.kIn hl) r2 hq) fun r s' hq'=>?_))
 cases r with
 | error e=>exact hx Lc σ _ _ e s' I2 hq'
 | ok fl=>
  cases fl with
  | ret u=>
   obtain⟨v,H',I3,rv,ev,q3⟩:=I2.after hq';subst ev;exact⟨rv,⟨V.ref (s.heap.objs.size+1),H',I3,rfl,q3⟩⟩
  | next=>exact False.elim hq'
  | brk=>exact False.elim hq'
  | cont=>exact False.elim hq'
theorem FN (M:Mk X.K C f) (F:FnOk X.prog X.w X.K X.mg X.base CX k f fd ps sp) (hr:Room (k+1) X.A) (hg:Gl X x) (hm:X.mg x=some (.ref C)) (hb:Binds X.K fd ps ds) (hd:Vals dvs ds) (hx:ra CX X E)
  (ha:PA X (e::es) t) (hdb:(x==("__debug__":Str))=false:=by decide) (he:starEach (e::es) X.env=(false,eval e X.env)::starEach es X.env:=by rfl) (hpl:(backTo pos (starEach es X.env)).any (·.1)=false:=by rfl):
  PE X (.Call (.Name x p) (e::es) [] pos) (tMake C sp dvs E t):=by
 intro Lc s σ H Q I h;refine MJ (xb I hg hm ?_ hdb);refine NZ (h₀:=X.base) I.ok.mod.kin M.kp (thn (ha pos Lc s σ H _ I h) fun us s1 ⟨vs,H1,I1,r,q⟩=>⟨I1.kIn,?_⟩) he hpl;exact E2 M F hr hb hd hx I1 r q
end
section
variable{X:Cx}{CX:CXT}{k:Nat}{f C:Addr}{fd:FuncData}{ps ks:List Str}{sp:Sp}{E:XK}{x m:Str}{p pos apos kpos:Pos}{e o:Expr}{es:List Expr}{kws:List Keyword}{te ta:TE}{t tk:TA}{nm:Option Str}
variable{g:List Value->List Value->List Value}{gV:List V->List V->List V}
end
structure md(N P:List Str)(sc:Scope):Prop where
 kind:sc.kind=.function
 co:sc.isCoroutine=false
 gen:sc.isGenerator=false
 nd:N.Nodup
 pre:N.take P.length=P
 par:∀ x∈P,sc.names.lookup x=some .local\/sc.names.lookup x=some .cell
 nofree:∀ y∈sc.names,y.2≠.free
theorem xW{kindOf:Str->Option NameKind}{x:Str}:∀{binds:List (Str × Value)} {m:Str->Option Value},(∀ v,(x,v)∉binds)->bindL kindOf binds m x=m x
 | [],_,_=>rfl
 | (n,v)::r,m,h=>by
  unfold bindL;rw[xW fun w hw=>h w (LI _ hw)]
  split
  . have:x≠n:=by rintro rfl;exact h v LQ
    simp[this]
  . rfl
theorem xX{kindOf:Str->Option NameKind}{x:Str}:∀{binds:List (Str × Value)} {m:Str->Option Value},(∀ v,(x,v)∉binds)->bindC kindOf binds m x=m x
 | [],_,_=>rfl
 | (n,v)::r,m,h=>by
  unfold bindC;rw[xX fun w hw=>h w (LI _ hw)]
  split
  . rfl
  . have:x≠n:=by rintro rfl;exact h v LQ
    simp[this]
theorem xY{kindOf:Str->Option NameKind}{x:Str}{v:Value}:∀{P:List Str} {vs:List Value} {i:Nat} {m:Str->Option Value},P.Nodup->P[i]? =some x->vs[i]? =some v->kindOf x=some .local->
  bindL kindOf (P.zip vs) m x=some v
 | [],_,_,_,_,h,_,_=>by simp at h
 | _::_,[],_,_,_,_,h,_=>by simp at h
 | p::P,w::vs,0,m,nd,h1,h2,hk=>by
  simp at h1 h2;subst h1;subst h2;show bindL kindOf ((p,w)::P.zip vs) m p=_;unfold bindL;rw[xW fun v hv=>(MH.mp nd).1 (Ov hv).1,LX hk];simp
 | p::P,w::vs,i+1,m,nd,h1,h2,hk=>by
  show bindL kindOf ((p,w)::P.zip vs) m x=_;unfold bindL;exact xY (i:=i) (MH.mp nd).2 (by simpa using h1) (by simpa using h2) hk
theorem xZ{kindOf:Str->Option NameKind}{x:Str}{v:Value}:∀{P:List Str} {vs:List Value} {i:Nat} {m:Str->Option Value},P.Nodup->P[i]? =some x->vs[i]? =some v->kindOf x≠some .local->
  bindC kindOf (P.zip vs) m x=some v
 | [],_,_,_,_,h,_,_=>by simp at h
 | _::_,[],_,_,_,_,h,_=>by simp at h
 | p::P,w::vs,0,m,nd,h1,h2,hk=>by
  simp at h1 h2;subst h1;subst h2;show bindC kindOf ((p,w)::P.zip vs) m p=_;unfold bindC;rw[xX fun v hv=>(MH.mp nd).1 (Ov hv).1,LU hk];simp
 | p::P,w::vs,i+1,m,nd,h1,h2,hk=>by
  show bindC kindOf ((p,w)::P.zip vs) m x=_;unfold bindC;exact xZ (i:=i) (MH.mp nd).2 (by simpa using h1) (by simpa using h2) hk
def start(N:List Str)(vs:List V):St:=vs.map some++List.replicate (N.length-vs.length) none
def cxOf(CX:CXT)(P:Program)(w:World)(K:Frag)(mg:Str->Option Value)(base:Heap)(N:List Str)(qual:Str)(scope:Scope)(f:Addr)(cd:Value)(A:Around)(outer:List Env)(s:Shared)(H:Hp)(E:XK):Cx where
 prog:=P
 w:=w
 K:=K
 mg:=mg
 base:=base
 A:=A.deeper (envOfC qual scope s.heap.objs.size f cd)
 N:=N
 s₀:=s
 H₀:=H
 env:=envOfC qual scope s.heap.objs.size f cd
 outer:=outer
 stack:=envOfC qual scope s.heap.objs.size f cd::outer
 ex:=[]
 calm:=true
 fn:=fun _=>true
 pn:=[]
 xe:=fun e s'=>wpAny (model P w) (A.deeper (envOfC qual scope s.heap.objs.size f cd)) (leaving (envOfC qual scope s.heap.objs.size f cd) e) (fun _ s''=>CX outer H s E e s'') (fun e' s''=>CX outer H s E e' s'') s'
theorem pT{sc:Scope}{n:Nat}{x:Str}(h:sc.names.lookup x=some .cell):∃ c,(cellsFrom n sc.names []).lookup x=some c:=by
 have q:=On sc.names n [] (.inl h);exact Option.isSome_iff_exists.mp q
variable{scope:Scope}
theorem Dt {N:List Str} {qual:Str} {cd:Value} {s s1:Shared} {H:Hp} {E:XK} {vs:List V}
  (S:md N ps scope) (hd:A.handled=none) (e0:Env0 P w K mg base A outer s H) (hl:vs.length=ps.length) (r:Vals vs us)
  (x:InCallC s s.heap.objs.size (bindL (envOfC qual scope s.heap.objs.size f cd).kindOf (ps.zip us) fun _=>none) (cellsFrom (s.heap.objs.size+1) scope.names []) (bindC (envOfC qual scope s.heap.objs.size f cd).kindOf (ps.zip us) fun _=>none) s1):
  Inv (cxOf CX P w K mg base N qual scope f cd A outer s H E) [] (start N vs) H s1:=by
 have hpl:ps.length<=N.length:=by have:=congrArg List.length S.pre;rw[Mm] at this;omega
 obtain⟨h1,tk,rfl,hk⟩:=x.done;have noA:∀ b:Addr,b∉(cxOf CX P w K mg base N qual scope f cd A outer s H E).ex:=fun b z=>absurd (show b∈([]:List Addr) from z) (by simp)
 refine⟨⟨e0.mod,S.kind,rfl,rfl,LF _,fun y z c h1 h2=>?_,fun y hy=>?_,fun y c _ h=>?_,fun _=>hd,Around.frames_deeper e0.frames,.inr ⟨rfl,rfl⟩,fun b z=>absurd z (noA b),e0.bs,e0.bsz,fun b _ _=>noA b,fun b z=>absurd z (noA b),e0.funs,e0.frf⟩,
  rfl,e0.bare,Un.kept hk,⟨_,x.toInCall.ns,fun i y v h1 h2 h3=>?_⟩,fun y c h=>⟨_,x.cell y c h⟩,e0.hok.fresh (LF _),fun y c h=>?_,fun p hp=>absurd (show p∈([]:List (Addr × Obj)) from hp) (by simp),e0.hok.kept hk,?_⟩
 . exact name_of_addr x.apart (MA h1) (MA h2)
 . have hy:scope.names.lookup y=some .cell\/scope.names.lookup y=some .free:=hy;rcases hy with hy | hy
   . exact pT hy
   . exact absurd rfl (S.nofree _ (MA hy))
 . exact Mj (x.above y c (MA h))
 . have hi:i<vs.length:=by
    unfold start at h2;by_cases hi:i<vs.length
    . exact hi
    . rw[L6 (by simpa using hi)] at h2;rw[Og] at h2
      split at h2 <;> cases h2
   have ha:vs[i]? =some v:=by
    unfold start at h2;rw[LT (by simpa using hi),Lu] at h2
    cases e:vs[i]? with
    | none=>rw[e] at h2;cases h2
    | some a=>rw[e] at h2;cases h2;rfl
   obtain⟨u,hu,rv⟩:=r.get ha
   have hp:ps[i]? =some y:=by
    rw[← S.pre,List.getElem?_take_of_lt (by omega)];exact h1
   have ndP:ps.Nodup:=by rw[← S.pre];exact S.nd.sublist (List.take_sublist _ _)
   refine⟨u,rv,?_⟩;rcases S.par y (LB hp) with k | k
   . exact .inl ⟨k,xY ndP hp hu k⟩
   . obtain⟨c,e⟩:=pT (n:=s.heap.objs.size+1) k;refine .inr ⟨.inl k,c,e,?_⟩;have q:=x.cell y c e;rw[xZ ndP hp hu (by show scope.names.lookup y≠_;rw[k];decide)] at q;exact q
 . exact e0.hok.fresh (Mj (x.above y c (MA h)))
 . unfold start;show _=N.length;rw[LC,Lp,Oy];omega
theorem HI {k:Nat} {name qual:Str} {params:Arguments} {body:List Stmt} {dV kV doc pm Le ct oc:Value} {an od:Option Addr}
  {osl:Array (Option Value)} {N ps:List Str} {sp:Sp} (lk:K.lookup f=some ⟨oc,od,.func (fnOf name qual params body scope dV kV doc pm an Le ct),osl⟩) (hcd:codeIn K Le qual=true) (S:md N ps scope)
  (len:∀ vs H Q E,sp vs H Q E->vs.length=ps.length)
  (hbody:∀(A:Around) (outer:List Env) (s:Shared) (H:Hp) (vs:List V) (Q:VK) (E:XK),Room k (A.deeper (envOfC qual scope s.heap.objs.size f Le))->sp vs H Q E->
   ∃ t,PSs (cxOf CX P w K mg base N qual scope f Le A outer s H E) body t/\t {nx:=fun _ H'=>Q .non H',rt:=Q} (start N vs) H):
  FnOk P w K mg base CX (k+1) f (fnOf name qual params body scope dV kV doc pm an Le ct) ps sp:=by
 refine⟨len,fun A outer s H args us vs Q E hr e0 hb r hsp=>?_⟩;have hl:=len _ _ _ _ hsp;have KX:K.In s.heap:=e0.mod.kin.keeps fun b o e=>(e0.bs b o e).1;have lim:s.heap.NoLimit:=e0.mod.nolimit.keeps fun b o e=>(e0.bs b o e).1
 have hkind:∀ y∈ps.zip us,scope.names.lookup y.1=some .local\/(scope.names.lookup y.1=some .cell/\((cellsFrom (s.heap.objs.size+1) scope.names []).lookup y.1).isSome=true):=fun⟨n,v⟩ hy=>by
  rcases S.par n (Ov hy).1 with q | q
  . exact .inl q
  . exact .inr ⟨q,On _ _ _ (.inl q)⟩
 refine codeAny_call_function hr.depth (KX _ _ lk) rfl S.co S.gen rfl (PySem.W.codeRec_of KX hcd) (hb _ _ _ _ ?_);refine wpAny_newFunctionEnv_cells S.kind hkind fun env he s1 x=>?_;subst he;refine⟨lim.keeps x.toInCall.keep,codeAny_func ?_⟩;obtain⟨t,ht,hq⟩:=hbody A outer s H vs Q E (hr.deeper _) hsp;have I:Inv (cxOf CX P w K mg base N qual scope f Le A outer s H E) [] (start N vs) H s1:=Dt S hr.hd e0 hl r x;refine MC (ht [] s1 (start N vs) H _ I hq) (fun fl s' hs=>?_) fun e s' hs=>hs
 have fin:∀{σ':St} {H':Hp} {v:V} {u:Value},Inv (cxOf CX P w K mg base N qual scope f Le A outer s H E) [] σ' H' s'->RelV v u->Q v H'->CE outer P w H s Q u s':=
  fun{σ' H' v u} J rv q=>⟨v,H',J.os,J.bare,J.base,J.hok,rv,q⟩
 cases fl with
 | ret u=>
  obtain⟨v,σ',H',J,rv,q⟩:=hs;exact fin J rv q
 | next=>
  obtain⟨σ',H',J,q⟩:=hs;exact fin (v:=V.non) (u:=Value.none) J rfl q
 | brk=>
  obtain⟨_,_,_,q⟩:=hs;exact False.elim q
 | cont=>
  obtain⟨_,_,_,q⟩:=hs;exact False.elim q
section
variable{X:Cx}{x:Str}{p pos:Pos}{e:Expr}{es:List Expr}{t:TA}{id T:String}{r:List V->Hp->VK->Prop}
def tCB(r:List V->Hp->VK->Prop)(t:TA):TE:=fun σ H Q=>t σ H fun vs H1=>r vs H1 Q
theorem ap (hc:CallR X (.builtin id) r) (hg:Gl X x) (hm:X.mg x=none) (hv:bootBuiltins x=some (.builtin id)) (ha:PA X (e::es) t) (hn:x≠"__name__":=by decide) (hdb:(x==("__debug__":Str))=false:=by decide)
  (he:starEach (e::es) X.env=(false,eval e X.env)::starEach es X.env:=by rfl) (hpl:(backTo pos (starEach es X.env)).any (·.1)=false:=by rfl):PE X (.Call (.Name x p) (e::es) [] pos) (tCB r t):=by
 intro Lc s σ H Q I h;refine MJ (iC I hg hm hv ?_ hn hdb);exact ND (thn (ha pos Lc s σ H _ I h) fun us s1 ⟨vs,H1,I1,r1,q1⟩=>hc Lc s1 σ H1 vs us Q I1 r1 q1) he hpl
theorem aV (hc:CallR X (.type T) r) (hg:Gl X x) (hm:X.mg x=none) (hv:bootBuiltins x=some (.type T)) (ha:PA X (e::es) t) (hn:x≠"__name__":=by decide) (hdb:(x==("__debug__":Str))=false:=by decide)
  (he:starEach (e::es) X.env=(false,eval e X.env)::starEach es X.env:=by rfl) (hpl:(backTo pos (starEach es X.env)).any (·.1)=false:=by rfl):PE X (.Call (.Name x p) (e::es) [] pos) (tCB r t):=by
 intro Lc s σ H Q I h;refine MJ (iC I hg hm hv ?_ hn hdb);exact Mx (thn (ha pos Lc s σ H _ I h) fun us s1 ⟨vs,H1,I1,r1,q1⟩=>hc Lc s1 σ H1 vs us Q I1 r1 q1) he hpl
end
end L2
namespace HT
open PySem PyProof.Rows
section
open PySem.SeqAt
open PySem.AutoSeq1 (wpAny_loadPart')
open PySem.MeetsSeq PySem.MeetsSeq2 PySem.MeetsSeq3
end
section
variable{prog:Program}{w:World}{A:Around}{E:Value->Shared->Prop}{s:Shared}
def sIx(n d:Nat):Option Int->Nat
 | none=>d
 | some v=>if v<0 then(v+(n:Int)).toNat else min v.toNat n
theorem sIx_none(n d:Nat):sIx n d none=d:=rfl
theorem sIx_nat(n d k:Nat):sIx n d (some (k:Int))=min k n:=by
 show(if (k:Int)<0 then((k:Int)+(n:Int)).toNat else min (k:Int).toNat n)=min k n;rw[if_neg (by omega),Int.toNat_natCast]
end
end HT
namespace L2
open PySem PySem.Spec PyProof.Rows
abbrev TO:=St->Hp->(Option Int->Hp->Prop)->Prop
def PO(X:Cx)(e:Option Expr)(t:TO):Prop:=
 ∀(Lc:List (Addr × Obj)) (s:Shared) (σ:St) (H:Hp) (Q:Option Int->Hp->Prop),Inv X Lc σ H s->t σ H Q->
  wpAny (model X.prog X.w) X.A (evalPart e X.env) (fun u s'=>∃ o H',Inv X Lc σ H' s'/\IsPart u o/\Q o H') X.xe s
def fW:TO:=fun _ H Q=>Q none H
def tPart(t:TE):TO:=fun σ H Q=>t σ H fun x H1=>∃ i,x=.int i/\Q (some i) H1
theorem vo{ns:List Int}:∀{us:List Value},Vals (ns.map V.int) us->IntsAre us ns:=by
 induction ns with
 | nil=>intro us r;rw[OL] at r;cases r;exact .nil
 | cons n ns ih=>
  intro us r;rw[L3] at r
  cases r with
  | cons r1 r2=>
   obtain⟨t,e⟩:=r1;subst e;exact .cons n t (ih r2)
section
variable{X:Cx}{e:Expr}{te:TE}{lo hi:Option Expr}{tl th:TO}{pos p2:Pos}
theorem kx:PO X none fW:=by
 intro Lc s σ H Q I h;rw[evalPart_none];exact Mq ⟨none,H,I,.none,h⟩
theorem fj(h:PE X e te):PO X (some e) (tPart te):=by
 intro Lc s σ H Q I hw;rw[evalPart_some];refine thn (h Lc s σ H _ I hw) fun u s1 ⟨x,H1,I1,r1,q1⟩=>?_;obtain⟨i,rfl,q⟩:=q1;obtain⟨t,rfl⟩:=r1;exact⟨some i,H1,I1,.int i t,q⟩
def SlR(X:Cx)(r:V->Option Int->Option Int->Hp->VK->Prop):Prop:=
 ∀(Lc:List (Addr × Obj)) (s:Shared) (σ:St) (H:Hp) (x:V) (v vl vu:Value) (lo hi:Option Int) (sl:Addr) (Q:VK),Inv X Lc σ H s->RelV x v->s.heap.IsSliceOf sl vl vu .none->IsPart vl lo->IsPart vu hi->r x lo hi H Q->
  ∃ T id,typeLookup (.type T) "__getitem__"=pure (some (.builtin id))/\s.TypeIs v T/\wpAny (model X.prog X.w) X.A (getItem v (.ref sl)) (EP X Lc σ Q) X.xe s
def tSl(r:V->Option Int->Option Int->Hp->VK->Prop)(te:TE)(tl th:TO):TE:=fun σ H Q=>te σ H fun x H1=>tl σ H1 fun l H2=>th σ H2 fun u H3=>r x l u H3 Q
theorem fE{r:V->Option Int->Option Int->Hp->VK->Prop}(hr:SlR X r)(he:PE X e te)(hl:PO X lo tl)(hu:PO X hi th):PE X (.Subscript e (.Slice lo hi none p2) pos) (tSl r te tl th):=by
 intro Lc s σ H Q I h;refine Subscript_ (thn (he Lc s σ H _ I h) fun v s1 ⟨x,H1,I1,r1,q1⟩=>?_);refine wpAny_Slice (thn (hl Lc s1 σ H1 _ I1 q1) fun vl s2 ⟨l,H2,I2,pl,q2⟩=>thn (hu Lc s2 σ H2 _ I2 q2) fun vu s3 ⟨u,H3,I3,pu,q3⟩=>?_);rw[evalPart_none];refine Mq ?_;have I4:Inv X Lc σ H3 {s3 with heap:=s3.heap.push {cls:=.type "slice",data:=.fields #[vl,vu,.none]}}:=I3.kept (t':=s3.toks) fun b ob q=>LG _ q;obtain⟨T,id,hT,ht,hg⟩:=hr Lc {s3 with heap:=s3.heap.push {cls:=.type "slice",data:=.fields #[vl,vu,.none]}} σ H3 x v vl vu l u s3.heap.objs.size Q I4 r1 (Heap.IsSliceOf.new ..) pl pu q3;show wpAny (model X.prog X.w) X.A (subscriptTail e (.Slice lo hi none p2) v (.ref s3.heap.objs.size)) (EP X Lc σ Q) X.xe {s3 with heap:=s3.heap.push {cls:=.type "slice",data:=.fields #[vl,vu,.none]}};exact tail_any (ops:=[.ref s3.heap.objs.size,v]) ht hT hg (by with_unfolding_all rfl)
def cutV(xs:List V)(lo hi:Option Int):List V:=(xs.drop (HT.sIx xs.length 0 lo)).take (HT.sIx xs.length xs.length hi-HT.sIx xs.length 0 lo)
theorem A8(xs:List V)(lo hi:Option Int):(cutV xs lo hi).length<=xs.length:=by
 unfold cutV;rw[Mm,MS];omega
end
def ixN(n:Nat)(i:Int):Option Nat:=if 0<=i then(if i<n then some i.toNat else none) else if -(n:Int)<=i then some (i+n).toNat else none
def atI{α:Type}(xs:List α)(i:Int):Option α:=(ixN xs.length i).bind fun j=>xs[j]?
theorem FO{n:Nat}{i:Int}{j:Nat}(h:ixN n i=some j):seqIndex? i n=some j/\j<n/\ -(n:Int)<=i/\i<n:=by
 unfold ixN at h;by_cases h0:0<=i
 . rw[LX h0] at h;by_cases h1:i<n
   . rw[LX h1] at h;have e:i.toNat=j:=MQ h;exact⟨by rw[seqIndex_of h0 h1,e],by omega,by omega,h1⟩
   . rw[LU h1] at h;cases h
 . rw[LU h0] at h;by_cases h1: -(n:Int)<=i
   . rw[LX h1] at h;have e:(i+n).toNat=j:=MQ h;exact⟨by rw[seqIndex_neg (by omega) h1,e],by omega,h1,by omega⟩
   . rw[LU h1] at h;cases h
theorem xc{α:Type}{xs:List α}{i:Int}{v:α}(h:atI xs i=some v):∃ j,seqIndex? i xs.length=some j/\xs[j]? =some v/\j<xs.length/\ -(xs.length:Int)<=i/\i<xs.length:=by
 unfold atI at h
 cases e:ixN xs.length i with
 | none=>rw[e] at h;cases h
 | some j=>
  rw[e] at h;obtain⟨h1,h2,h3,h4⟩:=FO e;exact⟨j,h1,h,h2,h3,h4⟩
theorem cR{α:Type}{xs:List α}{j:Nat}{v:α}(h:xs[j]? =some v):atI xs (j:Int)=some v:=by
 have hj:j<xs.length:=(Lx.mp h).1
 have e:ixN xs.length (j:Int)=some j:=by
  unfold ixN;rw[LX (by omega),LX (by omega)];simp
 unfold atI;rw[e];exact h
def xf(b:Expr):Prop:=∀ o i,subscripted b false o i=operate [o,i] (getItem o i)
def IxR(X:Cx)(r:R2):Prop:=
 ∀(value slice:Expr) (Lc:List (Addr × Obj)) (s:Shared) (σ:St) (H:Hp) (x y:V) (v u:Value) (Q:VK),Inv X Lc σ H s->RelV x v->RelV y u->r x y H Q->
  subscripted slice false v u=operate [v,u] (getItem v u)->wpAny (model X.prog X.w) X.A (subscriptTail value slice v u) (EP X Lc σ Q) X.xe s
def MtR(X:Cx)(id:String)(r:V->List V->Hp->VK->Prop):Prop:=
 ∀(Lc:List (Addr × Obj)) (s:Shared) (σ:St) (H:Hp) (x:V) (xs:List V) (v:Value) (us:List Value) (Q:VK),Inv X Lc σ H s->RelV x v->Vals xs us->r x xs H Q->
  wpAny (model X.prog X.w) X.A (call (.builtin id) (v::us)) (EP X Lc σ Q) X.xe s
section
variable{X:Cx}{a b:Expr}{ta tb:TE}{pos:Pos}
theorem vp{r:R2}(hr:IxR X r)(ha:PE X a ta)(hb:PE X b tb)(hs:xf b):PE X (.Subscript a b pos) (tOp r ta tb):=by
 intro Lc s σ H Q I h;exact Subscript_ (binT ha hb I h fun v u s2 x y H2 I2 rx ry q=>hr a b Lc s2 σ H2 x y v u Q I2 rx ry q (hs _ _))
def rIxL(K:Frag):R2:=fun x y H Q=>∃ p xs i v,x=.ref p/\y=.int i/\SqL K H p xs/\atI xs i=some v/\Q v H
def rIxT(K:Frag):R2:=fun x y H Q=>∃ p xs i v,x=.ref p/\y=.int i/\SqT K H p xs/\atI xs i=some v/\Q v H
def rIxS:R2:=fun x y H Q=>∃ z i c,x=.str z/\y=.int i/\z.length<=sizeLine/\atI z.cps.toList i=some c/\Q (.str ⟨#[c]⟩) H
theorem BG:IxR X (rIxL X.K):=by
 intro value slice Lc s σ H x y v u Q I rx ry h hs;obtain⟨p,xs,i,z,rfl,rfl,hq,he,q⟩:=h;cases rx;obtain⟨t,rfl⟩:=ry;obtain⟨Lg,r,pl,hz⟩:=I.list hq;obtain⟨j,h1,h2,h3,h4,h5⟩:=xc he;obtain⟨w,ew,rw'⟩:=r.get h2;have hl:=r.length;have hn:=qY;have fin:EP X Lc σ Q w s:=⟨z,H,I,rw',q⟩;by_cases h0:0<=i
 . have hj:i.toNat=j:=by
    rw[seqIndex_of h0 h5] at h1;exact MQ h1
   exact item_listR pl.isList h0 (by omega) (by rw[hj];simpa using ew) fin hs
 . have hj:(i+(Lg.toArray.size:Int)).toNat=j:=by
    rw[seqIndex_neg (by omega) h4] at h1;rw[LJ,← hl];exact MQ h1
   exact Oo (x:=w) pl.isList.typeIs slot_list_getitem.lookup
    (wpAny_getItem_list_neg (Q:=fun r s'=>r=w/\EP X Lc σ Q r s') pl.isList (by omega) (by rw[LJ] <;> omega) (by omega) (by rw[hj];simpa using ew) ⟨rfl,fin⟩) hs
theorem GM:IxR X (rIxT X.K):=by
 intro value slice Lc s σ H x y v u Q I rx ry h hs;obtain⟨p,xs,i,z,rfl,rfl,hq,he,q⟩:=h;cases rx;obtain⟨t,rfl⟩:=ry;obtain⟨Lg,r,pl,hz⟩:=I.tuple hq;obtain⟨j,h1,h2,h3,h4,h5⟩:=xc he;obtain⟨w,ew,rw'⟩:=r.get h2;have hl:=r.length;have hn:=qY;have fin:EP X Lc σ Q w s:=⟨z,H,I,rw',q⟩
 exact Oo (x:=w) pl.typeIs slot_tuple_getitem.lookup
  (getItem_tuple (j:=j) (Q:=fun r s'=>r=w/\EP X Lc σ Q r s') pl (by omega) (by omega) (by rw[LJ,← hl];exact h1) (by simpa using ew) ⟨rfl,fin⟩) hs
theorem GN:IxR X rIxS:=by
 intro value slice Lc s σ H x y v u Q I rx ry h hs;obtain⟨z,i,c,rfl,rfl,hz,he,q⟩:=h;obtain⟨t,rfl⟩:=rx;obtain⟨t',rfl⟩:=ry;obtain⟨j,h1,h2,h3,h4,h5⟩:=xc he;have hl:z.cps.toList.length=z.length:=by simp[Str.length]
 rw[hl] at h1 h4 h5;have hn:=qY
 exact tail_any (NE s z t) slot_str_getitem.lookup (getItem_str (c:=c) (by
  have e1:decide (i < -(2^63:Int))=false:=Ls (by omega);have e2:decide (i ≥ 2^63)=false:=Ls (by omega);rw[e1,e2,Bool.or_false]) (by rw[h1];simpa using h2) ⟨.str ⟨#[c]⟩,H,I.tok _,⟨_,rfl⟩,q⟩) hs
theorem Inv.lst{Lc:List (Addr × Obj)}{σ:St}{H:Hp}{s:Shared}{p:Addr}{xs:List V}(I:Inv X Lc σ H s)(h:H p=some (.lst xs)):
  ∃(Lg:List Value) (n:Nat),Vals xs Lg/\s.heap.get? p=some {cls:=.type "list",data:=.seq Lg.toArray n}/\xs.length<=sizeLine:=by
 obtain⟨z,Lg,n,r,e⟩:=I.hok p _ h;exact⟨Lg,n,r,e,z⟩
theorem zm(lo hi:Option Int)(n:Nat):(sliceBounds lo hi none n).1=((HT.sIx n 0 lo:Nat):Int)/\(sliceBounds lo hi none n).2.1=((HT.sIx n n hi:Nat):Int)/\(sliceBounds lo hi none n).2.2=1:=by
 refine⟨?_,?_,rfl⟩
 . cases lo with
   | none=>simp[sliceBounds,HT.sIx]
   | some i=>
    simp only[sliceBounds,HT.sIx,Option.getD_none,show(1:Int)>0 by decide,OM];by_cases h:i<0
    . simp only[h,OM] <;> omega
    . simp only[h,if_false] <;> omega
 . cases hi with
   | none=>simp[sliceBounds,HT.sIx]
   | some i=>
    simp only[sliceBounds,HT.sIx,Option.getD_none,show(1:Int)>0 by decide,OM];by_cases h:i<0
    . simp only[h,OM] <;> omega
    . simp only[h,if_false] <;> omega
theorem yF(Lg:List Value)(lo hi:Option Int):slicePick Lg.toArray lo hi none=((Lg.drop (HT.sIx Lg.length 0 lo)).take (HT.sIx Lg.length Lg.length hi-HT.sIx Lg.length 0 lo)).toArray:=by
 obtain⟨h1,h2,h3⟩:=zm lo hi Lg.toArray.size;unfold slicePick;rw[h1,h2,h3];simp only[sliceRange_one,pick_run,LJ] <;> rfl
def rSlL(K:Frag):V->Option Int->Option Int->Hp->VK->Prop:=fun x lo hi H Q=>∃ a xs,x=.ref a/\SqL K H a xs/\∀ p,H p=none->Q (.ref p) (upd H p (.lst (cutV xs lo hi)))
theorem FP:SlR X (rSlL X.K):=by
 intro Lc s σ H x v vl vu lo hi sl Q I rx hs pl pu h;obtain⟨a,xs,rfl,hx,q⟩:=h;cases rx;obtain⟨Lg,r,ht,hz⟩:=I.list hx;have Lj:=r.length;refine⟨"list",_,slot_list_getitem.lookup,ht.isList.typeIs,?_⟩;refine wpAny_getItem_list_slice ht.isList hs pl pu .none (by simp) ?_ (by rw[LJ] <;> omega);rw[yF,← Lj];refine⟨.ref s.heap.objs.size,_,I.laid (t':=s.toks) (o:=.lst (cutV xs lo hi)) (fun b ob q=>LG _ q) (LF _) ?_,rfl,q _ (I.hok.fresh (LF _))⟩;exact⟨Lz (A8 xs lo hi) hz,_,0,(r.drop (HT.sIx xs.length 0 lo)).take (HT.sIx xs.length xs.length hi-HT.sIx xs.length 0 lo),L5 _ rfl⟩
def flatV:V->Bool
 | .non=>true
 | .bl _=>true
 | .int _=>true
 | .str _=>true
 | _=>false
def eqV:V->V->Bool
 | .non,.non=>true
 | .bl a,.bl b=>a==b
 | .bl a,.int b=>(if a then 1 else 0)==b
 | .int a,.bl b=>a==(if b then 1 else 0)
 | .int a,.int b=>a==b
 | .str a,.str b=>a==b
 | _,_=>false
theorem GO{A:Around}{s:Shared}{y x:V}{u v:Value}(ry:RelV y u)(rx:RelV x v)(fy:flatV y=true)(fx:flatV x=true):SeqAt.EqAt A s u v (eqV y x):=by
 cases y with
 | non=>
  cases ry
  cases x with
  | non=>cases rx;exact SeqAt.EqAt.same _
  | bl b=>cases rx;exact SeqAt.EqAt.none_bool b
  | int b=>obtain⟨t,rfl⟩:=rx;exact SeqAt.EqAt.none_int b t
  | str b=>obtain⟨t,rfl⟩:=rx;exact SeqAt.EqAt.none_str b t
  | _=>exact absurd (show false=true from fx) Ly
 | bl a=>
  cases ry
  cases x with
  | non=>cases rx;exact SeqAt.EqAt.bool_none a
  | bl b=>cases rx;exact SeqAt.EqAt.bool_bool a b
  | int b=>obtain⟨t,rfl⟩:=rx;exact SeqAt.EqAt.bool_int a b t
  | str b=>obtain⟨t,rfl⟩:=rx;exact SeqAt.EqAt.bool_str a b t
  | _=>exact absurd (show false=true from fx) Ly
 | int a=>
  obtain⟨t',rfl⟩:=ry
  cases x with
  | non=>cases rx;exact SeqAt.EqAt.int_none a t'
  | bl b=>cases rx;exact SeqAt.EqAt.int_bool a t' b
  | int b=>obtain⟨t,rfl⟩:=rx;exact SeqAt.EqAt.int_int a t' b t
  | str b=>obtain⟨t,rfl⟩:=rx;exact SeqAt.EqAt.int_str a t' b t
  | _=>exact absurd (show false=true from fx) Ly
 | str a=>
  obtain⟨t',rfl⟩:=ry
  cases x with
  | non=>cases rx;exact SeqAt.EqAt.str_none a t'
  | bl b=>cases rx;exact SeqAt.EqAt.str_bool a t' b
  | int b=>obtain⟨t,rfl⟩:=rx;exact SeqAt.EqAt.str_int a t' b t
  | str b=>obtain⟨t,rfl⟩:=rx;exact SeqAt.EqAt.str_str a t' b t
  | _=>exact absurd (show false=true from fx) Ly
 | _=>exact absurd (show false=true from fy) Ly
def eqU(x:V)(u:Value):Bool:=match u with
 | .none=>eqV .non x
 | .bool b=>eqV (.bl b) x
 | .int i _=>eqV (.int i) x
 | .str z _=>eqV (.str z) x
 | _=>false
theorem Du{x y:V}{u:Value}(r:RelV y u)(f:flatV y=true):eqU x u=eqV y x:=by
 cases y with
 | non=>cases r;rfl
 | bl b=>cases r;rfl
 | int i=>obtain⟨t,rfl⟩:=r;rfl
 | str z=>obtain⟨t,rfl⟩:=r;rfl
 | _=>exact absurd (show false=true from f) Ly
theorem oX{x:V}:∀{xs:List V} {us:List Value},Vals xs us->xs.all flatV=true->us.any (eqU x)=xs.any fun y=>eqV y x
 | _,_,.nil,_=>rfl
 | y::xs,u::us,.cons r t,f=>by
  rw[NH,Ma] at f;rw[Nd,Nd,Du r f.1,oX t f.2]
theorem mj{A:Around}{s:Shared}{x:V}{v:Value}(rx:RelV x v)(fx:flatV x=true):∀{xs:List V} {us:List Value},Vals xs us->xs.all flatV=true->∀ u∈us,SeqAt.EqAt A s u v (eqU x u)
 | _,_,.nil,_=>fun u hu=>by cases hu
 | y::xs,u::us,.cons r t,f=>fun u' hu=>by
  rw[NH,Ma] at f;rcases LW.mp hu with rfl | hu
  . rw[Du r f.1];exact GO r rx f.1 fx
  . exact mj rx fx t f.2 u' hu
def inV(x:V)(xs:List V):Bool:=xs.any fun y=>eqV y x
def rIn(K:Frag)(neg:Bool):R2:=fun x y H Q=>∃ p xs,y=.ref p/\(SqL K H p xs\/SqT K H p xs)/\flatV x=true/\xs.all flatV=true/\Q (.bl (if neg then !inV x xs else inV x xs)) H
theorem rb:OpR X (compareOp .In) (rIn X.K false):=by
 intro Lc s σ H x y v u Q I rx ry h;obtain⟨p,xs,rfl,hq,fx,fs,q⟩:=h;cases ry;rcases hq with hq | hq
 . obtain⟨Lg,r,pl,hz⟩:=I.list hq;refine SeqAt.in_listAt (eqU x) pl.isList (fun w hw=>mj rx fx r fs w (by simpa using hw)) ⟨.bl _,H,I,rfl,?_⟩;rw[show Lg.toArray.any (eqU x)=Lg.any (eqU x) by simp,oX r fs];exact q
 . obtain⟨Lg,r,pl,hz⟩:=I.tuple hq;refine SeqAt.in_tupleAt (eqU x) pl (fun w hw=>mj rx fx r fs w (by simpa using hw)) ⟨.bl _,H,I,rfl,?_⟩;rw[show Lg.toArray.any (eqU x)=Lg.any (eqU x) by simp,oX r fs];exact q
theorem rd:OpR X (compareOp .NotIn) (rIn X.K true):=by
 intro Lc s σ H x y v u Q I rx ry h;obtain⟨p,xs,rfl,hq,fx,fs,q⟩:=h;cases ry;rcases hq with hq | hq
 . obtain⟨Lg,r,pl,hz⟩:=I.list hq;refine SeqAt.notIn_listAt (eqU x) pl.isList (fun w hw=>mj rx fx r fs w (by simpa using hw)) ⟨.bl _,H,I,rfl,?_⟩;rw[show Lg.toArray.any (eqU x)=Lg.any (eqU x) by simp,oX r fs];exact q
 . obtain⟨Lg,r,pl,hz⟩:=I.tuple hq;refine SeqAt.notIn_tupleAt (eqU x) pl (fun w hw=>mj rx fx r fs w (by simpa using hw)) ⟨.bl _,H,I,rfl,?_⟩;rw[show Lg.toArray.any (eqU x)=Lg.any (eqU x) by simp,oX r fs];exact q
theorem zn:OpR X (compareOp .NotIn) (fun x y H Q=>∃ i j,x=.str i/\y=.str j/\Q (.bl (!(!(Builtin.Str.occurrences j i 0 j.length 1).isEmpty))) H):=by
 intro Lc s σ H x y v u Q I rx ry h;obtain⟨i,j,rfl,rfl,q⟩:=h;obtain⟨t,rfl⟩:=rx;obtain⟨t',rfl⟩:=ry;exact notIn_str ⟨.bl _,H,I,rfl,q⟩
theorem gu:CallR X (.builtin "len") (fun xs H Q=>∃ p ys,xs=[.ref p]/\(SqL X.K H p ys\/SqT X.K H p ys)/\Q (.int ys.length) H):=by
 intro Lc s σ H xs us Q I r h;obtain⟨p,ys,rfl,hq,q⟩:=h;obtain⟨u,rfl,rx⟩:=dv r;cases rx;have hn:=qY;rcases hq with hq | hq
 . obtain⟨Lg,r',pl,hz⟩:=I.list hq;have Lj:=r'.length;exact Calls.call_len_list pl.isList (by simp only[LJ] <;> omega) ⟨.int ys.length,H,I.tok _,⟨s.toks+1,by rw[LJ,Lj]⟩,q⟩
 . obtain⟨Lg,r',pl,hz⟩:=I.tuple hq;have Lj:=r'.length;exact len_tuple pl (by simp only[LJ] <;> omega) ⟨.int ys.length,H,I.tok _,⟨s.toks+1,by rw[LJ,Lj]⟩,q⟩
theorem zo:CallR X (.builtin "len") (fun xs H Q=>∃ z,xs=[.str z]/\z.length<=sizeLine/\Q (.int z.length) H):=by
 intro Lc s σ H xs us Q I r h;obtain⟨z,rfl,hz,q⟩:=h;obtain⟨u,rfl,t,rfl⟩:=dv r;have hn:=qY;exact len_str (by omega) ⟨.int z.length,H,I.tok _,⟨_,rfl⟩,q⟩
theorem zp:CallR X (.type "list") (fun xs H Q=>∃ p ys,xs=[.ref p]/\(SqL X.K H p ys\/SqT X.K H p ys)/\∀ l,H l=none->Q (.ref l) (upd H l (.lst ys))):=by
 intro Lc s σ H xs us Q I r h;obtain⟨p,ys,rfl,hq,q⟩:=h;obtain⟨u,rfl,rx⟩:=dv r;cases rx
 have fin:∀(Lg:List Value),Vals ys Lg->ys.length<=sizeLine->∀(h':Heap) (c':Nat),(∀ b o',s.heap.get? b=some o'->h'.get? b=some o')->
   h'.get? s.heap.objs.size=some {cls:=.type "list",dict:=none,data:=.seq Lg.toArray c',slots:=#[]}->EP X Lc σ Q (.ref s.heap.objs.size) {s with heap:=h'}:=fun Lg r' hz h' c' kp e=>
  ⟨.ref s.heap.objs.size,_,I.laid (t':=s.toks) kp (LF _) (show ObjOk X.prog X.w _ h' _ (.lst ys) from⟨hz,Lg,c',r',e⟩),rfl,q _ (I.hok.fresh (LF _))⟩
 rcases hq with hq | hq
 . obtain⟨Lg,r',pl,hz⟩:=I.list hq;have Lj:=r'.length;obtain⟨o,ho,hc,n,hd⟩:=pl.isList;exact call_list_seq p (.inl rfl) ho hc hd (fun h' c' kp e=>fin Lg r' hz h' c' kp e) (by simp only[LJ] <;> omega)
 . obtain⟨Lg,r',pl,hz⟩:=I.tuple hq;have Lj:=r'.length;obtain⟨o,ho,hc,n,hd⟩:=pl;exact call_list_seq p (.inr rfl) ho hc hd (fun h' c' kp e=>fin Lg r' hz h' c' kp e) (by simp only[LJ] <;> omega)
theorem yG:CallR X (.type "tuple") (fun xs H Q=>∃ p ys,xs=[.ref p]/\((SqL X.K H p ys/\∀ l,H l=none->Q (.ref l) (upd H l (.tup ys)))\/(SqT X.K H p ys/\Q (.ref p) H))):=by
 intro Lc s σ H xs us Q I r h;obtain⟨p,ys,rfl,h⟩:=h;obtain⟨u,rfl,rx⟩:=dv r;cases rx;rcases h with ⟨hq,q⟩ | ⟨hq,q⟩
 . obtain⟨Lg,r',pl,hz⟩:=I.list hq;have Lj:=r'.length;refine call_tuple_list pl.isList (fun h' kp=>?_) (by simp only[LJ] <;> omega);have I1:Inv X Lc σ H {s with heap:=h'}:=I.kept (t':=s.toks) kp
   have I2:Inv X Lc σ (upd H h'.objs.size (.tup ys)) {s with heap:=h'.push {cls:=.type "tuple",data:=.seq Lg.toArray}}:=
    I1.laid (t':=s.toks) (fun b o e=>LG _ e) (LF _) (show ObjOk X.prog X.w _ _ _ (.tup ys) from⟨hz,Lg,r',IsTup.new _ _⟩)
   exact⟨.ref h'.objs.size,_,I2,rfl,q _ (I1.hok.fresh (LF _))⟩
 . obtain⟨Lg,r',pl,hz⟩:=I.tuple hq;exact call_tuple_same pl ⟨.ref p,H,I,rfl,q⟩
def tyV(K:Frag)(T:String)(x:V)(H:Hp):Prop:=match x with
 | .str _=>T="str"
 | .int _=>T="int"
 | .ref p=>(T="list"/\∃ xs,SqL K H p xs)\/(T="tuple"/\∃ o,K.lookup p=some o/\o.cls=.type "tuple"/\o.dict=none)\/
   (T="dict"/\((∃ Lf,H p=some (.dK Lf))\/∃ Lf,H p=some (.dT Lf)))\/(T="set"/\∃ S n,H p=some (.set S n))
 | _=>False
theorem Dv{Lc:List (Addr × Obj)}{σ:St}{H:Hp}{s:Shared}{T:String}{x:V}{v:Value}(I:Inv X Lc σ H s)(r:RelV x v)(ty:tyV X.K T x H):
  s.TypeIs v T/\∀ a,v=.ref a->∃ ob,s.heap.get? a=some ob/\ob.dict=none:=by
 cases x with
 | str z=>
  obtain⟨t,rfl⟩:=r;cases (show T="str" from ty);exact⟨NE s z t,fun _ e=>nomatch e⟩
 | int i=>
  obtain⟨t,rfl⟩:=r;cases (show T="int" from ty);exact⟨typeIs_int s i t,fun _ e=>nomatch e⟩
 | ref p=>
  cases r;rcases ty with ⟨rfl,xs,hq⟩ | ⟨rfl,o,hk,hc,hd⟩ | ⟨rfl,hk⟩ | ⟨rfl,S,n,hk⟩
  . obtain⟨Lg,_,pl,_⟩:=I.list hq;refine⟨pl.isList.typeIs,fun a e=>?_⟩;cases e;obtain⟨o,n,e,c,hd,_⟩:=pl;exact⟨o,e,hd⟩
  . refine⟨⟨o,I.kIn p o hk,hc⟩,fun a e=>?_⟩;cases e;exact⟨o,I.kIn _ o hk,hd⟩
  . have z:∃ o,s.heap.get? p=some o/\o.ExactDict:=by
     rcases hk with ⟨Lf,hk⟩ | ⟨Lf,hk⟩
     . obtain⟨_,_,_,_,o,_,_,e,ex,_⟩:=I.hok p _ hk;exact⟨o,e,ex⟩
     . obtain⟨_,_,_,_,o,_,_,e,ex,_⟩:=I.hok p _ hk;exact⟨o,e,ex⟩
    obtain⟨o,e,ex⟩:=z;refine⟨⟨o,e,ex.1⟩,fun a e2=>?_⟩;cases e2;exact⟨o,e,ex.2.1⟩
  . obtain⟨o,_,_,_,e,ex,_⟩:=I.hok p _ hk;refine⟨⟨o,e,ex.1⟩,fun a e2=>?_⟩;cases e2;exact⟨o,e,ex.2.1⟩
 | _=>exact False.elim ty
def zq(K:Frag)(T:String)(r:V->List V->Hp->VK->Prop)(to:TE):TE:=fun σ H Q=>to σ H fun x H1=>tyV K T x H1/\r x [] H1 Q
def tBM(K:Frag)(T:String)(r:V->List V->Hp->VK->Prop)(to:TE)(t:TA):TE:=fun σ H Q=>to σ H fun x H1=>tyV K T x H1/\t σ H1 fun xs H2=>r x xs H2 Q
variable{o e:Expr}{es:List Expr}{to:TE}{t:TA}{name:Str}{apos cpos:Pos}{T id:String}{r:V->List V->Hp->VK->Prop}
theorem zr (pa:PlainAttrs T) (slot:Slot T name id) (hty:typeOf (.builtin id)=pure (.type "method_descriptor")) (hm:MtR X id r) (ho:PE X o to)
  (hbase:attributeBase o name X.env (eval o X.env)=eval o X.env:=by rfl) (hline:(apos.endLine==cpos.line)=true:=by rfl):PE X (.Call (.Attribute o name apos) [] [] cpos) (zq X.K T r to):=by
 intro Lc s σ H Q I h;refine wpAny_Call_method0_late hbase hline (thn (ho Lc s σ H _ I h) fun v s1 ⟨x,H1,I1,r1,ty,q1⟩=>?_);obtain⟨h1,h2⟩:=Dv I1 r1 ty;exact⟨T,id,pa,slot,hty,h1,h2,Op rfl (PySem.evalArgs_none (hm Lc s1 σ H1 x [] v [] Q I1 r1 .nil q1))⟩
theorem bQ (pa:PlainAttrs T) (slot:Slot T name id) (hty:typeOf (.builtin id)=pure (.type "method_descriptor")) (hm:MtR X id r) (ho:PE X o to) (ha:PA X (e::es) t)
  (hbase:attributeBase o name X.env (eval o X.env)=eval o X.env:=by rfl)
  (hfew:((backTo cpos (starEach (e::es) X.env)).all (fun x=>!x.1)&&(backToKw cpos (keywordEach [] X.env)).all (fun x=>x.1.isSome)
   &&decide ((e::es).length+([]:List Keyword).length+(if ([]:List Keyword).isEmpty then 0 else 1)<30))=true:=by rfl)
  (hline:(apos.endLine==cpos.line)=true:=by rfl) (hs:starEach (e::es) X.env=(false,eval e X.env)::starEach es X.env:=by rfl) (hplain:(backTo cpos (starEach es X.env)).any (·.1)=false:=by rfl):
  PE X (.Call (.Attribute o name apos) (e::es) [] cpos) (tBM X.K T r to t):=by
 intro Lc s σ H Q I h;refine wpAny_Call_method_late hbase hfew hline rfl (thn (ho Lc s σ H _ I h) fun v s1 ⟨x,H1,I1,r1,ty,q1⟩=>?_);obtain⟨h1,h2⟩:=Dv I1 r1 ty;refine⟨T,id,pa,slot,hty,h1,h2,?_⟩;have hA:=ha cpos Lc s1 σ H1 _ I1 q1;rw[hs] at hA ⊢;refine Op (by show(false||(backTo cpos (starEach es X.env)).any (·.1))=false;rw[hplain] <;> rfl) (Calls.evalArgs_plain ?_);exact thn hA fun us s2 ⟨vs,H2,I2,r2,q2⟩=>hm Lc s2 σ H2 x vs v us Q I2 r1 r2 q2
end
def MtM(X:Cx)(id:String)(r:V->List V->Hp->VK->Prop):Prop:=
 ∀(Lc:List (Addr × Obj)) (s:Shared) (σ:St) (H:Hp) (x:V) (xs:List V) (v:Value) (us:List Value) (Q:VK),Inv X Lc σ H s->RelV x v->Vals xs us->r x xs H Q->
  wpAny (model X.prog X.w) X.A (call (.builtin id) (v::us)) (EP X Lc σ Q) X.xe s
theorem Vals.one:∀{x:V} {us:List Value},Vals [x] us->∃ u,us=[u]/\RelV x u
 | _,_,.cons r .nil=>⟨_,rfl,r⟩
theorem Vals.zero:∀{us:List Value},Vals [] us->us=[]
 | _,.nil=>rfl
theorem Vals.eraseIdx:∀{xs:List V} {us:List Value} (i:Nat),Vals xs us->Vals (xs.eraseIdx i) (us.eraseIdx i)
 | _,_,_,.nil=>.nil
 | _,_,0,.cons _ t=>t
 | _,_,i+1,.cons r t=>.cons r (Vals.eraseIdx i t)
theorem Vals.rep{xs:List V}{us:List Value}(h:Vals xs us):∀ k:Nat,Vals (List.replicate k xs).flatten (List.replicate k us).flatten
 | 0=>.nil
 | k+1=>by
  rw[MR,MR,Ng,Ng];exact Vals.append h (Vals.rep h k)
theorem x9{α:Type}:∀(l:List α) (i:Nat),(l.eraseIdx i).length<=l.length
 | [],_=>LF _
 | _::_,0=>NJ _
 | _::r,i+1=>Nat.succ_le_succ (x9 r i)
theorem ya(Lg:List Value):∀(k:Nat) (acc:List Value),
  List.foldl (fun x1 x2=>x1++x2) acc.toArray (List.replicate k Lg.toArray)=(acc++(List.replicate k Lg).flatten).toArray
 | 0,acc=>by simp
 | k+1,acc=>by
  have e:acc.toArray++Lg.toArray=(acc++Lg).toArray:=by simp
  have e2:(acc++Lg)++(List.replicate k Lg).flatten=acc++(List.replicate (k+1) Lg).flatten:=by
   rw[MR,Ng,N7]
  rw[← e2,← ya Lg k (acc++Lg),← e,MR,Nc]
section
variable{X:Cx}{Lc:List (Addr × Obj)}{σ:St}{H:Hp}{s:Shared}{l b:Addr}{xs ys zs:List V}
theorem Inv.lset {Lg its':List Value} {n:Nat} {f:Array Value->Array Value} {t':Nat} (I:Inv X Lc σ H s) (hH:H l=some (.lst xs))
  (e:s.heap.get? l=some {cls:=.type "list",data:=.seq Lg.toArray n}) (hf:f Lg.toArray=its'.toArray) (hv:Vals ys its') (hz:ys.length<=sizeLine):
  Inv X Lc σ (upd H l (.lst ys)) {s with heap:=s.heap.update l (Obj.mapSeq f),toks:=t'}:=by
 have q:=PySem.IsL.update e f;rw[hf] at q;refine I.write (x:=l) (e:=l) (by rw[hH];exact trivial) (.inl rfl) (fun b' u hb hu=>(Heap.get?_update_other s.heap (Obj.mapSeq f) (Oj hb)).trans hu) ⟨_,q⟩ ?_;exact⟨hz,its',_,hv,q⟩
theorem Inv.lnew{Lg:List Value}{t':Nat}(I:Inv X Lc σ H s)(hv:Vals ys Lg)(hz:ys.length<=sizeLine):
  Inv X Lc σ (upd H s.heap.objs.size (.lst ys)) {s with heap:=s.heap.push {cls:=.type "list",data:=.seq Lg.toArray},toks:=t'}:=
 I.laid (fun _ _ q=>LG _ q) (LF _) ⟨hz,Lg,0,hv,L5 _ rfl⟩
theorem Inv.fresh(I:Inv X Lc σ H s):H s.heap.objs.size=none:=I.hok.fresh (LF _)
theorem Inv.lstM(I:Inv X Lc σ H s)(hH:H l=some (.lst xs)):xs.length<=sizeLine/\∃(Lg:List Value) (n:Nat),Vals xs Lg/\xs.length=Lg.length/\s.heap.get? l=some {cls:=.type "list",data:=.seq Lg.toArray n}:=by
 obtain⟨z,Lg,n,r,e⟩:=I.hok l _ hH;exact⟨z,Lg,n,r,r.length,e⟩
theorem zt{n:Nat}(h:n<=sizeLine):Builtin.List.listTooLong n=false:=by
 unfold Builtin.List.listTooLong;exact Ls (by omega)
end
section
variable{X:Cx}
def FQ:V->List V->Hp->VK->Prop:=fun x vs H Q=>∃ l xs y,x=.ref l/\vs=[y]/\H l=some (.lst xs)/\xs.length<sizeLine/\Q .non (upd H l (.lst (xs++[y])))
theorem yc:MtM X "list.append" FQ:=by
 intro Lc s σ H x vs v us Q I rx rv h;obtain⟨l,xs,y,rfl,rfl,hH,hz,q⟩:=h;cases rx;obtain⟨u,rfl,ru⟩:=rv.one;obtain⟨z,Lg,n,r,hl,e⟩:=I.lstM hH;refine M1 F.slot_list_append ⟨_,e,rfl⟩ F.entry_list_append (F.args_list_append_2 _ _) (PySem.list_append l Lg.toArray n u (by rw[LJ];omega)) ⟨e,?_⟩;refine⟨.non,_,I.lset (its':=Lg++[u]) hH e (by simp) (r.append (.cons ru .nil)) ?_,rfl,q⟩;rw[LC,Oz];omega
def FR:V->List V->Hp->VK->Prop:=fun x vs H Q=>∃ l b xs zs,x=.ref l/\vs=[.ref b]/\H l=some (.lst xs)/\H b=some (.lst zs)/\xs.length+zs.length<=sizeLine/\Q .non (upd H l (.lst (xs++zs)))
theorem Dw:MtM X "list.extend" FR:=by
 intro Lc s σ H x vs v us Q I rx rv h;obtain⟨l,b,xs,zs,rfl,rfl,hH,hB,hz,q⟩:=h;cases rx;obtain⟨u,rfl,ru⟩:=rv.one;cases ru;obtain⟨z,Lg,n,r,hl,e⟩:=I.lstM hH;obtain⟨z2,its2,n2,r2,hl2,e2⟩:=I.lstM hB;have hsz:Lg.toArray.size+its2.toArray.size<=sizeLine:=by rw[LJ,LJ];omega
 have hlong:¬ (!Lg.toArray.isEmpty&&Builtin.List.listTooLong (Lg.toArray.size+its2.toArray.size))=true:=by
  rw[zt hsz,Bool.and_false];exact Ly
 refine M1 F.slot_list_extend ⟨_,e,rfl⟩ F.entry_list_extend (F.args_list_extend_2 _ _)
  (AutoSeq1.list_extend_list_list_0 l Lg.toArray n b its2.toArray n2 hlong (by rw[LJ];omega) (by omega)) ⟨e,e2,?_⟩
 refine⟨.non,_,I.lset (its':=Lg++its2) hH e (by simp) (r.append r2) ?_,rfl,q⟩;rw[LC];omega
def GP:V->List V->Hp->VK->Prop:=fun x vs H Q=>∃ l xs i k y,x=.ref l/\vs=[.int i]/\H l=some (.lst xs)/\ -(2^63)<=i/\i<2^63/\seqIndex? i xs.length=some k/\xs[k]? =some y/\Q y (upd H l (.lst (xs.eraseIdx k)))
theorem E3:MtM X "list.pop" GP:=by
 intro Lc s σ H x vs v us Q I rx rv h;obtain⟨l,xs,i,k,y,rfl,rfl,hH,h1,h2,hk,hy,q⟩:=h;cases rx;obtain⟨u,rfl,ru⟩:=rv.one;obtain⟨t,rfl⟩:=ru;obtain⟨z,Lg,n,r,hl,e⟩:=I.lstM hH;obtain⟨w,hw,rw'⟩:=r.get hy
 refine M1 F.slot_list_pop ⟨_,e,rfl⟩ F.entry_list_pop (F.args_list_pop_2 _ _)
  (MeetsSeq.list_pop_at l Lg.toArray n i t k w (fitsIndex_both h1 h2) (by rw[LJ,← hl];exact hk) (by rw[← OA];exact hw) (by rw[LJ];omega)) ⟨e,?_⟩
 refine⟨y,_,I.lset (its':=Lg.eraseIdx k) hH e ?_ (r.eraseIdx k) ?_,rw',q⟩
 . show Lg.toArray.eraseIdxIfInBounds k=(Lg.eraseIdx k).toArray;rw[List.eraseIdxIfInBounds_toArray]
 . have:=x9 xs k;omega
def GQ:V->List V->Hp->VK->Prop:=fun x vs H Q=>∃ l xs,x=.ref l/\vs=[]/\H l=some (.lst xs)/\Q .non (upd H l (.lst []))
theorem E4:MtM X "list.clear" GQ:=by
 intro Lc s σ H x vs v us Q I rx rv h;obtain⟨l,xs,rfl,rfl,hH,q⟩:=h;cases rx;have hus:=rv.zero;subst hus;obtain⟨z,Lg,n,r,hl,e⟩:=I.lstM hH;refine M1 F.slot_list_clear ⟨_,e,rfl⟩ F.entry_list_clear (F.args_list_clear_1 _) (AutoSeq1.list_clear_list_0 l Lg.toArray n (by rw[LJ];omega)) ⟨e,?_⟩;exact⟨.non,_,I.lset (its':=[]) (ys:=[]) hH e rfl .nil (Ml _),rfl,q⟩
def rCat:R2:=fun x y H Q=>∃ l b xs zs,x=.ref l/\y=.ref b/\H l=some (.lst xs)/\H b=some (.lst zs)/\xs.length+zs.length<=sizeLine/\∀ p,H p=none->Q (.ref p) (upd H p (.lst (xs++zs)))
theorem GR:OpR X (binaryOp .Add) rCat:=by
 intro Lc s σ H x y v u Q I rx ry h;obtain⟨l,b,xs,zs,rfl,rfl,hH,hB,hz,q⟩:=h;cases rx;cases ry;obtain⟨z,Lg,n,r,hl,e⟩:=I.lstM hH;obtain⟨z2,its2,n2,r2,hl2,e2⟩:=I.lstM hB;refine PySem.P.add_list e e2 ?_ (by rw[LJ,LJ];omega);have ea:Lg.toArray++its2.toArray=(Lg++its2).toArray:=by simp
 rw[ea];exact⟨.ref _,_,I.lnew (t':=s.toks) (r.append r2) (by rw[LC];omega),rfl,q _ I.fresh⟩
def rRep:R2:=fun x y H Q=>∃ l k xs,x=.ref l/\y=.int k/\H l=some (.lst xs)/\ -(2^63)<=k/\k<2^63/\xs.length*k.toNat<=sizeLine/\
 ∀ p,H p=none->Q (.ref p) (upd H p (.lst (List.replicate k.toNat xs).flatten))
theorem FS{α:Type}(xs:List α)(k:Nat):(List.replicate k xs).flatten.length=k*xs.length:=by
 induction k with
 | zero=>simp
 | succ k ih=>rw[MR,Ng,LC,ih,ON,Nat.add_comm]
theorem GS:OpR X (binaryOp .Mult) rRep:=by
 intro Lc s σ H x y v u Q I rx ry h;obtain⟨l,k,xs,rfl,rfl,hH,h1,h2,hz,q⟩:=h;cases rx;obtain⟨t,rfl⟩:=ry;obtain⟨z,Lg,n,r,hl,e⟩:=I.lstM hH;have Lj:Lg.toArray.size*k.toNat<=sizeLine:=by rw[LJ,← hl];exact hz
 have hcap:¬ Lg.toArray.size*k.toNat > (2^63-1)/8:=by
  have:(sizeLine:Nat)<=(2^63-1)/8:=by decide
  omega
 have hfit:¬ (!Builtin.List.listFitsIndex k)=true:=by
  rw[fitsIndex_both h1 h2];exact Ly
 have hlong:¬ Builtin.List.listTooLong (Lg.toArray.size*k.toNat)=true:=by
  rw[zt Lj];exact Ly
 have hnew:List.foldl (fun x1 x2=>x1++x2) #[] (List.replicate (if Lg.toArray.isEmpty=true then 0 else k.toNat) Lg.toArray)=(List.replicate k.toNat Lg).flatten.toArray:=by
  have f0:∀ m:Nat,List.foldl (fun x1 x2=>x1++x2) #[] (List.replicate m Lg.toArray)=(List.replicate m Lg).flatten.toArray:=fun m=>by
   have:=ya Lg m [];rw[List.nil_append] at this;exact this
  rw[f0]
  cases Lg with
  | nil=>simp
  | cons a r'=>rw[LU (by simp)]
 refine wpAny_binaryOp_repeat_ref (T:="list") (U:="int") (by decide) ⟨_,e,rfl⟩ (fun s'=>typeIs_int s' k t) noFill_list_mul F.fills_int_mul F.slot_int_rmul repeat_list F.slot_int_index.lookup
  (M1 F.slot_int_rmul (typeIs_int s k t) F.entry_int_rmul (F.args_int_rmul_2 _ _) (int___rmul___int_list k t l Lg.toArray n)
   ⟨e,rfl,⟨_,e,rfl⟩,M1 F.slot_list_mul ⟨_,e,rfl⟩ F.entry_list_mul (F.args_list_mul_2 _ _) (AutoListH.list___mul___list_int_3 l Lg.toArray n k t hfit hcap hlong) ⟨e,?_⟩⟩)
 rw[hnew];exact⟨.ref _,_,I.lnew (t':=s.toks) (r.rep k.toNat) (by rw[FS,Nat.mul_comm];exact hz),rfl,q _ I.fresh⟩
end
end L2
namespace Att
open PySem PySem.W PySem.Calls PyProof.Rows
theorem ints_of_wellAll{P:Params}{h:Heap}:∀(ns:List Int) (vs:List Value),WellAll P h vs (ns.map WData.int)->IntsAre vs ns:=by
 intro ns
 induction ns with
 | nil=>
  intro vs w;rw[List.map_nil] at w;cases w;exact .nil
 | cons n ns ih=>
  intro vs w;rw[List.map_cons] at w
  cases w with
  | cons a b=>
   cases a;exact .cons _ _ (ih _ b)
theorem script_of {l:OpenLaw} {n:Nat} (hn:l.most=some n) {P:Params} {h:Heap} {args:List WData} {vals:List Value}
  (hpre:l.row.toRowW.claim.pre args=true) (hwl:WellAll P h vals args):
  ∃ a vs ns,vals=[Value.ref a]/\args=[WData.list (ns.map WData.int)]/\h.get? a=some {cls:=.type "list",data:=.seq vs.toArray}/\IntsAre vs ns/\ns.length<=n:=by
 have hsh:WShape.hasAll [] args [.list .int]=true:=(pre_splitW hpre).1;have hc:l.pre.holds [] {args:=args}=true:=(pre_splitW hpre).2;obtain⟨d,r,rfl,h1,h2⟩:=hasAllW_cons hsh;obtain rfl:=hasAllW_nil h2;obtain⟨xs,rfl,h3⟩:=hasW_list h1;obtain⟨ns,rfl⟩:=items_int h3
 have Lj:ns.length<=n:=by
  unfold OpenLaw.pre at hc
  have h4:(WTm.not (.lt (.lit (.int (n:Int))) (.len (.arg 0)))).holds [] {args:=[.list (ns.map .int)]}=true:=by
   have h4:=(holds_andW hc).1;rw[hn] at h4;exact h4
  have h5:=condW_of h4 (w_not (w_lt w_lit (w_len_list (w_arg rfl))));rw[List.length_map] at h5;refine Nat.le_of_not_lt fun q=>?_;have q':(n:Int) < ((ns.length:Nat):Int):=by omega
  first
   | (rw[decide_eq_true q'] at h5;exact absurd h5 (by decide))
   | (simp at h5;omega)
 cases hwl with
 | cons w1 w2=>
  cases w2
  cases w1 with
  | list ho hall=>exact⟨_,_,ns,rfl,rfl,ho,ints_of_wellAll ns _ hall,Lj⟩
theorem post_true(l:OpenLaw)(args:List WData):l.row.toRowW.claim.post args (.bool true) args=true:=
 postW_of (r:=l.row.toRowW) (X:=(true==true))
  (show WShape.has [] (.bool true) .bool=true by first | rfl | decide | simp[WShape.has,WShape.arms,WShape.armsAll])
  (show(WTm.eq .res (.lit (.bool true))).value [] {args:=args,res:=some (.bool true),after:=args}=some (.bool (true==true)) from w_eq_bool (w_res rfl) w_lit) rfl
theorem attach_call {l:OpenLaw} {n:Nat} {q:Program} {loose:List Str} {XP:(Str->Option Value)->Heap->Prop} {YP:World->Heap->Prop} {d:DefRec}
  (hn:l.most=some n) (hdf:d.params.defaults=[])
  (call:∀(w:World) (s₀ s₁:Shared) (mg mb:Str->Option Value) (fa:Addr) (o:Obj) (pm cd doc:Value) (a:Addr) (vs:List Value) (ns:List Int),
   Ground q loose [] XP w s₀ mg mb s₁.heap->YP w s₁.heap->
   s₁.heap.get? fa=some o->o.data=.func (docDef d.name d.params d.body d.scope pm cd doc)->s₁.heap.CodeRec cd d.name->mg d.name=some (.ref fa)->
   s₁.heap.get? a=some {cls:=.type "list",data:=.seq vs.toArray}->IntsAre vs ns->ns.length<=n->s₁.gens=#[]->
   codeAny (model l.prog w) callerA (.call (.ref fa) ⟨[.ref a],[]⟩) (fun r s'=>r=.ok (.ret (.bool true))/\OldK s₁.heap s'.heap/\s'.os=s₁.os/\AllBare s'.gens) s₁):
  WalkO q loose XP YP l.row.toRowW d [] (fun f vs=>PySem.call f vs):=by
 intro w s₀ s₁ mg mb G Y fa o pm cd doc dV kV ho hd hcd hD hmg hg args vals as hpre hlay hrd hwl hlo;obtain rfl:dV=.none:=Dflts.none hD hdf;obtain rfl:kV=.none:=Dflts.noKw hD;obtain⟨a,vs,ns,rfl,rfl,hobj,hints,Lj⟩:=script_of hn hpre hwl;refine enter_call (codeAny_mono (call w s₀ s₁ mg mb fa o pm cd doc a vs ns G Y ho (fd_plain hd) hcd hmg hobj hints Lj hg) fun r s' hq=>?_);obtain⟨rfl,h2,h3,h4⟩:=hq;exact⟨.inl ⟨.bool true,.bool true,[],rfl,fun _=>rfl,.bool true,post_true l _,fun _=>⟨List.Pairwise.nil,fun _ hm=>(nomatch hm)⟩⟩,h2,h3,h4⟩
section
variable{prog:Program}{w:World}{A:Around}{E:Value->Shared->Prop}{s:Shared}{K:Frag}
end
end Att
namespace L2
open PySem PySem.Spec PyProof.Rows
theorem re:∀{vs:List Value} {ns:List Int},IntsAre vs ns->Vals (ns.map V.int) vs
 | _,_,.nil=>.nil
 | _,_,.cons n t h=>.cons ⟨t,rfl⟩ (re h)
def Only(H:Hp):Prop:=∀ b,H b=none\/∃ o xs,H b=some (.frz o (.lst xs))
theorem E5 {P:Program} {w:World} {K:Frag} {mg mb:Str->Option Value} {CX:CXT} {k:Nat} {fa a:Addr} {fd:FuncData} {x:Str} {sp:Sp} {s₁:Shared} {vs:List Value} {ns:List Int}
  (KX:K.In s₁.heap) (hns:s₁.heap.Ns mainGlobals mg) (hb:s₁.heap.Ns builtinsNs mb) (hbb:∀ x:Str,x≠"__name__"->mb x=bootBuiltins x) (hlim:s₁.heap.NoLimit) (hg:s₁.gens=#[])
  (ha:s₁.heap.get? a=some {cls:=.type "list",data:=.seq vs.toArray}) (hi:IntsAre vs ns) (hl:ns.length<=sizeLine) (hr:Room k callerA)
  (F:∀ base:Heap,K.In base->base.Ns mainGlobals mg->FnOk P w K mg base CX k fa fd [x] sp) (hbind:∀(s:Shared) (u:Value),BindsTo s fd ⟨[u],[]⟩ [(x,u)])
  (hsp:∀ H:Hp,Only H->SqL K H a (ns.map V.int)->sp [.ref a] H (fun v _=>v=.bl true) fun _ _ _=>False)
  (hCX:∀ H e s',CX [] H s₁ (fun _ _ _=>False) e s'->False):
  codeAny (model P w) callerA (.call (.ref fa) ⟨[.ref a],[]⟩) (fun r s'=>r=.ok (.ret (.bool true))/\OldK s₁.heap s'.heap/\s'.os=s₁.os/\AllBare s'.gens) s₁:=by
 have rv:=re hi;have lenV:=hi.length
 have core:∀ H:Hp,Only H->SqL K H a (ns.map V.int)->HOk P w H s₁.heap->(∀ b,H b≠none->b=a)->(H a≠none->K.lookup a=none)->
   codeAny (model P w) callerA (.call (.ref fa) ⟨[.ref a],[]⟩) (fun r s'=>r=.ok (.ret (.bool true))/\OldK s₁.heap s'.heap/\s'.os=s₁.os/\AllBare s'.gens) s₁:=by
  intro H hO hS hok hA hK;have base_of:∀{b:Addr} {o:Obj},s₁.heap.get? b=some o->H b=none->(hidT s₁.heap H).get? b=some o:=fun e n=>EX e n
  have noA:∀{b:Addr} {o:Obj} {es:Array DictEntry} {ep:Nat},s₁.heap.get? b=some o->o.data=.dict es ep->H b=none:=fun{b o es ep} e d=>by
   cases q:H b with
   | none=>rfl
   | some u=>
    have e':b=a:=hA b (by rw[q];simp);subst e';rw[ha] at e;cases e;have d':Data.seq vs.toArray _=Data.dict es ep:=d;cases d'
  have nsK:∀{b:Addr} {m:Str->Option Value},s₁.heap.Ns b m->(hidT s₁.heap H).Ns b m:=fun{b m} ⟨o,es,ep,e,d,r⟩=>⟨o,es,ep,base_of e (noA e d),d,r⟩
  have hKb:K.In (hidT s₁.heap H):=fun b o e=>base_of (KX b o e) (by
   cases q:H b with
   | none=>rfl
   | some u=>
    have e':b=a:=hA b (by rw[q];simp);subst e';rw[hK (by rw[q];simp)] at e;cases e)
  have hM:Mod K mg (hidT s₁.heap H):=⟨hKb,nsK hns,⟨mb,nsK hb,hbb⟩,let ⟨mc,h1,h2⟩:=hlim;⟨mc,nsK h1,h2⟩⟩;have e0:Env0 P w K mg (hidT s₁.heap H) callerA [] s₁ H:=⟨rfl,hM,fun b o e=>FH e,Nat.le_of_eq (Dg _ _),trivial,fun b hb=>absurd (show b∈([]:List Addr) from hb) (by simp),hok,.of_eq hg⟩;refine OK ((F _ hKb (nsK hns)).run callerA [] s₁ H ⟨[.ref a],[]⟩ [.ref a] [.ref a] _ _ hr e0 (hbind s₁ (.ref a)) (.cons rfl .nil) (hsp H hO hS)) fun r s' h=>?_
  cases r with
  | error e=>exact(hCX H e s' h).elim
  | ok fl=>
   cases fl with
   | next=>exact False.elim h
   | brk=>exact False.elim h
   | cont=>exact False.elim h
   | ret u=>
    obtain⟨v,H',os,bare,un,hok',r',q⟩:=h;have q':v=.bl true:=q;subst q';obtain rfl:u=Value.bool true:=r';refine⟨rfl,OldK.of_keep fun b o e=>?_,os,bare⟩
    cases q:H b with
    | none=>exact un.keep b o e q (by intro z;exact absurd (show b∈([]:List Addr) from z) (by simp)) (by simp)
    | some u=>
     rcases hO b with z | ⟨ob,xs,z⟩
     . rw[q] at z;cases z
     . have z2:=un.frzs b ob _ z;obtain⟨e1,_⟩:=hok b _ z;obtain⟨e2,_⟩:=hok' b _ z2;rw[e] at e1;cases e1;exact e2
 cases hk:K.lookup a with
 | some o=>
  have e:=KX a o hk;rw[ha] at e;cases e;refine core (fun _=>none) (fun _=>.inl rfl) (.inr ⟨_,vs.toArray,_,hk,rfl,rfl,rfl,by rw[LJ,lenV];exact hl,by simpa using rv⟩) (fun b u z=>by have z':(none:Option HO)=some u:=z;cases z') (fun b z=>absurd rfl z) fun z=>absurd rfl z
 | none=>
  refine core (fun b=>if b=a then some (.frz {cls:=.type "list",data:=.seq vs.toArray} (.lst (ns.map V.int))) else none) (fun b=>?_) (.inl (.inr ⟨{cls:=.type "list",data:=.seq vs.toArray},LX rfl⟩)) (fun b u z=>?_) (fun b z=>?_) fun _=>hk
  . by_cases hb:b=a
    . exact .inr ⟨_,_,LX hb⟩
    . exact .inl (LU hb)
  . by_cases hb:b=a
    . have z':=(LX hb).symm.trans z;cases z';subst hb;exact⟨ha,by rw[Lp];exact hl,vs,_,rv,ha⟩
    . have z':=(LU hb).symm.trans z;cases z'
  . by_cases hb:b=a
    . exact hb
    . exact absurd (LU hb) z
theorem FT {l:PySem.W.OpenLaw} {n k:Nat} {q:Program} {loose:List Str} {XP:(Str->Option Value)->Heap->Prop} {YP:World->Heap->Prop} {d:DefRec} {K:Params->Frag} {CX:World->CXT} {sp:World->Sp} {x:Str}
  (hn:l.most=some n) (hn2:n<=sizeLine) (hdf:d.params.defaults=[]) (hr:Room k callerA)
  (hY:∀(w:World) (h:Heap),YP w h->(K w.params).In h)
  (F:∀(w:World) (mg:Str->Option Value) (fa:Addr) (h:Heap),(K w.params).In h->h.Ns mainGlobals mg->mg d.name=some (.ref fa)->
   ∃ fd:FuncData,(∀(s:Shared) (u:Value),BindsTo s fd ⟨[u],[]⟩ [(x,u)])/\
    ∀ base:Heap,(K w.params).In base->base.Ns mainGlobals mg->FnOk l.prog w (K w.params) mg base (CX w) k fa fd [x] (sp w))
  (hsp:∀(w:World) (H:Hp) (a:Addr) (ns:List Int),ns.length<=n->Only H->SqL (K w.params) H a (ns.map V.int)->sp w [.ref a] H (fun v _=>v=.bl true) fun _ _ _=>False)
  (hCX:∀(w:World) (H:Hp) (s:Shared) (e:Value) (s':Shared),CX w [] H s (fun _ _ _=>False) e s'->False):
  PySem.W.WalkO q loose XP YP l.row.toRowW d [] (fun f vs=>PySem.call f vs):=by
 refine Att.attach_call hn hdf fun w s₀ s₁ mg mb fa o pm cd doc a vs ns G Y ho hd hcd hmg hobj hints Lj hg=>?_;have KX:=hY w _ Y;obtain⟨fd,hb,hF⟩:=F w mg fa _ KX G.T.g hmg;exact E5 KX G.T.g G.T.b G.T.builtins G.T.nolimit hg hobj hints (Lz Lj hn2) hr hF hb (fun H hO hS=>hsp w H a ns Lj hO hS) fun H e s'=>hCX w H s₁ e s'
def dh(s:Stmt):Arguments:=match s with
 | .FunctionDef _ a _ _ _ _ _ _ _ _=>a
 | _=>{posonlyargs:=[],args:=[],vararg:=none,kwonlyargs:=[],kw_defaults:=[],kwarg:=none,defaults:=[]}
def ck(s:Stmt):List Stmt:=match s with
 | .FunctionDef _ _ b _ _ _ _ _ _ _=>b
 | _=>[]
def aY(s:Stmt):Scope:=match s with
 | .FunctionDef _ _ _ _ _ _ sc _ _ _=>sc
 | _=>{kind:=.function,names:=[],isGenerator:=false,isCoroutine:=false}
abbrev CX0:CXT:=fun _ _ _ _ _ _=>False
abbrev E0:XK:=fun _ _ _=>False
theorem za{X:Cx}:ra CX0 X E0:=fun _ _ _ _ _ _ _ h=>h.elim
structure Fun(K:Frag)(x qual:Str)(st:Stmt)(f:Addr)(fd:FuncData):Prop where
 ex:∃(oc:Value) (od:Option Addr) (kV doc pm:Value) (an:Option Addr) (Le ct:Value) (osl:Array (Option Value)),
  fd=fnOf x qual (dh st) (ck st) (aY st) .none kV doc pm an Le ct/\K.lookup f=some ⟨oc,od,.func fd,osl⟩/\codeIn K Le qual=true
 kp:keepIn K (.ref f)=true
section
variable{P:Program}{w:World}{K:Frag}{mg:Str->Option Value}{base:Heap}
theorem Fun.ok {x qual:Str} {st:Stmt} {f:Addr} {fd:FuncData} {N ps:List Str} {k:Nat} {sp:Sp} (F:Fun K x qual st f fd) (S:md N ps (aY st)) (len:∀ vs H Q E,sp vs H Q E->vs.length=ps.length)
  (hbody:∀(Le:Value) (A:Around) (outer:List Env) (s:Shared) (H:Hp) (vs:List V) (Q:VK) (E:XK),Room k (A.deeper (envOfC qual (aY st) s.heap.objs.size f Le))->sp vs H Q E->
   ∃ t,PSs (cxOf CX0 P w K mg base N qual (aY st) f Le A outer s H E).nox (ck st) t/\t {nx:=fun _ H'=>Q .non H',rt:=Q} (start N vs) H):FnOk P w K mg base CX0 (k+1) f fd ps sp:=by
 obtain⟨oc,od,kV,doc,pm,an,Le,ct,osl,rfl,lk,hcd⟩:=F.ex;refine HI lk hcd S len fun A outer s H vs Q E hr hsp=>?_;obtain⟨t,h,q⟩:=hbody Le A outer s H vs Q E hr hsp;exact⟨t,h.nox,q⟩
theorem Fun.binds {x qual:Str} {st:Stmt} {f:Addr} {fd:FuncData} {ps:List Str} (F:Fun K x qual st f fd)
  (h:∀(kV doc pm:Value) (an:Option Addr) (Le ct:Value) (us:List Value),us.length=ps.length->bindArgs (fnOf x qual (dh st) (ck st) (aY st) .none kV doc pm an Le ct) ⟨us,[]⟩=pure (ps.zip us)):Binds K fd ps []:=by
 obtain⟨oc,od,kV,doc,pm,an,Le,ct,osl,rfl,lk,hcd⟩:=F.ex;exact .all (h kV doc pm an Le ct)
theorem Dx {x qual:Str} {st:Stmt} {f:Addr} {oc:Value} {od an:Option Addr} {osl:Array (Option Value)} {kV doc pm Le ct:Value} (l:K.lookup f=some ⟨oc,od,.func (fnOf x qual (dh st) (ck st) (aY st) .none kV doc pm an Le ct),osl⟩)
  (c:codeIn K Le qual=true) (k:keepIn K (.ref f)=true):Fun K x qual st f (fnOf x qual (dh st) (ck st) (aY st) .none kV doc pm an Le ct):=⟨⟨oc,od,kV,doc,pm,an,Le,ct,osl,rfl,l,c⟩,k⟩
end
theorem aH{n:Nat}(h:n<=1000):n<sizeLine:=MD h (by decide)
section
variable{X:Cx}
theorem pv (i:Nat) {x:Str} {pos:Pos} (hN:X.N[i]? =some x:=by rfl) (hv:Vis X.env.scope x:=by first | exact Or.inl rfl | exact Or.inr (Or.inl rfl) | exact Or.inr (Or.inr rfl)) (hd:(x==("__debug__":Str))=false:=by decide)
  (hcd:(x==("__classdict__":Str))=false:=by decide):PE X (.Name x pos) (tVar i):=GD hN hv hd hcd
end
theorem iteF{A B:Prop}(h:B):if false=true then A else B:=by
 rw[LU Ly];exact h
theorem iteT{A B:Prop}(h:A):if true=true then A else B:=by
 rw[LX rfl];exact h
def Same(H H':Hp):Prop:=∀ b o,H b=some o->H' b=some o
theorem Same.refl(H:Hp):Same H H:=fun _ _ h=>h
abbrev Lr:=@Same.refl
theorem Same.trans{H H1 H2:Hp}(a:Same H H1)(b:Same H1 H2):Same H H2:=fun c o h=>b c o (a c o h)
theorem Same.free{H H':Hp}(e:Same H H'){l:Addr}(h:H' l=Option.none):H l=Option.none:=by
 cases q:H l with
 | none=>rfl
 | some o=>
  rw[e l o q] at h;cases h
theorem Same.seq{K:Frag}{H H':Hp}{a:Addr}{xs:List V}(e:Same H H')(h:SqL K H a xs):SqL K H' a xs:=by
 rcases h with (h | ⟨o,h⟩) | h
 . exact .inl (.inl (e _ _ h))
 . exact .inl (.inr ⟨o,e _ _ h⟩)
 . exact .inr h
section
variable{κ:Type}[DecidableEq κ]
def valV(Lf:List (κ × V))(k:κ):Option V:=(Lf.find? fun kv=>decide (kv.1=k)).map (·.2)
def putK(Lf:List (κ × V))(k:κ)(v:V):List (κ × V):=
 if (Lf.any fun kv=>decide (kv.1=k))=true then Lf.map (fun kv=>if kv.1=k then(kv.1,v) else kv) else Lf++[(k,v)]
theorem uG{p:κ × V}{r:List (κ × V)}{k:κ}(e:p.1=k):valV (p::r) k=some p.2:=by simp[valV,MU,e]
theorem uH{p:κ × V}{r:List (κ × V)}{k:κ}(e:¬ p.1=k):valV (p::r) k=valV r k:=by simp[valV,MU,e]
theorem zu(k:κ):∀ Lf:List (κ × V),(Lf.any fun kv=>decide (kv.1=k))=(valV Lf k).isSome
 | []=>rfl
 | p::r=>by
  rw[Nd];by_cases e:p.1=k
  . simp only[uG e,Lv e,Ny,Option.isSome_some]
  . rw[uH e,Ls e,MK];exact zu k r
theorem t5(Lf:List (κ × V))(k:κ)(v:V):(putK Lf k v).length<=Lf.length+1:=by
 unfold putK
 split
 . rw[Lp];omega
 . rw[LC,L0,List.length_nil];omega
theorem RelO.isSome_eq{o:Option V}{u:Option Value}(r:RelO o u):o.isSome=u.isSome:=by
 cases o with
 | none=>cases u with
  | none=>rfl
  | some _=>exact(show False from r).elim
 | some _=>cases u with
  | none=>exact(show False from r).elim
  | some _=>rfl
theorem KV.val{Lf:List (κ × V)}{vs:List (κ × Value)}(r:KV Lf vs)(k:κ):RelO (valV Lf k) (valueAt vs k):=by
 unfold KV at r
 induction r with
 | nil=>exact True.intro
 | @cons p q ps qs h t ih=>
  obtain⟨h1,h2⟩:=h;by_cases e:p.1=k
  . have e':q.1=k:=h1.symm.trans e;have b:valueAt (q::qs) k=some q.2:=by simp[valueAt,MU,e']
    rw[uG e,b];exact h2
  . have e':¬ q.1=k:=fun z=>e (h1.trans z);have b:valueAt (q::qs) k=valueAt qs k:=by simp[valueAt,MU,e']
    rw[uH e,b];exact ih
theorem KV.any{Lf:List (κ × V)}{vs:List (κ × Value)}(r:KV Lf vs)(k:κ):(Lf.any fun kv=>decide (kv.1=k))=vs.any fun kv=>decide (kv.1=k):=by
 unfold KV at r
 induction r with
 | nil=>rfl
 | cons h t ih=>rw[Nd,Nd,ih,h.1]
theorem KV.repl{Lf:List (κ × V)}{vs:List (κ × Value)}(r:KV Lf vs)(k:κ){y:V}{u:Value}(ry:RelV y u):
  KV (Lf.map fun kv=>if kv.1=k then(kv.1,y) else kv) (vs.map fun kv=>if kv.1=k then(kv.1,u) else kv):=by
 unfold KV at r ⊢
 induction r with
 | nil=>exact .nil
 | @cons p q ps qs h t ih=>
  rw[L3,L3];refine .cons ?_ ih;obtain⟨h1,h2⟩:=h;by_cases e:p.1=k
  . rw[LX e,LX (h1.symm.trans e)];exact⟨h1,ry⟩
  . rw[LU e,LU (fun z=>e (h1.trans z))];exact⟨h1,h2⟩
theorem KV.put{Lf:List (κ × V)}{vs:List (κ × Value)}(r:KV Lf vs)(k:κ){y:V}{u:Value}(ry:RelV y u):KV (putK Lf k y) (stored vs k u):=by
 unfold putK stored;rw[r.any k];by_cases e:(vs.any fun kv=>decide (kv.1=k))=true
 . rw[LX e,LX e];exact r.repl k ry
 . rw[LU e,LU e];exact Paired.snoc r ⟨rfl,ry⟩
theorem KV.length{Lf:List (κ × V)}{vs:List (κ × Value)}(r:KV Lf vs):Lf.length=vs.length:=OE r
end
theorem vq{P:Program}{w:World}{k:Key}{u:Value}(r:RelV (kV k) u):(df P w).is k u=true:=by
 cases k with
 | inl i=>obtain⟨t,e⟩:=(show ∃ t,u=Value.int i t from r);subst e;exact A5 P w i t
 | inr x=>obtain⟨t,e⟩:=(show ∃ t,u=Value.str x t from r);subst e;exact A6 P w x t
theorem yd{P:Program}{w:World}:∀{ks:List Key} {us:List Value},Vals (ks.map kV) us->ItemsAre (df P w) ks us
 | [],_,r=>by rw[OL] at r;cases r;exact .nil
 | k::ks,_,r=>by
  rw[L3] at r
  cases r with
  | cons h t=>exact .cons (vq h) (yd t)
abbrev KT(H:Hp):List (List Key × V)->List (List Key × Addr × Value)->Prop:=Paired fun p q=>p.1=q.1/\H q.2.1=some (.tup (p.1.map kV))/\RelV p.2 q.2.2
variable{H:Hp}{Lf:List (List Key × V)}{xs:List (List Key × Addr × Value)}
theorem KT.val(r:KT H Lf xs)(k:List Key):RelO (valV Lf k) ((atKey xs k).map (·.2)):=by
 induction r with
 | nil=>exact True.intro
 | @cons p q ps qs h t ih=>
  obtain⟨h1,_,h2⟩:=h;by_cases e:p.1=k
  . have e':q.1=k:=h1.symm.trans e;have b:atKey (q::qs) k=some q.2:=by simp[atKey,MU,e']
    rw[uG e,b];exact h2
  . have e':¬ q.1=k:=fun z=>e (h1.trans z);have b:atKey (q::qs) k=atKey qs k:=by simp[atKey,MU,e']
    rw[uH e,b];exact ih
theorem KT.repl(r:KT H Lf xs)(k:List Key){y:V}{u:Value}(ry:RelV y u):
  KT H (Lf.map fun kv=>if kv.1=k then(kv.1,y) else kv) (xs.map (putAt k u)):=by
 induction r with
 | nil=>exact .nil
 | @cons p q ps qs h t ih=>
  rw[L3,L3];refine .cons ?_ ih;obtain⟨h1,h2,h3⟩:=h;unfold putAt;by_cases e:p.1=k
  . rw[LX e,LX (h1.symm.trans e)];exact⟨h1,h2,ry⟩
  . rw[LU e,LU (fun z=>e (h1.trans z))];exact⟨h1,h2,h3⟩
theorem KT.put(r:KT H Lf xs)(k:List Key){b:Addr}{y:V}{u:Value}(hb:H b=some (.tup (k.map kV)))(ry:RelV y u):
  KT H (putK Lf k y) (storedH xs k b u):=by
 have e:(Lf.any fun kv=>decide (kv.1=k))=(atKey xs k).isSome:=by
  rw[zu,(r.val k).isSome_eq,N8]
 unfold putK storedH;rw[e];by_cases q:(atKey xs k).isSome=true
 . rw[LX q,LX q];exact r.repl k ry
 . rw[LU q,LU q];exact Paired.snoc r ⟨rfl,hb,ry⟩
theorem KT.keeps{H':Hp}(r:KT H Lf xs)(ht:∀ b ys,H b=some (.tup ys)->H' b=some (.tup ys)):KT H' Lf xs:=
 Paired.mapP r fun _ _ z=>⟨z.1,ht _ _ z.2.1,z.2.2⟩
section
variable{P:Program}{w:World}{H:Hp}{h:Heap}{a:Addr}
theorem Fy{u:HO}(ok:HOk P w H h)(e:Rd H a u):ObjOk P w H h a u:=e.ok ok
theorem sZ{Lf:List (Key × V)}(ok:HOk P w H h)(e:Rd H a (.dK Lf)):Lf.length<=sizeLine/\(a==sysModules)=false/\∃ vs,KV Lf vs/\h.DictOf (df P w) a vs:=
 show ObjOk P w H h a (.dK Lf) from Fy ok e
theorem HJ{Lf:List (Key × V)}(ok:HOk P w H h)(e:H a=some (.dK Lf)):Lf.length<=sizeLine/\(a==sysModules)=false/\∃ vs,KV Lf vs/\h.DictOf (df P w) a vs:=sZ ok (.inl e)
theorem rf{ks:List Key}(ok:HOk P w H h)(e:H a=some (.tup (ks.map kV))):(tupleKind (df P w)).is h ks a:=by
 obtain⟨_,Lg,r,o,h1,h2,n,h3⟩:=(show ObjOk P w H h a (.tup (ks.map kV)) from ok a _ e);exact⟨o,Lg.toArray,n,h1,h2,h3,by simpa using yd r⟩
theorem vt{Lf:List (List Key × V)}(ok:HOk P w H h)(e:Rd H a (.dT Lf)):Lf.length<=sizeLine/\(a==sysModules)=false/\
  ∃ xs,KT H Lf xs/\h.DictOfH (tupleKind (df P w)) a xs:=by
 obtain⟨z,y,xs,r,o,es,ep,h1,h2,h3,h4,h5⟩:=(show ObjOk P w H h a (.dT Lf) from Fy ok e);refine⟨z,y,xs,r,o,es,ep,h1,h2,h3,h4,fun x hx=>?_,h5⟩
 have all:∀{l:List (List Key × V)} {m:List (List Key × Addr × Value)},KT H l m->∀ x∈m,(tupleKind (df P w)).is h x.1 x.2.1:=by
  intro l m q
  induction q with
  | nil=>intro x hx;exact nomatch hx
  | @cons p q ps qs hq t ih=>
   intro x hx;rcases LW.mp hx with e | hx
   . subst e;exact rf ok (by rw[← hq.1];exact hq.2.1)
   . exact ih x hx
 exact all r x hx
theorem HK{Lf:List (List Key × V)}(ok:HOk P w H h)(e:H a=some (.dT Lf)):Lf.length<=sizeLine/\(a==sysModules)=false/\
  ∃ xs,KT H Lf xs/\h.DictOfH (tupleKind (df P w)) a xs:=vt ok (.inl e)
end
def DGet(H:Hp)(a:Addr)(y:V)(r:Option V):Prop:=
 (∃ Lf k,Rd H a (.dK Lf)/\y=kV k/\r=valV Lf k)\/∃ Lf k b,Rd H a (.dT Lf)/\y=.ref b/\H b=some (.tup (k.map kV))/\r=valV Lf k
def DPut(H:Hp)(a:Addr)(y v:V)(H':Hp):Prop:=
 (∃ Lf k,H a=some (.dK Lf)/\y=kV k/\Lf.length<sizeLine/\H'=upd H a (.dK (putK Lf k v)))\/
 ∃ Lf k b,H a=some (.dT Lf)/\y=.ref b/\H b=some (.tup (k.map kV))/\Lf.length<sizeLine/\H'=upd H a (.dT (putK Lf k v))
theorem DGet.k{a:Addr}{Lf:List (Key × V)}{k:Key}(e:H a=some (.dK Lf)):DGet H a (kV k) (valV Lf k):=.inl ⟨Lf,k,.inl e,rfl,rfl⟩
section
variable{X:Cx}{Lc:List (Addr × Obj)}{σ:St}{H:Hp}{s:Shared}{a:Addr}{y v:V}{u r:Value}{o:Option V}{A:Around}{E:Value->Shared->Prop}
theorem Dy{Q:Value->Shared->Prop}(hu:A.units+1<cLine)(I:Inv X Lc σ H s)(g:DGet H a y (some v))(ry:RelV y u)(h:∀ w' s',Inv X Lc σ H s'->RelV v w'->Q w' s'):
  wpAny (model X.prog X.w) A (getItem (.ref a) u) Q E s:=by
 rcases g with ⟨Lf,k,e,ey,l⟩ | ⟨Lf,k,b,e,ey,eb,l⟩
 . subst ey;obtain⟨z,hd,vs,rel,dd⟩:=sZ I.hok e;obtain⟨w',hw,rw'⟩:=OJ (v:=v) (o:=valueAt vs k) (by rw[l];exact rel.val k);exact wpAny_getItem_of (vq ry) dd.mapOf hw (h w' _ (I.tok _) rw')
 . subst ey;cases (show u=Value.ref b from ry);obtain⟨z,hd,xs,rel,dd⟩:=vt I.hok e;obtain⟨w',hw,rw'⟩:=OJ (v:=v) (o:=(atKey xs k).map (·.2)) (by rw[l];exact rel.val k);obtain⟨p,hp,hp2⟩:=M9.mp hw;refine wpAny_getItem_heap (Nr hu) (rf I.hok eb) dd hp ?_;rw[hp2];exact h w' _ (I.tok _) rw'
theorem HX{Q:Value->Shared->Prop}(hu:A.units+1<cLine)(I:Inv X Lc σ H s)(g:DGet H a y o)(ry:RelV y u)(h:∀ s',Inv X Lc σ H s'->Q (.bool o.isSome) s'):
  wpAny (model X.prog X.w) A (compareOp .In u (.ref a)) Q E s:=by
 rcases g with ⟨Lf,k,e,ey,l⟩ | ⟨Lf,k,b,e,ey,eb,l⟩
 . subst ey;obtain⟨z,hd,vs,rel,dd⟩:=sZ I.hok e;refine wpAny_in_of (vq ry) hd dd.mapOf ?_;rw[← (rel.val k).isSome_eq,← l];exact h _ (I.tok _)
 . subst ey;cases (show u=Value.ref b from ry);obtain⟨z,hd,xs,rel,dd⟩:=vt I.hok e;refine wpAny_in_heap (Nr hu) (rf I.hok eb) hd dd ?_;have q:=(rel.val k).isSome_eq;rw[N8] at q;rw[← q,← l];exact h _ (I.tok _)
theorem FU{Q:Value->Shared->Prop}(hu:A.units+1<cLine)(I:Inv X Lc σ H s)(g:DGet H a y o)(ry:RelV y u)(h:∀ s',Inv X Lc σ H s'->Q (.bool (!o.isSome)) s'):
  wpAny (model X.prog X.w) A (compareOp .NotIn u (.ref a)) Q E s:=by
 rcases g with ⟨Lf,k,e,ey,l⟩ | ⟨Lf,k,b,e,ey,eb,l⟩
 . subst ey;obtain⟨z,hd,vs,rel,dd⟩:=sZ I.hok e;refine wpAny_notIn_of (vq ry) hd dd.mapOf ?_;rw[← (rel.val k).isSome_eq,← l];exact h _ (I.tok _)
 . subst ey;cases (show u=Value.ref b from ry);obtain⟨z,hd,xs,rel,dd⟩:=vt I.hok e;refine wpAny_notIn_heap (Nr hu) (rf I.hok eb) hd dd ?_;have q:=(rel.val k).isSome_eq;rw[N8] at q;rw[← q,← l];exact h _ (I.tok _)
theorem BH{h':Heap}{t':Nat}{ob:HO}(I:Inv X Lc σ H s)(mu:Mut (H a))(hs:Heap.SameBut a s.heap h')(he:∃ q,h'.get? a=some q)(new:ObjOk X.prog X.w (upd H a ob) h' a ob):
  Inv X Lc σ (upd H a ob) {s with heap:=h',toks:=t'}:=
 I.write (x:=a) (e:=a) mu (.inl rfl) (fun b q hb z=>(hs.2 b hb).trans z) he new
theorem GT{P:Program}{w:World}{H':Hp}{h':Heap}{Lf:List (Key × V)}{vs:List (Key × Value)}(z:Lf.length<=sizeLine)(hd:(a==sysModules)=false)(rel:KV Lf vs)(dd:h'.DictOf (df P w) a vs):
  ObjOk P w H' h' a (.dK Lf):=⟨z,hd,vs,rel,dd⟩
theorem Dz{H':Hp}{Q:Unit->Shared->Prop}(hu:A.units+1<cLine)(I:Inv X Lc σ H s)(g:DPut H a y v H')(ry:RelV y u)(rv:RelV v r)(h:∀ s',Inv X Lc σ H' s'->Q () s'):
  wpAny (model X.prog X.w) A (setItem (.ref a) u r) Q E s:=by
 rcases g with ⟨Lf,k,e,ey,l,eH⟩ | ⟨Lf,k,b,e,ey,eb,l,eH⟩
 . subst ey eH;obtain⟨z,hd,vs,rel,dd⟩:=HJ I.hok e;have hz:vs.length<=sizeLine:=by rw[← rel.length];exact z
   have hl:(putK Lf k v).length<=sizeLine:=by have:=t5 Lf k v;omega
   refine wpAny_setItem_pairs (hsz:=hz) (vq ry) dd fun h' dd' hs=>h _ ?_;have he:∃ q,h'.get? a=some q:=let ⟨q,_,_,hq,_⟩:=dd';⟨q,hq⟩;exact BH I (by rw[e];exact True.intro) hs he (GT hl hd (rel.put k rv) dd')
 . subst ey eH;cases (show u=Value.ref b from ry);obtain⟨z,hd,xs,rel,dd⟩:=HK I.hok e;have hz:xs.length<=sizeLine:=by rw[← OE rel];exact z
   have hl:(putK Lf k v).length<=sizeLine:=by have:=t5 Lf k v;omega
   refine wpAny_setItem_heap (hsz:=hz) (Nr hu) (rf I.hok eb) dd fun h' dd' hs=>h _ ?_;obtain⟨q,es,ep,hq,h2,h3,h4,_,h5⟩:=dd';refine BH I (by rw[e];exact True.intro) hs ⟨q,hq⟩ ⟨hl,hd,_,(rel.put k eb rv).keeps fun c ys ec=>?_,q,es,ep,hq,h2,h3,h4,h5⟩;rw[ao (HC ec e (fun z=>nomatch z))];exact ec
end
section
variable{X:Cx}{Lc:List (Addr × Obj)}{σ:St}{H:Hp}{s:Shared}{a:Addr}{Lf:List (Key × V)}{k:Key}{u:Value}{A:Around}{E:Value->Shared->Prop}
theorem HL{Q:Value->Shared->Prop}(I:Inv X Lc σ H s)(e:Rd H a (.dK Lf))(h:∀ t s',Inv X Lc σ H s'->Q (.int Lf.length t) s'):wpAny (model X.prog X.w) A (call (.builtin "len") [.ref a]) Q E s:=by
 obtain⟨z,hd,vs,rel,dd⟩:=sZ I.hok e;refine call_len_dict hd dd (by rw[← rel.length];rw[OC] at z;omega) ?_;rw[← rel.length];exact h _ _ (I.tok _)
end
theorem A9{X:Cx}{Lc:List (Addr × Obj)}{σ:St}{s:Shared}{a:Addr}{y:V}{o:Option V}(I:Inv X Lc σ H s)(g:DGet H a y o):s.TypeIs (.ref a) "dict":=by
 rcases g with ⟨Lf,k,e,_,_⟩ | ⟨Lf,k,b,e,_,_,_⟩
 . obtain⟨_,_,vs,_,dd⟩:=sZ I.hok e;exact dd.typeIs
 . obtain⟨_,_,xs,_,dd⟩:=vt I.hok e;exact dd.typeIs
def sDPut(td ty tv:TE):TS:=fun D σ H=>tv σ H fun v H1=>td σ H1 fun x H2=>ty σ H2 fun y H3=>∃ a H4,x=.ref a/\DPut H3 a y v H4/\D.nx σ H4
def GU:TE:=fun _ H Q=>∀ p,H p=none->Q (.ref p) (upd H p (.dK []))
section
variable{X:Cx}
theorem DA:CallR X (.builtin "len") (fun xs H Q=>∃ a Lf,xs=[V.ref a]/\H a=some (.dK Lf)/\Q (.int Lf.length) H):=by
 intro Lc s σ H xs us Q I r h;obtain⟨a,Lf,rfl,ha,q⟩:=h;obtain⟨u,rfl,ru⟩:=dv r;cases ru;exact HL I (.inl ha) fun t s' I'=>⟨.int Lf.length,H,I',⟨t,rfl⟩,q⟩
end
theorem di{α:Type}(x:Str):∀(a b:List (Str × α)),(a++b).lookup x=match a.lookup x with | some c=>some c | none=>b.lookup x
 | [],b=>rfl
 | (k,v)::r,b=>by
  rw[List.cons_append,Mw,Mw]
  cases x==k with
  | true=>rfl
  | false=>exact di x r b
theorem lz:∀(names:List (Str × NameKind)) (n:Nat) (acc cl:List (Str × Addr)),cellsFrom n names (acc++cl)=cellsFrom n names acc++cl
 | [],_,_,_=>rfl
 | (y,k)::r,n,acc,cl=>by
  unfold cellsFrom
  split
  . rw[← List.cons_append];exact lz r _ _ cl
  . exact lz r _ _ cl
theorem iI{x:Str}{c:Addr}:∀(names:List (Str × NameKind)) (n:Nat) (acc:List (Str × Addr)),(x,c)∈cellsFrom n names acc->(x,NameKind.cell)∈names\/(x,c)∈acc
 | [],_,_,h=>.inr h
 | (y,k)::r,n,acc,h=>by
  unfold cellsFrom at h
  split at h
  . rename_i hk
    have hk:k=.cell:=by simpa using hk
    subst hk;rcases iI r _ _ h with z | z
    . exact .inl (LI _ z)
    . rcases LW.mp z with z | z
      . cases z;exact .inl LQ
      . exact .inr z
  . rcases iI r _ _ h with z | z
    . exact .inl (LI _ z)
    . exact .inr z
theorem pU {env:Env} (f:Str × NameKind->List (Str × Addr)->Sem (ForInStep (List (Str × Addr))))
  (hf:∀ name kind cs,f (name,kind) cs=if kind==.free then(do let a ← cellOf env name;pure (.yield ((name,a)::cs))) else pure (.yield cs)):
  ∀(names:List (Str × NameKind)) (acc:List (Str × Addr)),(∀ x,(x,NameKind.free)∈names->∃ c,env.cells.lookup x=some c)->(∀ x c,acc.lookup x=some c->env.cells.lookup x=some c)->
   ∃ cl,forIn names acc f=(pure cl:Sem _)/\(∀ x c,cl.lookup x=some c->env.cells.lookup x=some c)/\(∀ x,((x,NameKind.free)∈names\/∃ c,acc.lookup x=some c)->∃ c,cl.lookup x=some c)
 | [],acc,_,h2=>⟨acc,rfl,h2,fun x h=>h.elim (fun z=>nomatch z) id⟩
 | (y,k)::r,acc,h1,h2=>by
  rw[List.forIn_cons,hf];by_cases hk:(k==NameKind.free)=true
  . rw[LX hk];have hk':k=.free:=by simpa using hk
    subst hk';obtain⟨c,hc⟩:=h1 y LQ;have e:(cellOf env y:Sem Addr)=pure c:=by unfold cellOf;rw[hc]
    rw[e]
    obtain⟨cl,e1,e2,e3⟩:=pU f hf r ((y,c)::acc) (fun x hx=>h1 x (LI _ hx)) (fun x c' hx=>by
     rw[Mw] at hx
     cases hb:x==y with
     | true=>rw[hb] at hx;cases hx;rw[Ni.mp hb];exact hc
     | false=>rw[hb] at hx;exact h2 x c' hx)
    refine⟨cl,?_,e2,fun x hx=>e3 x ?_⟩
    . exact e1
    . rcases hx with hx | ⟨c',hx⟩
      . rcases LW.mp hx with z | z
        . cases z;exact .inr ⟨c,by rw[Mw];simp⟩
        . exact .inl z
      . cases hb:x==y with
        | true=>exact .inr ⟨c,by rw[Mw,hb]⟩
        | false=>exact .inr ⟨c',by rw[Mw,hb];exact hx⟩
  . rw[LU hk];obtain⟨cl,e1,e2,e3⟩:=pU f hf r acc (fun x hx=>h1 x (LI _ hx)) h2;refine⟨cl,e1,e2,fun x hx=>e3 x ?_⟩;rcases hx with hx | hx
    . rcases LW.mp hx with z | z
      . cases z;exact absurd rfl hk
      . exact .inl z
    . exact .inr hx
variable{scope:Scope}
theorem Cg{env:Env}(h:∀ x,(x,NameKind.free)∈scope.names->∃ c,env.cells.lookup x=some c):
  ∃ cl,closureFor scope env=pure cl/\(∀ x c,cl.lookup x=some c->env.cells.lookup x=some c)/\∀ x,(x,NameKind.free)∈scope.names->∃ c,cl.lookup x=some c:=by
 obtain⟨cl,e1,e2,e3⟩:=pU (env:=env) (fun x cs=>match x with | (name,kind)=>if kind==.free then(do let a ← cellOf env name;pure (.yield ((name,a)::cs))) else pure (.yield cs)) (fun _ _ _=>rfl) scope.names [] h (fun x c hx=>nomatch hx);refine⟨cl,?_,e2,fun x hx=>e3 x (.inl hx)⟩
 have:closureFor scope env=(forIn scope.names [] (fun x cs=>match x with | (name,kind)=>if kind==.free then(do let a ← cellOf env name;pure (.yield ((name,a)::cs))) else pure (.yield cs)) >>= fun cs=>pure cs):=by
  simp only[closureFor]
 rw[this,e1];rfl
def DB(scope:Scope)(cl:List (Str × Addr))(C:Addr)(env:Env):Env:=
 {newEnv scope C env.globals (cellsFrom (C+1) scope.names cl) env.qual none .none (some env) builtinsNs with scope:=relabel scope env}
theorem E6 {M:Model} {A:Around} {E:Value->Shared->Prop} {s:Shared} {cl:List (Str × Addr)} {env:Env} {Q:Env->Shared->Prop}
  (hQ:Q (newEnv scope s.heap.objs.size env.globals (cellsFrom (s.heap.objs.size+1) scope.names cl) env.qual none .none (some env) builtinsNs) {s with heap:=pushCells (s.heap.push {cls:=.type "dict",data:=.dict #[]}) scope.names}):
  wpAny M A (newFunctionEnv scope env.globals cl [] env.qual none .none (some env)) Q E s:=by
 simp only[newFunctionEnv,Option.isSome_some,OM];refine LZ (wpAny_alloc ?_);refine LZ (wpAny_layCells _ (fun name kind cells=>by cases hkc:kind==NameKind.cell <;> simp[hkc]) _ _ _ _ ?_);rw[show({s with heap:=s.heap.push {cls:=.type "dict",data:=.dict #[]}}:Shared).heap.objs.size=s.heap.objs.size+1 from M3 ..];refine LZ ?_;rw[List.forIn_nil];exact Mq (Mq hQ)
section
variable{prog:Program}{w:World}{A:Around}{E:Value->Shared->Prop}{R:Result->Shared->Prop}{s:Shared}
theorem DC {elt target iter:Expr} {ifs:List Expr} {scope:Scope} {pos:Pos} {it acc:Value} {env:Env} (I:Nat->Shared->Prop)
  (turn:∀ n s,I n s->wpAny (model prog w) A (pyNext it) (fun r s₁=>match r with
   | none=>R (.ok .next) s₁
   | some v=>wpAny (model prog w) A (letOwnedTupleGo target it v) (fun _ s₁'=>wpAny (model prog w) A (assign target env v) (fun _ s₂=>
     wpAny (model prog w) A (forIn ifs true fun c r=>if r=true then do let ok ← isTrue c env (eval c env);pure (ForInStep.yield ok) else pure (ForInStep.yield r)) (fun ok s₃=>
      if ok=true then wpAny (model prog w) A (eval elt env) (fun x s₄=>
       wpAny (model prog w) A (call (.builtin "list.append") [acc,x]) (fun _ s₅=>∃ m,m<n/\I m s₅) (notedBy (model prog w) A env fun e s'=>R (.error e) s') s₄) (notedBy (model prog w) A env fun e s'=>R (.error e) s') s₃
      else ∃ m,m<n/\I m s₃) (notedBy (model prog w) A env fun e s'=>R (.error e) s') s₂) (notedBy (model prog w) A env fun e s'=>R (.error e) s') s₁') (notedBy (model prog w) A env fun e s'=>R (.error e) s') s₁) (notedBy (model prog w) A env fun e s'=>R (.error e) s') s)
  (n:Nat) (h:I n s):
  codeAny (model prog w) A (.compLoop (.ListComp elt [⟨target,iter,ifs,0⟩] scope pos) 0 it acc env) R s:=by
 refine codeAny_loop rfl I (fun n s hI=>?_) n h;show wpAny _ A ((compTurn (.ListComp elt [⟨target,iter,ifs,0⟩] scope pos) 0 it acc env).onRaise (fun x=>do noteFrame x env;theTreesLotGoes x)) _ _ s;refine wpAny_noted ?_;rw[compTurn_list];refine LZ (OF (LZ (MC (turn n s hI) (fun r s₁ h₁=>?_) fun _ _ h'=>h')))
 cases r with
 | none=>exact Mq h₁
 | some v=>
  refine LZ (MC h₁ (fun _ s₁' h₁'=>?_) fun _ _ h'=>h');refine LZ (MC h₁' (fun _ s₂ h₂=>LZ (MC h₂ (fun ok s₃ h₃=>?_) fun _ _ h'=>h')) fun _ _ h'=>h')
  cases ok with
  | false=>exact Mq ⟨rfl,h₃⟩
  | true=>
   exact LZ (LZ (MC h₃ (fun x s₄ h₄=>LZ (MC h₄ (fun _ s₅ h₅=>Mq (Mq ⟨rfl,h₅⟩)) fun _ _ h'=>h')) fun _ _ h'=>h'))
end
variable{scope:Scope}
theorem mq{env:Env}{x:Str}{k:NameKind}(h:(relabel scope env).names.lookup x=some k):∃ k',scope.names.lookup x=some k'/\(k=k'\/(k'=.free/\k=.cell)):=by
 unfold relabel at h;dsimp only at h;generalize scope.names=names at h ⊢
 induction names with
 | nil=>cases h
 | cons p r ih=>
  obtain⟨n,k0⟩:=p;rw[L3] at h;rw[Mw]
  cases hb:x==n with
  | true=>
   refine⟨k0,rfl,?_⟩;dsimp only at h
   split at h
   . rename_i hc
     rw[Mw,hb] at h;cases h;simp only[Ma,Ni] at hc;exact .inr ⟨hc.1.1,rfl⟩
   . rw[Mw,hb] at h;cases h;exact .inl rfl
  | false=>
   dsimp only at h;refine ih ?_
   split at h
   . rw[Mw,hb] at h;exact h
   . rw[Mw,hb] at h;exact h
def blkCx(X:Cx)(N:List Str)(scope:Scope)(cl:List (Str × Addr))(s:Shared)(H:Hp)(fp:List Addr):Cx where
 prog:=X.prog
 w:=X.w
 K:=X.K
 mg:=X.mg
 base:=X.base
 A:=X.A
 N:=N
 s₀:=s
 H₀:=H
 env:=DB scope cl (s.heap.objs.size+1) X.env
 outer:=X.stack
 stack:=X.stack
 ex:=fp
 fn:=fun x=>scope.names.lookup x==some .cell
 calm:=X.calm
 pn:=[]
 xe:=fun e₀ s₁=>(∃(Lc:List (Addr × Obj)) (σ:St),Inv X Lc σ H s/\∀ b∈fp,FpOk X Lc H b)->notedBy (model X.prog X.w) X.A (DB scope cl (s.heap.objs.size+1) X.env) (fun x s'=>∃ m,s'.heap.Ns (s.heap.objs.size+1) m/\∀ h',Heap.SameBut (s.heap.objs.size+1) s'.heap h'->∀ cenv:Env,cenv.locals=s.heap.objs.size+1->
  wpAny (model X.prog X.w) X.A (passOn "comprehension.variables-let-go" x cenv:Sem Value) (fun _ _=>False) X.xe {s' with heap:=h'}) e₀ s₁
def subσ(ix:List (Option Nat))(σ:St):St:=ix.map fun o=>match o with | none=>none | some i=>match σ[i]? with | some v=>v | none=>none
structure BlkOk(X:Cx)(N:List Str)(ix:List (Option Nat))(scope:Scope):Prop where
 kind:scope.kind=.function
 nd:N.Nodup
 len:ix.length=N.length
 names:(scope.names.map (·.1)).Nodup
 free:∀ x,(x,NameKind.free)∈scope.names->X.env.kindOf x=some .cell\/X.env.kindOf x=some .free
 at_:∀(j i:Nat) (x:Str),N[j]? =some x->ix[j]? =some (some i)->X.N[i]? =some x/\(x,NameKind.free)∈scope.names
theorem fU{α:Type}:∀{l:List (Str × α)} {x:Str} {k:α},(l.map (·.1)).Nodup->(x,k)∈l->l.lookup x=some k
 | (y,k0)::r,x,k,nd,h=>by
  rw[L3,MH] at nd;rw[Mw];rcases LW.mp h with e | e
  . cases e;simp
  . have:x≠y:=by
     rintro rfl;exact nd.1 (LK.mpr ⟨(x,k),e,rfl⟩)
    have hb:(x==y)=false:=by simpa using this
    rw[hb];exact fU nd.2 e
theorem DD {X:Cx} {Lc:List (Addr × Obj)} {σ:St} {H:Hp} {s:Shared} {N:List Str} {ix:List (Option Nat)} {cl:List (Str × Addr)} {fp:List Addr} (B:BlkOk X N ix scope)
  (I:Inv X Lc σ H s) (hcl:∀ x c,cl.lookup x=some c->X.env.cells.lookup x=some c) (hcf:∀ x,(x,NameKind.free)∈scope.names->∃ c,cl.lookup x=some c)
  (hfp:∀ b∈fp,FpOk X Lc H b) (hob:∀ b∈fp,∃ o,s.heap.get? b=some o/\∀ v,o.data≠.cell v):
  Inv (blkCx X N scope cl s H fp) [] (subσ ix σ) (upd H s.heap.objs.size (.lst []))
   {s with heap:=pushCells ((s.heap.push {cls:=.type "list",data:=.seq #[]}).push {cls:=.type "dict",data:=.dict #[]}) scope.names}:=by
 have hs2:(s.heap.push {cls:=.type "list",data:=.seq #[]}).objs.size=s.heap.objs.size+1:=M3 ..;have hs3:((s.heap.push {cls:=.type "list",data:=.seq #[]}).push {cls:=.type "dict",data:=.dict #[]}).objs.size=s.heap.objs.size+2:=by rw[M3,hs2]
 have hk:∀ b o,s.heap.get? b=some o->(pushCells ((s.heap.push {cls:=.type "list",data:=.seq #[]}).push {cls:=.type "dict",data:=.dict #[]}) scope.names).get? b=some o:=
  fun b o e=>NN _ _ b o (LG _ (LG _ e))
 have hl:(pushCells ((s.heap.push {cls:=.type "list",data:=.seq #[]}).push {cls:=.type "dict",data:=.dict #[]}) scope.names).get? s.heap.objs.size=some {cls:=.type "list",data:=.seq #[]}:=
  NN _ _ _ _ (LG _ (L5 _ rfl))
 have ok0:=cellsFrom_ok scope.names ((s.heap.push {cls:=.type "list",data:=.seq #[]}).push {cls:=.type "dict",data:=.dict #[]}) (s.heap.objs.size+2) [] ⟨fun _ _ hm=>(nomatch hm),List.Pairwise.nil⟩ (by rw[hs3];exact LF _);rw[hs3] at ok0
 have hcells:(blkCx X N scope cl s H fp).env.cells=cellsFrom (s.heap.objs.size+2) scope.names []++cl:=by
  show cellsFrom (s.heap.objs.size+1+1) scope.names cl=_;rw[← List.nil_append cl,lz];simp
 have cases_:∀ x c,(blkCx X N scope cl s H fp).env.cells.lookup x=some c->((x,c)∈cellsFrom (s.heap.objs.size+2) scope.names []/\(x,NameKind.cell)∈scope.names)\/((cellsFrom (s.heap.objs.size+2) scope.names []).lookup x=none/\cl.lookup x=some c):=fun x c e=>by
  rw[hcells,di] at e
  cases q:(cellsFrom (s.heap.objs.size+2) scope.names []).lookup x with
  | none=>rw[q] at e;exact .inr ⟨rfl,e⟩
  | some c'=>
   rw[q] at e;cases e;have m:=MA q;refine .inl ⟨m,?_⟩;rcases iI _ _ _ m with z | z
   . exact z
   . exact nomatch z
 have oldc:∀ x c,cl.lookup x=some c->c<s.heap.objs.size:=fun x c e=>by
  obtain⟨v,q⟩:=I.cell x c (hcl x c e);exact q.lt
 have hfree:H s.heap.objs.size=none:=I.hok.fresh (LF _)
 have hfix:∀ b,s.heap.objs.size<b->(upd H s.heap.objs.size (.lst [])) b=none:=fun b hb=>by
  rw[ao (NU hb)];exact I.hok.fresh (Mj hb)
 have hlt:∀ b∈fp,b<s.heap.objs.size:=fun b hb=>by
  obtain⟨o,e,_⟩:=hob b hb;exact LS e
 have e0:=I.env0;have isnew:∀ x c,(x,c)∈cellsFrom (s.heap.objs.size+2) scope.names []->s.heap.objs.size+2<=c:=fun x c m=>(ok0.empty x c m).2
 refine⟨⟨I.ok.mod,B.kind,I.ok.glob,I.ok.blt,NJ _,fun x y c e1 e2=>?_,fun x hx=>?_,fun x c hx e=>?_,I.ok.hd,I.ok.frames,.inl rfl,fun b hb=>⟨?_,fun x c e=>?_⟩,e0.bs,e0.bsz,fun b o e hb=>?_,fun b hb hb2=>?_,e0.funs,e0.frf⟩,
  rfl,I.bare,Un.laid hk (LF _) hfree,⟨fun _=>none,?_,fun j x v e1 e2 e3=>?_⟩,fun x c e=>?_,hfix _ (NC _),fun x c e=>?_,fun p hp=>absurd (show p∈([]:List (Addr × Obj)) from hp) (by simp),?_,?_⟩
 . rcases cases_ x c e1 with ⟨m1,k1⟩ | ⟨n1,q1⟩ <;> rcases cases_ y c e2 with ⟨m2,k2⟩ | ⟨n2,q2⟩
   . exact name_of_addr ok0.apart m1 m2
   . exact absurd (LY (oldc _ _ q2) (Lz (NF _ _) (isnew _ _ m1))) (MI _)
   . exact absurd (LY (oldc _ _ q1) (Lz (NF _ _) (isnew _ _ m2))) (MI _)
   . exact I.ok.inj x y c (hcl _ _ q1) (hcl _ _ q2)
 . have hx':(relabel scope X.env).names.lookup x=some .cell\/(relabel scope X.env).names.lookup x=some .free:=hx
   have key:scope.names.lookup x=some .cell\/scope.names.lookup x=some .free:=by
    rcases hx' with z | z
    . obtain⟨k',e,r | r⟩:=mq z
      . rw[← r] at e;exact .inl e
      . rw[r.1] at e;exact .inr e
    . obtain⟨k',e,r | r⟩:=mq z
      . rw[← r] at e;exact .inr e
      . cases r.2
   rw[hcells];rcases key with z | z
   . obtain⟨c,q⟩:=pT (n:=s.heap.objs.size+2) z;exact⟨c,by rw[di,q]⟩
   . obtain⟨c,q⟩:=hcf x (MA z)
     cases q2:(cellsFrom (s.heap.objs.size+2) scope.names []).lookup x with
     | none=>exact⟨c,by rw[di,q2];exact q⟩
     | some c'=>exact⟨c',by rw[di,q2]⟩
 . have hx':scope.names.lookup x=some .cell:=by simpa [blkCx] using hx
   rcases cases_ x c e with ⟨m1,k1⟩ | ⟨n1,q1⟩
   . exact Lz (NF _ _) (isnew _ _ m1)
   . obtain⟨c',q⟩:=pT (n:=s.heap.objs.size+2) hx';rw[q] at n1;cases n1
 . exact Mi (MN (hlt b hb))
 . rcases cases_ x c e with ⟨m1,k1⟩ | ⟨n1,q1⟩
   . exact NU (LY (hlt b hb) (Lz (NF _ _) (isnew _ _ m1)))
   . exact(hfp b hb).2.2.2.2.1 x c (hcl _ _ q1)
 . rcases(hfp b hb).2.2.2.1 with z | z
   . exact I.ok.noex b o e z
   . exact absurd (LY (LS e) (Lz I.ok.bsz z)) (MI _)
 . rcases LW.mp (I.stkSub b hb2) with z | z
   . exact(hfp b hb).2.1 z
   . exact(hfp b hb).2.2.1 z
 . show Heap.Ns _ (s.heap.objs.size+1) _;rw[← hs2];exact(Heap.Ns.new _ (.type "dict")).keeps (NN _ _)
 .
   unfold subσ at e2;rw[Lu] at e2
   cases q:ix[j]? with
   | none=>rw[q] at e2;cases e2
   | some o=>
    rw[q] at e2
    cases o with
    | none=>cases e2
    | some i=>
     simp only[Option.map_some,Option.some.injEq] at e2;obtain⟨hN,hm⟩:=B.at_ j i x e1 q
     have hσ:σ[i]? =some (some v):=by
      cases q2:σ[i]? with
      | none=>rw[q2] at e2;cases e2
      | some z=>rw[q2] at e2;exact congrArg some e2
     obtain⟨m,hn,hl'⟩:=I.loc;have hkind:=B.free x hm;have hvis:Vis X.env.scope x:=hkind.elim (fun z=>.inr (.inl z)) fun z=>.inr (.inr z);obtain⟨u,ru,lk⟩:=hl' i x v hN hσ hvis;refine⟨u,ru,?_⟩;obtain⟨c,hc⟩:=hcf x hm
     have hnone:(cellsFrom (s.heap.objs.size+2) scope.names []).lookup x=none:=by
      cases q2:(cellsFrom (s.heap.objs.size+2) scope.names []).lookup x with
      | none=>rfl
      | some c'=>
       rcases iI _ _ _ (MA q2) with z | z
       . have a1:=fU B.names z;have a2:=fU B.names hm;rw[a1] at a2;cases a2
       . exact nomatch z
     have hcell:(blkCx X N scope cl s H fp).env.cells.lookup x=some c:=by rw[hcells,di,hnone];exact hc
     have hkk:(blkCx X N scope cl s H fp).env.kindOf x=some .cell\/(blkCx X N scope cl s H fp).env.kindOf x=some .free:=by
      rcases e3 with z | z | z
      . obtain⟨k',e,r | r⟩:=mq (show(relabel scope X.env).names.lookup x=some .local from z)
        . rw[fU B.names hm] at e;cases e;cases r
        . cases r.2
      . exact .inl z
      . exact .inr z
     refine .inr ⟨hkk,c,hcell,?_⟩;rcases lk with ⟨k1,_⟩ | ⟨_,c2,e4,z⟩
     . rcases hkind with z | z <;> rw[k1] at z <;> cases z
     . rw[hcl x c hc] at e4;cases e4;exact z.keeps hk
 . rcases cases_ x c e with ⟨m1,k1⟩ | ⟨n1,q1⟩
   . exact⟨none,(ok0.empty x c m1).1⟩
   . obtain⟨v,z⟩:=I.cell x c (hcl _ _ q1);exact⟨v,z.keeps hk⟩
 . rcases cases_ x c e with ⟨m1,k1⟩ | ⟨n1,q1⟩
   . exact hfix c (LY (Nat.lt_add_of_pos_right (by decide)) (isnew _ _ m1))
   . rw[ao (Mi (oldc _ _ q1))];exact I.freeC x c (hcl _ _ q1)
 . exact I.hok.laid hk (LF _) ⟨Ml _,[],0,.nil,hl⟩
 . show(subσ ix σ).length=N.length;unfold subσ;rw[Lp];exact B.len
def PTs(X:Cx)(ifs:List Expr)(t:TT):Prop:=
 ∀(Lc:List (Addr × Obj)) (s:Shared) (σ:St) (H:Hp) (Q:Bool->Hp->Prop),Inv X Lc σ H s->t σ H Q->
  wpAny (model X.prog X.w) X.A (forIn ifs true fun c r=>if r=true then do let ok ← isTrue c X.env (eval c X.env);pure (ForInStep.yield ok) else pure (ForInStep.yield r)) (TP X Lc σ Q) X.xe s
def tTrue:TT:=fun _ H Q=>Q true H
theorem aO{X:Cx}:PTs X [] tTrue:=fun _ _ _ H _ I h=>wpAny_tests_nil ⟨H,I,h⟩
theorem bn{X:Cx}{c:Expr}{t:TT}(h:PT X c t):PTs X [c] t:=fun Lc s σ H Q I q=>wpAny_tests_one (h Lc s σ H Q I q)
def zv(ix:List (Option Nat))(wi:TI)(g:TG)(tt:TT)(te:TE)(fin:Addr->Hp->Prop):St->Hp->Prop:=fun σ H=>wi σ H fun J H1=>∀ l,H1 l=none->
 ∃ W:Nat->Nat->St->Hp->Prop,(∃ m,W 0 m (subσ ix σ) (upd H1 l (.lst [])))/\∀ i m σ' H',W i m σ' H'->
  (J.stop i H'/\fin l H')\/(J.go i H'/\∃ N:St->Hp->Prop,(∀ σ'' H'',N σ'' H''->∃ m',m'<m/\W (i+1) m' σ'' H'')/\∀ x H2,J.yld i H' x H2->g x σ' H2 fun σ2 H3=>tt σ2 H3 fun b H4=>
   if b=true then te σ2 H4 fun y H5=>∃ ys,H5 l=some (.lst ys)/\ys.length<sizeLine/\N σ2 (upd H5 l (.lst (ys++[y]))) else N σ2 H4)
section
variable{X:Cx}{Lc:List (Addr × Obj)}{σ σ':St}{H H':Hp}{s s':Shared}{N:List Str}{scope:Scope}{cl:List (Str × Addr)}{fp:List Addr}
theorem BK{h':Heap}(I:Inv X Lc σ H s)(J:Inv (blkCx X N scope cl s H fp) [] σ' H' s')(hfp:∀ b∈fp,FpOk X Lc H b)(sb:Heap.SameBut (s.heap.objs.size+1) s'.heap h'):Inv X Lc σ H' {s' with heap:=h'}:=by
 have u:Un (frs X.stack) fp H H' s.heap s'.heap:=J.base;have hC:H' (s.heap.objs.size+1)=none:=J.free;have ne:∀ b o,s.heap.get? b=some o->b≠s.heap.objs.size+1:=fun b o e=>Mi (MN (LS e));refine I.call' (s':={s' with heap:=h'}) (ch:=fp) J.os ⟨fun b o e n hb hx=>?_,fun b o e n hb hx=>?_,u.free,fun b o e hx=>?_,u.tups,u.frzs,u.tbls⟩ (fun b ob e=>?_) J.bare fun b hb=>?_
 . exact(sb.2 b (ne b o e)).trans (u.keep b o e n hb hx)
 . obtain⟨sl,q⟩:=u.slot b o e n hb hx;exact⟨sl,(sb.2 b (ne b o e)).trans q⟩
 . obtain⟨o',q⟩:=u.there b o e hx;exact⟨o',(sb.2 b (ne b o e)).trans q⟩
 . refine(J.hok b ob e).stay (fun c w' hc q=>(sb.2 c ?_).trans q) (fun _ q=>q) fun _ _ q=>q;rintro rfl;rcases hc with rfl | hc
   . rw[hC] at e;cases e
   . rw[hC] at hc;cases hc
 . obtain⟨f0,f1,f2,f3,f4,f5⟩:=hfp b hb;exact⟨f3,f1,f4,f5⟩
theorem zw {tg iter elt:Expr} {ifs:List Expr} {pos:Pos} {ix:List (Option Nat)} {wi:TI} {g:TG} {tt:TT} {te:TE} {fin:Addr->Hp->Prop} {RR:Value->Addr->Result->Shared->Prop} (B:BlkOk X N ix scope) (hc:X.calm=true)
  (hi:PI X tg iter wi) (hg:∀ cl s H fp,PG (blkCx X N scope cl s H fp) tg g) (ht:∀ cl s H fp,PTs (blkCx X N scope cl s H fp) ifs tt) (he:∀ cl s H fp,PE (blkCx X N scope cl s H fp) elt te)
  (hcl:∀ x c,cl.lookup x=some c->X.env.cells.lookup x=some c) (hcf:∀ x,(x,NameKind.free)∈scope.names->∃ c,cl.lookup x=some c)
  (I:Inv X Lc σ H s) (h:zv ix wi g tt te fin σ H)
  (ok:∀(s2:Shared) (H2:Hp) (fp:List Addr) (σ3:St) (H3:Hp) (s3:Shared),Inv X Lc σ H2 s2->(∀ b∈fp,FpOk X Lc H2 b)->Inv (blkCx X N scope cl s2 H2 fp) [] σ3 H3 s3->fin s2.heap.objs.size H3->RR (.ref s2.heap.objs.size) (s2.heap.objs.size+1) (.ok .next) s3)
  (bad:∀(a C:Addr) (x:Value) (s':Shared),(∃ m,s'.heap.Ns C m/\∀ h',Heap.SameBut C s'.heap h'->∀ cenv:Env,cenv.locals=C->wpAny (model X.prog X.w) X.A (passOn "comprehension.variables-let-go" x cenv:Sem Value) (fun _ _=>False) X.xe {s' with heap:=h'})->RR (.ref a) C (.error x) s'):
  wpAny (model X.prog X.w) X.A (eval iter X.env) (fun x s₁=>wpAny (model X.prog X.w) X.A (pyIter x) (fun it s₂=>wpAny (model X.prog X.w) X.A (newList []) (fun acc s₃=>
   wpAny (model X.prog X.w) X.A (newFunctionEnv scope X.env.globals cl [] X.env.qual none .none (some X.env)) (fun cenv s₄=>
    codeAny (model X.prog X.w) X.A (.compStart (.ListComp elt [⟨tg,iter,ifs,0⟩] scope pos) 0 it acc {cenv with scope:=relabel scope X.env}) (RR acc cenv.locals) s₄) X.xe s₃) X.xe s₂) X.xe s₁) X.xe s:=by
 refine thn (hi Lc s σ H _ I h) fun v s1 h1=>thn h1 fun itv s2 h2=>?_;obtain⟨it,fp,tn,J,H2,e,I2,T,st2,f2,h2⟩:=h2;subst e;refine wpAny_newList (E6 ?_) (Ml _);have hs2:(s2.heap.push {cls:=.type "list",data:=.seq (([]:List Value)).toArray}).objs.size=s2.heap.objs.size+1:=M3 ..;dsimp only;rw[hs2];have I3:=DD (fp:=fp) B I2 hcl hcf f2 (T.obj _ _ st2);obtain⟨W,⟨m0,w0⟩,turn⟩:=h2 s2.heap.objs.size I2.fresh
 have hk:∀ b o,s2.heap.get? b=some o->(pushCells ((s2.heap.push {cls:=.type "list",data:=.seq #[]}).push {cls:=.type "dict",data:=.dict #[]}) scope.names).get? b=some o:=
  fun b o e=>NN _ _ b o (LG _ (LG _ e))
 have st3:=T.keep _ _ _ st2 fun b _ o e=>hk b o e
 have fr3:∀ b∈fp,(upd H2 s2.heap.objs.size (.lst [])) b=none:=fun b hb=>by
  obtain⟨o,e,_⟩:=T.obj _ _ st2 b hb;rw[ao (Mi (LS e))];exact(f2 b hb).1
 have stat:∀{σ5:St} {H5:Hp} {s5:Shared},Inv (blkCx X N scope cl s2 H2 fp) [] σ5 H5 s5->(∀ b∈fp,H5 b=none)->∀ b∈fp,FpOk (blkCx X N scope cl s2 H2 fp) [] H5 b:=fun I5 hn b hb=>
  ⟨hn b hb,(I5.ok.exf b hb).1,I5.ok.exfs b hb,.inl hb,(I5.ok.exf b hb).2,fun p hp=>absurd (show p∈([]:List (Addr × Obj)) from hp) (by simp)⟩
 have loop:∀ s₃:Shared,s₃={s2 with heap:=pushCells ((s2.heap.push {cls:=.type "list",data:=.seq #[]}).push {cls:=.type "dict",data:=.dict #[]}) scope.names}->
   codeAny (model X.prog X.w) X.A (.compLoop (.ListComp elt [⟨tg,iter,ifs,0⟩] scope pos) 0 (.ref it) (.ref s2.heap.objs.size) (blkCx X N scope cl s2 H2 fp).env) (RR (.ref s2.heap.objs.size) (s2.heap.objs.size+1)) s₃:=by
  rintro s₃ rfl;refine DC (fun n s'=>∃ i σ' H',Inv (blkCx X N scope cl s2 H2 fp) [] σ' H' s'/\tn i s'.heap/\(∀ b∈fp,H' b=none)/\W i n σ' H') ?_ m0 ⟨0,_,_,I3,st3,fr3,w0⟩;rintro n s4 ⟨i,σ4,H4,I4,st4,fr4,w4⟩
  have xe_:∀ x s',(blkCx X N scope cl s2 H2 fp).xe x s'->notedBy (model X.prog X.w) X.A (blkCx X N scope cl s2 H2 fp).env (fun e s'=>RR (.ref s2.heap.objs.size) (s2.heap.objs.size+1) (.error e) s') x s':=fun x s' hx=>
   MC (hx ⟨Lc,σ,I2,f2⟩) (fun _ s'' q=>bad _ _ _ _ q) fun e s'' q=>bad _ _ _ _ q
  rcases turn i n σ4 H4 w4 with ⟨stop,qn⟩ | ⟨go,Nx,hN,step⟩
  . refine MC (T.done (blkCx X N scope cl s2 H2 fp) rfl rfl rfl hc i [] s4 σ4 H4 _ I4 (stat I4 fr4) st4 stop) (fun r s5 ⟨hr,I5⟩=>?_) xe_;subst hr;exact ok s2 H2 fp σ4 H4 s5 I2 f2 I5 qn
  . refine MC (T.item (blkCx X N scope cl s2 H2 fp) rfl rfl rfl hc i [] s4 σ4 H4 _ I4 (stat I4 fr4) st4 go) (fun r s5 ⟨u,hr,h5⟩=>?_) xe_;subst hr;refine MC h5 (fun _ s6 ⟨x,H6,I6,r6,y6,st6,fr6⟩=>?_) xe_;have I6':=I6.pinned (stat I6 fr6) (T.obj _ _ st6);refine MC (hg cl s2 H2 fp _ s6 σ4 H6 x u _ I6' r6 (step x H6 y6)) (fun _ s7 ⟨σ7,H7,I7,q7⟩=>?_) xe_
    have again:∀{σ8:St} {H8:Hp} {s8:Shared},Inv (blkCx X N scope cl s2 H2 fp) ([]++qW fp s6.heap) σ8 H8 s8->Nx σ8 H8->∃ m,m<n/\∃ i σ' H',Inv (blkCx X N scope cl s2 H2 fp) [] σ' H' s8/\tn i s8.heap/\(∀ b∈fp,H' b=none)/\W i m σ' H':=fun{σ8 H8 s8} I8 n8=>by
     obtain⟨m',hm,w8⟩:=hN σ8 H8 n8;refine⟨m',hm,i+1,σ8,H8,I8.unpinned,T.keep _ _ _ st6 fun b hb o e=>(I8.pin (b,o) (Mr _ (Mr _ (lS hb e)))).1,fun b hb=>?_,w8⟩;obtain⟨o,e,d⟩:=T.obj _ _ st6 b hb;exact(I8.pin (b,o) (Mr _ (Mr _ (lS hb e)))).2.1
    refine MC (ht cl s2 H2 fp _ s7 σ7 H7 _ I7 q7) (fun okb s8 ⟨H8,I8,q8⟩=>?_) xe_
    cases okb with
    | false=>exact again I8 q8
    | true=>
     refine MC (he cl s2 H2 fp _ s8 σ7 H8 _ I8 q8) (fun y s9 ⟨yv,H9,I9,r9,ys,hl,hz,q9⟩=>?_) xe_;refine MC (yc (X:=blkCx X N scope cl s2 H2 fp) _ s9 σ7 H9 (.ref s2.heap.objs.size) [yv] (.ref s2.heap.objs.size) [y] (fun _ H10=>Nx σ7 H10) I9 rfl (.cons r9 .nil) ⟨_,ys,yv,rfl,rfl,hl,hz,q9⟩) (fun _ s10 ⟨_,H10,I10,_,q10⟩=>?_) xe_;exact again I10 q10
 exact codeAny_compStart_list (loop _ rfl) (T.self _ 0 _ _ _ st3 (loop _ rfl))
def tComp(ix:List (Option Nat))(wi:TI)(g:TG)(tt:TT)(te:TE):TE:=fun σ H Q=>zv ix wi g tt te (fun l H'=>Q (.ref l) H') σ H
def sComp(k:Nat)(ix:List (Option Nat))(wi:TI)(g:TG)(tt:TT)(te:TE):TS:=fun D σ H=>zv ix wi g tt te (fun l H'=>D.nx (σ.set k (some (.ref l))) H') σ H
theorem BL(I:Inv X Lc σ H s){ix:List (Option Nat)}(B:BlkOk X N ix scope):∃ cl,closureFor scope X.env=pure cl/\(∀ x c,cl.lookup x=some c->X.env.cells.lookup x=some c)/\∀ x,(x,NameKind.free)∈scope.names->∃ c,cl.lookup x=some c:=
 Cg fun x hx=>I.ok.has x (B.free x hx)
theorem t6{ix:List (Option Nat)}(B:BlkOk X N ix scope):∀ x∈scope.names,x.2=NameKind.local->scope.names.lookup x.1=some .local:=fun x hx e=>by
 obtain⟨n,k⟩:=x;cases e;exact fU B.names hx
theorem aF {tg iter elt:Expr} {ifs:List Expr} {pos:Pos} {ix:List (Option Nat)} {wi:TI} {g:TG} {tt:TT} {te:TE} (N:List Str) (B:BlkOk X N ix scope) (hc:X.calm=true)
  (hi:PI X tg iter wi) (hg:∀ cl s H fp,PG (blkCx X N scope cl s H fp) tg g) (ht:∀ cl s H fp,PTs (blkCx X N scope cl s H fp) ifs tt) (he:∀ cl s H fp,PE (blkCx X N scope cl s H fp) elt te)
  (hs:∀ x,foldedSetIterable iter X.env x=pure x:=by intro _;rfl):PE X (.ListComp elt [⟨tg,iter,ifs,0⟩] scope pos) (tComp ix wi g tt te):=by
 intro Lc s σ H Q I h;obtain⟨cl,e1,e2,e3⟩:=BL I B;rw[eval_ListComp];refine Od (use:=none) rfl hs e1 B.kind (t6 B) ?_;refine zw (RR:=fun acc C=>compPost (model X.prog X.w) X.A X.xe none (EP X Lc σ Q) acc C) B hc hi hg ht he e2 e3 I h (fun s2 H2 fp σ3 H3 s3 I2 f2 J q=>?_) (fun a C x s' q=>q);obtain⟨m,hn,_⟩:=J.loc;exact⟨m,hn,fun h' sb=>⟨.ref _,H3,BK I2 J f2 sb,rfl,q⟩⟩
theorem oY {y:Str} {py spos:Pos} {k:Nat} {tg iter elt:Expr} {ifs:List Expr} {pos:Pos} {ix:List (Option Nat)} {wi:TI} {g:TG} {tt:TT} {te:TE} (hN:X.N.Nodup) (hy:X.N[k]? =some y) (hx:Loc X.env.scope y)
  (hsw:swapsWith (.ListComp elt [⟨tg,iter,ifs,0⟩] scope pos) (some (.Name y py)) spos.line X.env=pure true) (N:List Str) (B:BlkOk X N ix scope) (hc:X.calm=true)
  (hi:PI X tg iter wi) (hg:∀ cl s H fp,PG (blkCx X N scope cl s H fp) tg g) (ht:∀ cl s H fp,PTs (blkCx X N scope cl s H fp) ifs tt) (he:∀ cl s H fp,PE (blkCx X N scope cl s H fp) elt te)
  (hs:∀ x,foldedSetIterable iter X.env x=pure x:=by intro _;rfl) (hf:X.fn y=true\/X.env.scope.names.lookup y=some .local:=by first | exact .inl rfl | exact .inr rfl | assumption):
  PS X (.Assign [.Name y py] (.ListComp elt [⟨tg,iter,ifs,0⟩] scope pos) spos) (sComp k ix wi g tt te):=by
 intro Lc s σ H D I h;obtain⟨cl,e1,e2,e3⟩:=BL I B;rw[exec_Assign_Name_used _ _ _ _ hsw];refine LZ (OF (LZ ?_));show wpAny _ X.A (do let _ ← comprehension (.ListComp elt [⟨tg,iter,ifs,0⟩] scope pos) scope X.env _ (newList []) false (eval iter X.env) (some (assign (.Name y py) X.env))) _ _ s;refine LZ (MC (Od (use:=some (assign (.Name y py) X.env)) (Q:=fun _ s'=>SP X Lc D .next s') rfl hs e1 B.kind (t6 B) ?_) (fun _ s' hq=>Mq (Mq hq)) fun _ _ e=>e);refine zw (RR:=fun acc C=>compPost (model X.prog X.w) X.A X.xe (some (assign (.Name y py) X.env)) (fun _ s'=>SP X Lc D .next s') acc C) B hc hi hg ht he e2 e3 I h (fun s2 H2 fp σ3 H3 s3 I2 f2 J q=>?_) (fun a C x s' q=>q);obtain⟨m,hn,_⟩:=J.loc;have I3:Inv X Lc σ H3 {s3 with heap:=s3.heap}:=BK I2 J f2 (Heap.SameBut.refl _ _);show wpAny _ X.A (assign (.Name y py) X.env (.ref _)) _ _ _;refine wpAny_assign_Name (xT (v:=.ref _) I3 hN hy hx rfl (fun s4 I4 ⟨a,sb4,ha⟩=>?_) hf)
 have hlt:a<s2.heap.objs.size:=by
  rcases ha with rfl | ha
  . exact I2.lt
  . obtain⟨v,z⟩:=I2.cell _ _ ha;exact z.lt
 have hCa:s2.heap.objs.size+1≠a:=NU (MN hlt);refine⟨m,hn.sameBut sb4 hCa,fun h' sb=>?_⟩;refine⟨_,H3,I4.turned (t':=s4.toks) (it:=s2.heap.objs.size+1) (fun b o hb e=>(sb.2 b hb).trans e) J.free (NU (MN I2.lt)) (.inr (Lz I2.sz (NJ _))) (fun x c e=>?_) (fun p hp=>?_),q⟩
 . obtain⟨v,z⟩:=I2.cell x c e;exact Mi (MN z.lt)
 . exact Mi (MN (LS (I2.pin p hp).1))
end
def bnd{α:Type}:Option α->(α->Prop)->Prop
 | some a,k=>k a
 | none,_=>False
theorem be{α:Type}{o:Option α}{a:α}{k:α->Prop}(h:o=some a)(q:k a):bnd o k:=by subst h;exact q
theorem a8{α:Type}{o:Option α}{k:α->Prop}(h:bnd o k):∃ a,o=some a/\k a:=by
 cases o with
 | none=>exact h.elim
 | some a=>exact⟨a,rfl,h⟩
theorem bp{α:Type}{a:α}{k:α->Prop}:bnd (some a) k=k a:=rfl
def unM:Option HO->Option (List V)
 | some (.lst xs)=>some xs
 | _=>none
def unL:Option HO->Option (List V)
 | some (.lst xs)=>some xs
 | some (.frz _ (.lst xs))=>some xs
 | _=>none
def unS:Option HO->Option (List V)
 | some (.lst xs)=>some xs
 | some (.frz _ (.lst xs))=>some xs
 | some (.tup xs)=>some xs
 | _=>none
variable{o:Option HO}{xs:List V}
theorem gw(h:unM o=some xs):o=some (.lst xs):=by
 unfold unM at h;split at h
 . cases h;rfl
 . cases h
theorem rg{K:Frag}{H:Hp}{p:Addr}(h:unL (H p)=some xs):SqL K H p xs:=by
 unfold unL at h;split at h
 . rename_i e;cases h;exact .inl (.inl e)
 . rename_i o _ e;cases h;exact .inl (.inr ⟨_,e⟩)
 . cases h
theorem oZ{K:Frag}{H:Hp}{p:Addr}(h:unS (H p)=some xs):SqL K H p xs\/SqT K H p xs:=by
 unfold unS at h;split at h
 . rename_i e;cases h;exact .inl (.inl (.inl e))
 . rename_i o _ e;cases h;exact .inl (.inl (.inr ⟨_,e⟩))
 . rename_i e;cases h;exact .inr (.inl (.inl e))
 . cases h
mutual
inductive DV(K:Frag)(H:Hp):V->PyData->Prop
 | non:DV K H .non .none
 | bl (b:Bool):DV K H (.bl b) (.bool b)
 | int (i:Int):DV K H (.int i) (.int i)
 | str (x:Str):DV K H (.str x) (.str x)
 | lst {a:Addr} {xs:List V} {ds:List PyData}:SqL K H a xs->DVs K H xs ds->DV K H (.ref a) (.list ds)
 | tup {a:Addr} {xs:List V} {ds:List PyData}:SqT K H a xs->DVs K H xs ds->DV K H (.ref a) (.tuple ds)
inductive DVs(K:Frag)(H:Hp):List V->List PyData->Prop
 | nil:DVs K H [] []
 | cons {x:V} {d:PyData} {xs:List V} {ds:List PyData}:DV K H x d->DVs K H xs ds->DVs K H (x::xs) (d::ds)
end
section
variable{X:Cx}{Lc:List (Addr × Obj)}{σ:St}{H:Hp}{s:Shared}
mutual
theorem DV.reads(I:Inv X Lc σ H s):∀{x:V} {d:PyData} {v:Value},DV X.K H x d->RelV x v->∃ as,Reads s.heap v d as
 | _,_,_,.non,r=>by cases r;exact⟨_,.none⟩
 | _,_,_,.bl b,r=>by cases r;exact⟨_,.bool b⟩
 | _,_,_,.int i,r=>by obtain⟨t,rfl⟩:=r;exact⟨_,.int i t⟩
 | _,_,_,.str x,r=>by obtain⟨t,rfl⟩:=r;exact⟨_,.str x t⟩
 | _,_,_,.lst (a:=a) h hs,r=>by
  cases r;obtain⟨Lg,rv,p,_⟩:=I.list h;obtain⟨as,q⟩:=DVs.reads I hs rv;obtain⟨o,h1,h2,n,h3⟩:=p.isList;exact⟨_,.list h1 h2 h3 q⟩
 | _,_,_,.tup (a:=a) h hs,r=>by
  cases r;obtain⟨Lg,rv,p,_⟩:=I.tuple h;obtain⟨as,q⟩:=DVs.reads I hs rv;obtain⟨o,h1,h2,n,h3⟩:=p;exact⟨_,.tuple h1 h2 h3 q⟩
theorem DVs.reads(I:Inv X Lc σ H s):∀{xs:List V} {ds:List PyData} {us:List Value},DVs X.K H xs ds->Vals xs us->∃ as,ReadsAll s.heap us ds as
 | _,_,_,.nil,.nil=>⟨_,.nil⟩
 | _,_,_,.cons h hs,.cons r rs=>by
  obtain⟨as,q⟩:=DV.reads I h r;obtain⟨bs,q2⟩:=DVs.reads I hs rs;exact⟨_,.cons q q2⟩
end
end
theorem DVs.ints{K:Frag}{H:Hp}:∀ ns:List Int,DVs K H (ns.map V.int) (ns.map PyData.int)
 | []=>.nil
 | n::r=>.cons (.int n) (DVs.ints r)
theorem uI:∀ ns ms:List Int,PyData.eqvAll (ns.map PyData.int) (ms.map PyData.int)=decide (ns=ms):=PySem.W.ked_eqvAll
theorem pV:∀ ns:List Int,PyData.canLayAll0 (ns.map PyData.int)=true
 | []=>rfl
 | n::r=>by rw[L3,PyData.canLayAll0,pV r];rfl
theorem lT:∀ ns:List Int,PyData.depthAll (ns.map PyData.int)=0
 | []=>rfl
 | n::r=>by rw[L3,PyData.depthAll,lT r];rfl
theorem kT(ns:List Int):SeqAt.shaped (.list (ns.map PyData.int))=true:=by
 simp[SeqAt.shaped,PyData.canLay0,pV,PyData.depth,lT]
def cAdd:R2
 | .int i,.int j,H,Q=>Q (.int (i+j)) H
 | .str i,.str j,H,Q=>i.length+j.length<=sizeLine/\Q (.str (i++j)) H
 | .ref l,.ref b,H,Q=>bnd (unM (H l)) fun xs=>bnd (unM (H b)) fun zs=>xs.length+zs.length<=sizeLine/\∀ p,H p=none->Q (.ref p) (upd H p (.lst (xs++zs)))
 | _,_,_,_=>False
def cSub:R2
 | .int i,.int j,H,Q=>Q (.int (i-j)) H
 | _,_,_,_=>False
def cMul:R2
 | .int i,.int j,H,Q=>CMul i j/\Q (.int (i*j)) H
 | _,_,_,_=>False
def cDiv:R2
 | .int i,.int j,H,Q=>CDiv i j/\Q (.int (i/j)) H
 | _,_,_,_=>False
def cMod:R2
 | .int i,.int j,H,Q=>0<j/\Q (.int (i%j)) H
 | _,_,_,_=>False
def cPow:R2
 | .int i,.int j,H,Q=>CPow i j/\Q (.int (i^j.toNat)) H
 | _,_,_,_=>False
def cCmp(g:Int->Int->Bool):R2
 | .int i,.int j,H,Q=>Q (.bl (g i j)) H
 | _,_,_,_=>False
def rEqD(K:Frag):R2:=fun x y H Q=>∃ d e,DV K H x d/\DV K H y e/\SeqAt.shaped d=true/\SeqAt.shaped e=true/\Q (.bl (PyData.eqv d e)) H
def rNeD(K:Frag):R2:=fun x y H Q=>∃ d e,DV K H x d/\DV K H y e/\SeqAt.shaped d=true/\SeqAt.shaped e=true/\Q (.bl (!PyData.eqv d e)) H
def cEq(K:Frag):R2
 | .int i,.int j,H,Q=>Q (.bl (decide (i=j))) H
 | .bl i,.bl j,H,Q=>Q (.bl (decide (i=j))) H
 | .str i,.str j,H,Q=>Q (.bl (decide (i=j))) H
 | x,y,H,Q=>rEqD K x y H Q
def cNe(K:Frag):R2
 | .int i,.int j,H,Q=>Q (.bl (!decide (i=j))) H
 | .bl i,.bl j,H,Q=>Q (.bl (!decide (i=j))) H
 | .str i,.str j,H,Q=>Q (.bl (!decide (i=j))) H
 | x,y,H,Q=>rNeD K x y H Q
def rInD(K:Frag)(neg:Bool):R2:=fun x y H Q=>∃ d ds,DV K H x d/\(DV K H y (.list ds)\/DV K H y (.tuple ds))/\PyData.canLayAll0 ds=true/\PyData.canLay0 d=true/\min (PyData.depthAll ds) d.depth<=62/\
 Q (.bl (if neg then !ds.any (fun y=>PyData.eqv y d) else ds.any fun y=>PyData.eqv y d)) H
def keyOf:V->Option Key
 | .int i=>some (.inl i)
 | .str x=>some (.inr x)
 | _=>none
def unD:Option HO->Option (List (Key × V))
 | some (.dK Lf)=>some Lf
 | _=>none
def cIn(K:Frag)(neg:Bool):R2
 | .ref a,y,H,Q=>rInD K neg (.ref a) y H Q
 | x,.ref p,H,Q=>(match unD (H p) with
  | some Lf=>bnd (keyOf x) fun k=>Q (.bl (if neg then !(valV Lf k).isSome else(valV Lf k).isSome)) H
  | none=>bnd (unS (H p)) fun xs=>flatV x=true/\xs.all flatV=true/\Q (.bl (if neg then !inV x xs else inV x xs)) H)
 | .str i,.str j,H,Q=>Q (.bl (if neg then !(!(Builtin.Str.occurrences j i 0 j.length 1).isEmpty) else !(Builtin.Str.occurrences j i 0 j.length 1).isEmpty)) H
 | _,_,_,_=>False
def cIx:R2
 | .ref p,y,H,Q=>(match unD (H p) with
  | some Lf=>bnd (keyOf y) fun k=>bnd (valV Lf k) fun v=>Q v H
  | none=>match y with
   | .int i=>bnd (unS (H p)) fun xs=>bnd (atI xs i) fun v=>Q v H
   | _=>False)
 | .str z,.int i,H,Q=>z.length<=sizeLine/\bnd (atI z.cps.toList i) fun c=>Q (.str ⟨#[c]⟩) H
 | _,_,_,_=>False
theorem vv{Lf:List (Key × V)}(h:unD o=some Lf):o=some (.dK Lf):=by
 unfold unD at h;split at h
 . cases h;rfl
 . cases h
theorem uJ{x:V}{k:Key}(h:keyOf x=some k):x=kV k:=by
 unfold keyOf at h;split at h
 . cases h;rfl
 . cases h;rfl
 . cases h
section
variable{X:Cx}{a b c:Expr}{ta tb tc:TE}{pos:Pos}
theorem aw:OpR X (binaryOp .Add) cAdd:=by
 intro Lc s σ H x y v u Q I rx ry h;unfold cAdd at h
 split at h
 . exact GE Lc s σ H _ _ v u Q I rx ry ⟨_,_,rfl,rfl,h⟩
 . exact Ca Lc s σ H _ _ v u Q I rx ry ⟨_,_,rfl,rfl,h.1,h.2⟩
 . obtain⟨xs,e1,h⟩:=a8 h;obtain⟨zs,e2,h⟩:=a8 h;exact GR Lc s σ H _ _ v u Q I rx ry ⟨_,_,xs,zs,rfl,rfl,gw e1,gw e2,h.1,h.2⟩
 . exact h.elim
theorem aZ:OpR X (binaryOp .Sub) cSub:=by
 intro Lc s σ H x y v u Q I rx ry h;unfold cSub at h
 split at h
 . exact GF Lc s σ H _ _ v u Q I rx ry ⟨_,_,rfl,rfl,h⟩
 . exact h.elim
theorem cS:OpR X (binaryOp .Mult) cMul:=by
 intro Lc s σ H x y v u Q I rx ry h;unfold cMul at h
 split at h
 . exact GG Lc s σ H _ _ v u Q I rx ry ⟨_,_,rfl,rfl,h.1,h.2⟩
 . exact h.elim
theorem bC:OpR X (binaryOp .FloorDiv) cDiv:=by
 intro Lc s σ H x y v u Q I rx ry h;unfold cDiv at h
 split at h
 . exact FI Lc s σ H _ _ v u Q I rx ry ⟨_,_,rfl,rfl,h.1,h.2⟩
 . exact h.elim
theorem aL:OpR X (binaryOp .Mod) cMod:=by
 intro Lc s σ H x y v u Q I rx ry h;unfold cMod at h
 split at h
 . exact GH Lc s σ H _ _ v u Q I rx ry ⟨_,_,rfl,rfl,h.1,h.2⟩
 . exact h.elim
theorem tm{op:CmpOp}{g:Int->Int->Bool}(o:OpR X (compareOp op) (rI0 fun i j=>.bl (g i j))):OpR X (compareOp op) (cCmp g):=by
 intro Lc s σ H x y v u Q I rx ry h;unfold cCmp at h
 split at h
 . exact o Lc s σ H _ _ v u Q I rx ry ⟨_,_,rfl,rfl,h⟩
 . exact h.elim
theorem cc:OpR X (compareOp .Lt) (cCmp fun i j=>decide (i<j)):=tm HE
theorem gx:OpR X (compareOp .LtE) (cCmp fun i j=>decide (i<=j)):=tm HF
theorem dw:OpR X (compareOp .Gt) (cCmp fun i j=>decide (j<i)):=tm HG
theorem vw:OpR X (compareOp .GtE) (cCmp fun i j=>decide (j<=i)):=tm HH
theorem GV(hu:X.A.units+64<cLine):OpR X (compareOp .Eq) (rEqD X.K):=by
 intro Lc s σ H x y v u Q I rx ry h;obtain⟨d,e,h1,h2,h3,h4,q⟩:=h;obtain⟨as,r1⟩:=h1.reads I rx;obtain⟨bs,r2⟩:=h2.reads I ry;exact eq_dataH r1 r2 h3 h4 hu ⟨.bl _,H,I,rfl,q⟩
theorem GW(hu:X.A.units+64<cLine):OpR X (compareOp .NotEq) (rNeD X.K):=by
 intro Lc s σ H x y v u Q I rx ry h;obtain⟨d,e,h1,h2,h3,h4,q⟩:=h;obtain⟨as,r1⟩:=h1.reads I rx;obtain⟨bs,r2⟩:=h2.reads I ry;exact ne_dataH r1 r2 h3 h4 hu ⟨.bl _,H,I,rfl,q⟩
theorem av(hu:X.A.units+64<cLine):OpR X (compareOp .Eq) (cEq X.K):=by
 intro Lc s σ H x y v u Q I rx ry h;unfold cEq at h
 split at h
 . refine B8 Lc s σ H _ _ v u Q I rx ry ⟨rfl,?_⟩
   simpa using h
 . refine B8 Lc s σ H _ _ v u Q I rx ry ⟨rfl,?_⟩
   simpa using h
 . refine B8 Lc s σ H _ _ v u Q I rx ry ⟨rfl,?_⟩
   simpa using h
 . exact GV hu Lc s σ H _ _ v u Q I rx ry h
theorem aX(hu:X.A.units+64<cLine):OpR X (compareOp .NotEq) (cNe X.K):=by
 intro Lc s σ H x y v u Q I rx ry h;unfold cNe at h
 split at h
 . refine B9 Lc s σ H _ _ v u Q I rx ry ⟨rfl,?_⟩
   simpa using h
 . refine B9 Lc s σ H _ _ v u Q I rx ry ⟨rfl,?_⟩
   simpa using h
 . refine B9 Lc s σ H _ _ v u Q I rx ry ⟨rfl,?_⟩
   simpa using h
 . exact GW hu Lc s σ H _ _ v u Q I rx ry h
theorem GX(hu:X.A.units+64<cLine):OpR X (compareOp .In) (rInD X.K false):=by
 intro Lc s σ H x y v u Q I rx ry h;obtain⟨d,ds,h1,h2,h3,h4,h5,q⟩:=h;obtain⟨as,r1⟩:=h1.reads I rx;rcases h2 with h2 | h2
 . obtain⟨bs,r2⟩:=h2.reads I ry;exact SeqAt.in_list_reads r2 r1 h3 h4 (by omega) ⟨.bl _,H,I,rfl,q⟩
 . obtain⟨bs,r2⟩:=h2.reads I ry;exact SeqAt.in_tuple_reads r2 r1 h3 h4 (by omega) ⟨.bl _,H,I,rfl,q⟩
theorem DE(hu:X.A.units+64<cLine):OpR X (compareOp .NotIn) (rInD X.K true):=by
 intro Lc s σ H x y v u Q I rx ry h;obtain⟨d,ds,h1,h2,h3,h4,h5,q⟩:=h;obtain⟨as,r1⟩:=h1.reads I rx;rcases h2 with h2 | h2
 . obtain⟨bs,r2⟩:=h2.reads I ry;exact SeqAt.notIn_list_reads r2 r1 h3 h4 (by omega) ⟨.bl _,H,I,rfl,q⟩
 . obtain⟨bs,r2⟩:=h2.reads I ry;exact SeqAt.notIn_tuple_reads r2 r1 h3 h4 (by omega) ⟨.bl _,H,I,rfl,q⟩
theorem iD(hu:X.A.units+64<cLine):OpR X (compareOp .In) (cIn X.K false):=by
 intro Lc s σ H x y v u Q I rx ry h;unfold cIn at h
 split at h
 . exact GX hu Lc s σ H _ _ v u Q I rx ry h
 . rename_i p hx
   split at h
   . rename_i Lf e
     obtain⟨k,ek,q⟩:=a8 h;cases (show u=Value.ref p from ry);have g:DGet H p x (valV Lf k):=by rw[uJ ek];exact DGet.k (vv e)
     exact HX (MD (Np (by decide:1<=64) _) hu) I g rx fun s' I'=>⟨.bl _,H,I',rfl,q⟩
   . obtain⟨xs,e,f1,f2,q⟩:=a8 h;exact rb Lc s σ H _ _ v u Q I rx ry ⟨p,xs,rfl,oZ e,f1,f2,q⟩
 . exact Dn Lc s σ H _ _ v u Q I rx ry ⟨_,_,rfl,rfl,h⟩
 . exact h.elim
theorem cx(hu:X.A.units+64<cLine):OpR X (compareOp .NotIn) (cIn X.K true):=by
 intro Lc s σ H x y v u Q I rx ry h;unfold cIn at h
 split at h
 . exact DE hu Lc s σ H _ _ v u Q I rx ry h
 . rename_i p hx
   split at h
   . rename_i Lf e
     obtain⟨k,ek,q⟩:=a8 h;cases (show u=Value.ref p from ry);have g:DGet H p x (valV Lf k):=by rw[uJ ek];exact DGet.k (vv e)
     exact FU (MD (Np (by decide:1<=64) _) hu) I g rx fun s' I'=>⟨.bl _,H,I',rfl,q⟩
   . obtain⟨xs,e,f1,f2,q⟩:=a8 h;exact rd Lc s σ H _ _ v u Q I rx ry ⟨p,xs,rfl,oZ e,f1,f2,q⟩
 . exact zn Lc s σ H _ _ v u Q I rx ry ⟨_,_,rfl,rfl,h⟩
 . exact h.elim
end
section
variable{X:Cx}{a b c:Expr}{ta tb tc:TE}{pos:Pos}
theorem E7(hu:X.A.units+64<cLine):IxR X cIx:=by
 intro value slice Lc s σ H x y v u Q I rx ry h hs
 cases x with
 | ref p=>
  unfold cIx at h;dsimp only at h
  split at h
  . rename_i Lf e
    obtain⟨k,ek,h⟩:=a8 h;obtain⟨z,ez,q⟩:=a8 h;cases (show v=Value.ref p from rx);have g:DGet H p y (some z):=by rw[uJ ek,← ez];exact DGet.k (vv e)
    exact tail_any (A9 I g) N4.lookup (Dy (MD (Np (by decide:1<=64) _) hu) I g ry fun w' s3 I3 rw'=>⟨z,H,I3,rw',q⟩) hs
  . split at h
    . obtain⟨xs,e,h⟩:=a8 h;obtain⟨z,ez,q⟩:=a8 h;rcases oZ (K:=X.K) e with r | r
      . exact BG value slice Lc s σ H _ _ v u Q I rx ry ⟨p,xs,_,z,rfl,rfl,r,ez,q⟩ hs
      . exact GM value slice Lc s σ H _ _ v u Q I rx ry ⟨p,xs,_,z,rfl,rfl,r,ez,q⟩ hs
    . exact h.elim
 | str zz=>
  cases y with
  | int i=>
   obtain⟨hz,h⟩:=(show zz.length<=sizeLine/\bnd (atI zz.cps.toList i) fun c=>Q (.str ⟨#[c]⟩) H from h);obtain⟨z,ez,q⟩:=a8 h;exact GN value slice Lc s σ H _ _ v u Q I rx ry ⟨_,_,z,rfl,rfl,hz,ez,q⟩ hs
  | _=>exact False.elim h
 | _=>exact False.elim h
def kLen:List V->Hp->VK->Prop
 | [.ref p],H,Q=>(match unD (H p) with
  | some Lf=>Q (.int Lf.length) H
  | none=>bnd (unS (H p)) fun xs=>Q (.int xs.length) H)
 | [.str z],H,Q=>z.length<=sizeLine/\Q (.int z.length) H
 | _,_,_=>False
theorem ax:CallR X (.builtin "len") kLen:=by
 intro Lc s σ H xs us Q I r h;unfold kLen at h
 split at h
 . split at h
   . rename_i Lf e
     exact DA Lc s σ H _ us Q I r ⟨_,Lf,rfl,vv e,h⟩
   . obtain⟨ys,e,q⟩:=a8 h;exact gu Lc s σ H _ us Q I r ⟨_,ys,rfl,oZ e,q⟩
 . exact zo Lc s σ H _ us Q I r ⟨_,rfl,h.1,h.2⟩
 . exact h.elim
def kAbs:List V->Hp->VK->Prop
 | [.int i],H,Q=>Q (.int (if i<0 then -i else i)) H
 | _,_,_=>False
def kMin:List V->Hp->VK->Prop
 | [.int i,.int j],H,Q=>Q (.int (if j<i then j else i)) H
 | _,_,_=>False
theorem no(hc:X.calm=true):CallR X (.builtin "min") kMin:=by
 intro Lc s σ H xs us Q I r h;unfold kMin at h
 split at h
 . exact Dp hc Lc s σ H _ us Q I r ⟨_,_,rfl,h⟩
 . exact h.elim
def kMax:List V->Hp->VK->Prop
 | [.int i,.int j],H,Q=>Q (.int (if j>i then j else i)) H
 | _,_,_=>False
theorem DF(hc:X.calm=true):CallR X (.builtin "max") kMax:=by
 intro Lc s σ H xs us Q I r h;unfold kMax at h
 split at h
 . exact Do hc Lc s σ H _ us Q I r ⟨_,_,rfl,h⟩
 . exact h.elim
def kList:List V->Hp->VK->Prop
 | [.ref p],H,Q=>bnd (unS (H p)) fun ys=>∀ l,H l=none->Q (.ref l) (upd H l (.lst ys))
 | _,_,_=>False
theorem c9:CallR X (.type "list") kList:=by
 intro Lc s σ H xs us Q I r h;unfold kList at h
 split at h
 . obtain⟨ys,e,q⟩:=a8 h;exact zp Lc s σ H _ us Q I r ⟨_,ys,rfl,oZ e,q⟩
 . exact h.elim
def tp:List V->Hp->VK->Prop
 | [.ref p],H,Q=>bnd (unL (H p)) fun ys=>∃ ns:List Int,ys=ns.map V.int/\ns.length<64/\∀(ns':List Int) l,H l=none->ns'.Perm ns->ns'.Pairwise (· <=·)->Q (.ref l) (upd H l (.lst (ns'.map V.int)))
 | _,_,_=>False
theorem zx:CallR X (.builtin "sorted") tp:=by
 intro Lc s σ H xs us Q I r h;unfold tp at h
 split at h
 . rename_i p
   obtain⟨ys,e,ns,rfl,Lj,q⟩:=a8 h;obtain⟨u,rfl,ru⟩:=dv r;cases ru;obtain⟨Lg,rv,pl,hz⟩:=I.list (rg e);have hI:IntsAre Lg ns:=vo rv;have hl:=rv.length;rw[Lp] at hl;refine sorted_ints pl.isList hI (by omega) fun out ns' hI' hp hs=>?_;have old:∀ b o,s.heap.get? b=some o->(sortedAll s.heap Lg out).get? b=some o:=fun b o e=>sortedAll_old e;obtain⟨n,at_⟩:=sortedAll_at s.heap Lg out;have hfresh:H (s.heap.objs.size+1)=none:=I.hok.fresh (NJ _)
   have hlen':(ns'.map V.int).length<=sizeLine:=by
    rw[Lp,hp.length_eq];exact Mj (Nat.lt_trans Lj (by decide))
   refine⟨.ref (s.heap.objs.size+1),_,I.laid (t':=s.toks) (a:=s.heap.objs.size+1) (o:=.lst (ns'.map V.int)) old (NJ _) ⟨hlen',out.toList,n,re hI',?_⟩,rfl,q ns' _ hfresh hp hs⟩;rw[at_]
 . exact h.elim
def mr(H:Hp):V->Option String
 | .non=>some "NoneType"
 | .bl _=>some "bool"
 | .int _=>some "int"
 | .str _=>some "str"
 | .ref p=>match H p with
  | some (.lst _)=>some "list"
  | some (.frz _ (.lst _))=>some "list"
  | some (.tup _)=>some "tuple"
  | some (.dK _)=>some "dict"
  | _=>none
 | _=>none
def isTy(t n:String):Bool:=t==n||(t=="bool"&&n=="int")
def tq(n:String):Bool:=["int","bool","str","list","tuple","dict"].contains n
theorem DG{K:Frag}{H:Hp}{x:V}{t:String}(h:mr H x=some t):TyOf K H x (.type t)/\["NoneType","int","bool","str","list","tuple","dict"].contains t=true:=by
 cases x with
 | non=>cases h;exact⟨.non,by decide⟩
 | bl b=>cases h;exact⟨.bl b,by decide⟩
 | int i=>cases h;exact⟨.int i,by decide⟩
 | str i=>cases h;exact⟨.str i,by decide⟩
 | byt _=>cases h
 | flt _=>cases h
 | ty _=>cases h
 | ref p=>
  unfold mr at h;dsimp only at h
  split at h
  . rename_i e;cases h;exact⟨.lst e,by decide⟩
  . rename_i e;cases h;exact⟨.frz e,by decide⟩
  . rename_i e;cases h;exact⟨.tup e,by decide⟩
  . rename_i e;cases h;exact⟨.dK e,by decide⟩
  . cases h
theorem GY(K:Frag):∀ t∈["NoneType","int","bool","str","list","tuple","dict"],∀ n∈["int","bool","str","list","tuple","dict"],PySem.W.kitOne K (.type t) (.type n)=some (isTy t n):=by
 intro t ht n hn;simp only[LW,M4,OD] at ht hn;rcases ht with rfl | rfl | rfl | rfl | rfl | rfl | rfl <;> rcases hn with rfl | rfl | rfl | rfl | rfl | rfl <;> rfl
def kIsi:List V->Hp->VK->Prop
 | [x,.ty n],H,Q=>tq n=true/\bnd (mr H x) fun t=>Q (.bl (isTy t n)) H
 | _,_,_=>False
theorem cy:CallR X (.builtin "isinstance") kIsi:=by
 intro Lc s σ H xs us Q I r h;unfold kIsi at h
 split at h
 . obtain⟨hn,h⟩:=h;obtain⟨t,et,q⟩:=a8 h;obtain⟨u,w,rfl,ru,rw'⟩:=y9 r;cases rw';obtain⟨ty,ht⟩:=DG (K:=X.K) et;exact Ds I ru ty (GY X.K t (by simpa using ht) _ (by simpa [tq] using hn)) fun tk=>⟨.bl _,H,I.tok tk,rfl,q⟩
 . exact h.elim
def bD:V->List V->Hp->VK->Prop
 | .ref l,[y],H,Q=>bnd (unM (H l)) fun xs=>xs.length<sizeLine/\Q .non (upd H l (.lst (xs++[y])))
 | _,_,_,_=>False
theorem bH:MtR X "list.append" bD:=by
 intro Lc s σ H x vs v us Q I rx rv h;unfold bD at h
 split at h
 . obtain⟨xs,e,h1,q⟩:=a8 h;exact yc Lc s σ H _ _ v us Q I rx rv ⟨_,xs,_,rfl,rfl,gw e,h1,q⟩
 . exact h.elim
def tu:V->List V->Hp->VK->Prop
 | .ref l,[.ref b],H,Q=>bnd (unM (H l)) fun xs=>bnd (unM (H b)) fun zs=>xs.length+zs.length<=sizeLine/\Q .non (upd H l (.lst (xs++zs)))
 | _,_,_,_=>False
theorem Ch:MtR X "list.extend" tu:=by
 intro Lc s σ H x vs v us Q I rx rv h;unfold tu at h
 split at h
 . obtain⟨xs,e,h⟩:=a8 h;obtain⟨zs,e2,h1,q⟩:=a8 h;exact Dw Lc s σ H _ _ v us Q I rx rv ⟨_,_,xs,zs,rfl,rfl,gw e,gw e2,h1,q⟩
 . exact h.elim
def vx:V->List V->Hp->VK->Prop
 | .ref l,[],H,Q=>bnd (unM (H l)) fun _=>Q .non (upd H l (.lst []))
 | _,_,_,_=>False
theorem DH:MtR X "list.clear" vx:=by
 intro Lc s σ H x vs v us Q I rx rv h;unfold vx at h
 split at h
 . obtain⟨xs,e,q⟩:=a8 h;exact E4 Lc s σ H _ _ v us Q I rx rv ⟨_,xs,rfl,rfl,gw e,q⟩
 . exact h.elim
theorem bA{K:Frag}{H:Hp}{p:Addr}{xs:List V}(h:H p=some (.lst xs)):tyV K "list" (.ref p) H:=.inl ⟨rfl,_,LH h⟩
def cSl:V->Option Int->Option Int->Hp->VK->Prop
 | .ref p,lo,hi,H,Q=>bnd (unL (H p)) fun xs=>∀ l,H l=none->Q (.ref l) (upd H l (.lst (cutV xs lo hi)))
 | _,_,_,_,_=>False
theorem HY:SlR X cSl:=by
 intro Lc s σ H x v vl vu lo hi sl Q I rx hs pl pu h;unfold cSl at h
 split at h
 . obtain⟨xs,e,q⟩:=a8 h;exact FP Lc s σ H _ v vl vu lo hi sl Q I rx hs pl pu ⟨_,xs,rfl,rg e,q⟩
 . exact h.elim
end
structure Cal(P:Program)(w:World)(K:Frag)(mg:Str->Option Value)(base:Heap)(k:Nat)(x:Str)(ps:List Str)(sp:Sp):Prop where
 ex:∃(f:Addr) (fd:FuncData),FnOk P w K mg base CX0 k f fd ps sp/\mg x=some (.ref f)/\keepIn K (.ref f)=true/\Binds K fd ps []
theorem GZ {X:Cx} {k n:Nat} {x:Str} {ps:List Str} {sp:Sp} {p pos:Pos} {e:Expr} {es:List Expr} {t:TA} (C:Cal X.prog X.w X.K X.mg X.base k x ps sp) (hr:Room n X.A) (hk:k<=n) (hg:Gl X x) (ha:PA X (e::es) t)
  (hdb:(x==("__debug__":Str))=false:=by decide) (he:starEach (e::es) X.env=(false,eval e X.env)::starEach es X.env:=by rfl) (hpl:(backTo pos (starEach es X.env)).any (·.1)=false:=by rfl):
  PE X (.Call (.Name x p) (e::es) [] pos) (tCall sp [] E0 t):=by
 obtain⟨f,fd,F,hm,hkp,hb⟩:=C.ex;exact FM F (hr.mono hk) hg hm hkp hb .nil za ha hdb he hpl
theorem aG:bootBuiltins "len"=some (.builtin "len"):=by decide+kernel
theorem vy:bootBuiltins "min"=some (.builtin "min"):=by decide+kernel
theorem G0:bootBuiltins "max"=some (.builtin "max"):=by decide+kernel
theorem DI:bootBuiltins "sorted"=some (.builtin "sorted"):=by decide+kernel
theorem zy:bootBuiltins "any"=some (.builtin "any"):=by decide+kernel
theorem bj:bootBuiltins "isinstance"=some (.builtin "isinstance"):=by decide+kernel
theorem dj:bootBuiltins "list"=some (.type "list"):=by decide+kernel
theorem vz:bootBuiltins "int"=some (.type "int"):=by decide+kernel
theorem BM:bootBuiltins "bool"=some (.type "bool"):=by decide+kernel
theorem jp:bootBuiltins "str"=some (.type "str"):=by decide+kernel
theorem mt:bootBuiltins "tuple"=some (.type "tuple"):=by decide+kernel
def compN(scope:Scope):List Str:=(scope.names.filter fun p=>p.2==.local||p.2==.cell||p.2==.free).map (·.1)
def vA(N:List Str)(scope:Scope):List (Option Nat):=(compN scope).map fun x=>if scope.names.lookup x==some .free then N.findIdx? (· ==x) else none
def isCF:Option NameKind->Bool
 | some .cell=>true
 | some .free=>true
 | _=>false
theorem G1{X:Cx}{scope:Scope}(h1:scope.kind=.function)(h2:(scope.names.map (·.1)).Nodup)(h3:(scope.names.all fun p=>p.2 != .free||isCF (X.env.kindOf p.1))=true):BlkOk X (compN scope) (vA X.N scope) scope where
 kind:=h1
 nd:=h2.sublist (List.Sublist.map _ (List.filter_sublist ..))
 len:=by unfold vA;rw[Lp]
 names:=h2
 free:=fun x hx=>by
  have:=LM.mp h3 (x,.free) hx;simp only[bne_self_eq_false,MK] at this;unfold isCF at this
  split at this
  . rename_i e;exact .inl e
  . rename_i e;exact .inr e
  . cases this
 at_:=fun j i x e1 e2=>by
  unfold vA at e2;rw[Lu,e1] at e2;simp only[Option.map_some,Option.some.injEq] at e2
  split at e2
  . rename_i hf
    obtain⟨hlt,hp,_⟩:=List.findIdx?_eq_some_iff_getElem.mp e2
    have hx:X.N[i]? =some x:=by
     rw[Lq hlt];have:X.N[i]=x:=by simpa using hp
     rw[this]
    refine⟨hx,MA (by simpa using hf)⟩
  . cases e2
section
variable{t u:TS}{D:Ends}{σ:St}{H:Hp}{Q:VK}{ta tb:TE}{R:Bool->Hp->Prop}{c d:TT}
theorem ay:tSeq t u D σ H=t {D with nx:=u D} σ H:=rfl
theorem ce:tNext D σ H=D.nx σ H:=rfl
theorem bI{g:TG}:tAsg ta g D σ H=ta σ H fun x H1=>g x σ H1 D.nx:=rfl
theorem aR{i:Nat}{v:V}{k:St->Hp->Prop}:gName i v σ H k=k (σ.set i (some v)) H:=rfl
theorem Fz{i:Nat}:tVar i σ H Q=∃ v,σ[i]? =some (some v)/\Q v H:=propext ⟨Fx,fun⟨_,e,h⟩=>pR e h⟩
theorem cA{v:V}{σ:St}:tVar 0 (some v::σ) H Q=Q v H:=rfl
theorem cB{i:Nat}{a:Option V}{σ:St}:tVar (i+1) (a::σ) H Q=tVar i σ H Q:=rfl
theorem w_c{v:V}:tC v σ H Q=Q v H:=rfl
theorem fF{r:R2}:tOp r ta tb σ H Q=ta σ H fun x H1=>tb σ H1 fun y H2=>r x y H2 Q:=rfl
theorem ca:tRet ta D σ H=ta σ H D.rt:=rfl
theorem cC:tRetN D σ H=D.rt .non H:=rfl
theorem cf:tDrop ta D σ H=ta σ H fun _ H1=>D.nx σ H1:=rfl
theorem aB:tIfS c t u D σ H=c σ H fun b H1=>if b=true then t D σ H1 else u D σ H1:=rfl
theorem cD:tTest ta σ H R=ta σ H fun x H'=>∃ k,x=.bl k/\R k H':=rfl
theorem w_b:tB ta σ H R=ta σ H fun x H'=>∃ k,x=.bl k/\R k H':=rfl
theorem w_not:tNot c σ H R=c σ H fun k H1=>R (!k) H1:=rfl
theorem dy:tAnd c d σ H R=c σ H fun k H1=>if k=true then d σ H1 R else R false H1:=rfl
theorem gy:tOr c d σ H R=c σ H fun k H1=>if k=true then R true H1 else d σ H1 R:=rfl
theorem cE:tNotV ta σ H Q=ta σ H fun x H1=>∃ c,x=.bl c/\Q (.bl (!c)) H1:=rfl
theorem cF:tAndV ta tb σ H Q=ta σ H fun x H1=>∃ c,x=.bl c/\if c=true then tb σ H1 Q else Q (.bl false) H1:=rfl
theorem dz:tOrV ta tb σ H Q=ta σ H fun x H1=>∃ c,x=.bl c/\if c=true then Q (.bl true) H1 else tb σ H1 Q:=rfl
theorem da{k:List V->Hp->Prop}:tNil σ H k=k [] H:=rfl
theorem bR{tr:TA}{k:List V->Hp->Prop}:tCons ta tr σ H k=ta σ H fun x H1=>tr σ H1 fun xs H2=>k (x::xs) H2:=rfl
theorem gz{r:List V->Hp->VK->Prop}{tr:TA}:tCB r tr σ H Q=tr σ H fun vs H1=>r vs H1 Q:=rfl
theorem cG{sp:Sp}{dvs:List V}{E:XK}{tr:TA}:tCall sp dvs E tr σ H Q=tr σ H fun vs H1=>sp (vs++dvs) H1 Q E:=rfl
theorem dA{tr:TA}:tTup tr σ H Q=tr σ H fun xs H1=>xs.length<=sizeLine/\∀ p,H1 p=none->Q (.ref p) (upd H1 p (.tup xs)):=rfl
theorem db{tr:TA}:tLst tr σ H Q=tr σ H fun xs H1=>xs.length<=sizeLine/\∀ p,H1 p=none->Q (.ref p) (upd H1 p (.lst xs)):=rfl
theorem fG{K:Frag}{T:String}{r:V->List V->Hp->VK->Prop}{tr:TA}:tBM K T r ta tr σ H Q=ta σ H fun x H1=>tyV K T x H1/\tr σ H1 fun xs H2=>r x xs H2 Q:=rfl
theorem dB{K:Frag}{T:String}{r:V->List V->Hp->VK->Prop}:zq K T r ta σ H Q=ta σ H fun x H1=>tyV K T x H1/\r x [] H1 Q:=rfl
theorem cg:tTrue σ H R=R true H:=rfl
theorem cH:GU σ H Q=∀ p,H p=none->Q (.ref p) (upd H p (.dK [])):=rfl
theorem cI{td ty tv:TE}:sDPut td ty tv D σ H=tv σ H fun v H1=>td σ H1 fun x H2=>ty σ H2 fun y H3=>∃ a H4,x=.ref a/\DPut H3 a y v H4/\D.nx σ H4:=rfl
theorem dC{i j:Int}:cAdd (.int i) (.int j) H Q=Q (.int (i+j)) H:=rfl
theorem dD{i j:Int}:cSub (.int i) (.int j) H Q=Q (.int (i-j)) H:=rfl
theorem dE{i j:Int}:cMul (.int i) (.int j) H Q=(CMul i j/\Q (.int (i*j)) H):=rfl
theorem dF{i j:Int}:cDiv (.int i) (.int j) H Q=(CDiv i j/\Q (.int (i/j)) H):=rfl
theorem dG{i j:Int}:cMod (.int i) (.int j) H Q=(0<j/\Q (.int (i%j)) H):=rfl
theorem dH{g:Int->Int->Bool}{i j:Int}:cCmp g (.int i) (.int j) H Q=Q (.bl (g i j)) H:=rfl
theorem dI{K:Frag}{i j:Int}:cEq K (.int i) (.int j) H Q=Q (.bl (decide (i=j))) H:=rfl
theorem dJ{K:Frag}{i j:Int}:cNe K (.int i) (.int j) H Q=Q (.bl (!decide (i=j))) H:=rfl
theorem dL{K:Frag}{i j:Bool}:cEq K (.bl i) (.bl j) H Q=Q (.bl (decide (i=j))) H:=rfl
theorem dM{K:Frag}{i j:Bool}:cNe K (.bl i) (.bl j) H Q=Q (.bl (!decide (i=j))) H:=rfl
theorem iK{p:Addr}{i:Int}{xs:List V}(h:H p=some (.tup xs)):cIx (.ref p) (.int i) H Q=bnd (atI xs i) fun v=>Q v H:=by
 unfold cIx;dsimp only;rw[h];rfl
theorem FA{p:Addr}{i:Int}{xs:List V}(h:H p=some (.lst xs)):cIx (.ref p) (.int i) H Q=bnd (atI xs i) fun v=>Q v H:=by
 unfold cIx;dsimp only;rw[h];rfl
theorem dN{i:Int}:kAbs [.int i] H Q=Q (.int (if i<0 then -i else i)) H:=rfl
theorem dO{i j:Int}:kMin [.int i,.int j] H Q=Q (.int (if j<i then j else i)) H:=rfl
theorem aN{p:Addr}{xs:List V}(h:H p=some (.lst xs)):kLen [.ref p] H Q=Q (.int xs.length) H:=by
 unfold kLen;dsimp only;rw[h];rfl
theorem zA{p:Addr}{xs:List V}(h:H p=some (.tup xs)):kLen [.ref p] H Q=Q (.int xs.length) H:=by
 unfold kLen;dsimp only;rw[h];rfl
theorem gA{p:Addr}{xs:List V}{y:V}(h:H p=some (.lst xs)):bD (.ref p) [y] H Q=(xs.length<sizeLine/\Q .non (upd H p (.lst (xs++[y])))):=by
 unfold bD;dsimp only;rw[h];rfl
theorem rh:∀ ns:List Int,(ns.map V.int).all flatV=true
 | []=>rfl
 | n::r=>by rw[L3,NH,rh r];rfl
theorem uK(i:Int):∀ ns:List Int,inV (.int i) (ns.map V.int)=decide (i∈ns)
 | []=>by simp[inV]
 | n::r=>by
  have ih:=uK i r;unfold inV at ih ⊢;rw[L3,Nd,ih];show((n==i)||decide (i∈r))=decide (i∈n::r);rw[LV,Ow,Ni,Lw,Lw,LW];exact⟨fun h=>h.elim (fun e=>.inl e.symm) .inr,fun h=>h.elim (fun e=>.inl e.symm) .inr⟩
theorem pW{K:Frag}{p:Addr}{i:Int}{ns:List Int}(h:H p=some (.lst (ns.map V.int))):cIn K false (.int i) (.ref p) H Q=Q (.bl (decide (i∈ns))) H:=by
 unfold cIn;dsimp only;rw[h];dsimp only[unD,unS,bnd];rw[uK,rh];simp[flatV]
theorem jq{K:Frag}{p:Addr}{i:Int}{ns:List Int}(h:H p=some (.lst (ns.map V.int))):cIn K true (.int i) (.ref p) H Q=Q (.bl (!decide (i∈ns))) H:=by
 unfold cIn;dsimp only;rw[h];dsimp only[unD,unS,bnd];rw[uK,rh];simp[flatV]
end
def LoopR(J:It)(g:TG)(tb:TS)(D:Ends)(σ:St)(H1:Hp):Prop:=∃ W:Nat->Nat->St->Hp->Prop,(∃ m,W 0 m σ H1)/\∀ i m σ H,W i m σ H->
 (J.stop i H/\D.nx σ H)\/(J.go i H/\∃ N:St->Hp->Prop,(∀ σ' H',N σ' H'->∃ m',m'<m/\W (i+1) m' σ' H')/\∀ x H',J.yld i H x H'->g x σ H' fun σ2 H2=>tb {D with nx:=N,ct:=N,bk:=D.nx} σ2 H2)
def CompR(J:It)(g:TG)(tt:TT)(te:TE)(fin:Addr->Hp->Prop)(σ0:St)(H1:Hp):Prop:=∀ l,H1 l=none->
 ∃ W:Nat->Nat->St->Hp->Prop,(∃ m,W 0 m σ0 (upd H1 l (.lst [])))/\∀ i m σ' H',W i m σ' H'->
  (J.stop i H'/\fin l H')\/(J.go i H'/\∃ N:St->Hp->Prop,(∀ σ'' H'',N σ'' H''->∃ m',m'<m/\W (i+1) m' σ'' H'')/\∀ x H2,J.yld i H' x H2->g x σ' H2 fun σ2 H3=>tt σ2 H3 fun b H4=>
   if b=true then te σ2 H4 fun y H5=>∃ ys,H5 l=some (.lst ys)/\ys.length<sizeLine/\N σ2 (upd H5 l (.lst (ys++[y]))) else N σ2 H4)
section
variable{K:Frag}{g:TG}{tb:TS}{D:Ends}{σ:St}{H:Hp}{tl:TE}{ta:TA}{ix:List (Option Nat)}{tt:TT}{te:TE}{k:Nat}{Q:VK}
theorem cJ:tFor (iList K tl) g tb D σ H=tl σ H fun x H1=>∃ a,x=.ref a/\(∃ xs,SqL K H1 a xs)/\LoopR (Itl K a) g tb D σ H1:=rfl
theorem bK:tFor (fD ta) g tb D σ H=ta σ H fun vs H1=>∃ j:Int,vs=[.int j]/\ -(2^62)<=j/\j<2^62/\LoopR (Itr 0 j.toNat) g tb D σ H1:=rfl
theorem bL:tFor (sW ta) g tb D σ H=ta σ H fun vs H1=>∃ i j:Int,vs=[.int i,.int j]/\(-(2^62)<=i/\i<2^62/\ -(2^62)<=j/\j<2^62)/\LoopR (Itr i (j-i).toNat) g tb D σ H1:=rfl
theorem br:tComp ix (iList K tl) g tt te σ H Q=tl σ H fun x H1=>∃ a,x=.ref a/\(∃ xs,SqL K H1 a xs)/\CompR (Itl K a) g tt te (fun l H'=>Q (.ref l) H') (subσ ix σ) H1:=rfl
theorem bt:tComp ix (fD ta) g tt te σ H Q=ta σ H fun vs H1=>∃ j:Int,vs=[.int j]/\ -(2^62)<=j/\j<2^62/\CompR (Itr 0 j.toNat) g tt te (fun l H'=>Q (.ref l) H') (subσ ix σ) H1:=rfl
theorem bu:sComp k ix (iList K tl) g tt te D σ H=tl σ H fun x H1=>∃ a,x=.ref a/\(∃ xs,SqL K H1 a xs)/\CompR (Itl K a) g tt te (fun l H'=>D.nx (σ.set k (some (.ref l))) H') (subσ ix σ) H1:=rfl
theorem bi:sComp k ix (fD ta) g tt te D σ H=ta σ H fun vs H1=>∃ j:Int,vs=[.int j]/\ -(2^62)<=j/\j<2^62/\CompR (Itr 0 j.toNat) g tt te (fun l H'=>D.nx (σ.set k (some (.ref l))) H') (subσ ix σ) H1:=rfl
theorem pX {lo:Int} {n:Nat} {fin:Addr->Hp->Prop} {σ0:St} {H1:Hp} (Pv:Addr->Nat->St->Hp->Prop) (h0:∀ l,H1 l=none->Pv l 0 σ0 (upd H1 l (.lst [])))
  (hs:∀ l i σ H,H1 l=none->i<n->Pv l i σ H->g (.int (lo+i)) σ H fun σ2 H3=>tt σ2 H3 fun b H4=>if b=true then te σ2 H4 fun y H5=>∃ ys,H5 l=some (.lst ys)/\ys.length<sizeLine/\Pv l (i+1) σ2 (upd H5 l (.lst (ys++[y]))) else Pv l (i+1) σ2 H4)
  (hd:∀ l σ H,H1 l=none->Pv l n σ H->fin l H):CompR (Itr lo n) g tt te fin σ0 H1:=by
 intro l hl0;refine⟨fun i m σ H=>m=n-i/\i<=n/\Pv l i σ H,⟨n,by simp,Ml _,h0 l hl0⟩,?_⟩;rintro i m σ H ⟨rfl,hi,p⟩;by_cases hlt:i<n
 . refine .inr ⟨hlt,Pv l (i+1),fun σ' H' p'=>⟨n - (i+1),by omega,rfl,hlt,p'⟩,fun x H' y=>?_⟩;obtain⟨e,y⟩:=y;subst e y;exact hs l i σ _ hl0 hlt p
 . have e:i=n:=by omega
   subst e;exact .inl ⟨LF _,hd l σ H hl0 p⟩
theorem rj {a:Addr} {xs:List V} {fin:Addr->Hp->Prop} {σ0:St} {H1:Hp} (Pv:Addr->Nat->St->Hp->Prop) (h0:∀ l,H1 l=none->Pv l 0 σ0 (upd H1 l (.lst []))) (hq:∀ l i σ H,H1 l=none->i<=xs.length->Pv l i σ H->SqL K H a xs)
  (hs:∀ l i x σ H,H1 l=none->xs[i]? =some x->Pv l i σ H->g x σ H fun σ2 H3=>tt σ2 H3 fun b H4=>if b=true then te σ2 H4 fun y H5=>∃ ys,H5 l=some (.lst ys)/\ys.length<sizeLine/\Pv l (i+1) σ2 (upd H5 l (.lst (ys++[y]))) else Pv l (i+1) σ2 H4)
  (hd:∀ l σ H,H1 l=none->Pv l xs.length σ H->fin l H):CompR (Itl K a) g tt te fin σ0 H1:=by
 intro l hl0;refine⟨fun i m σ H=>m=xs.length-i/\i<=xs.length/\Pv l i σ H,⟨xs.length,by simp,Ml _,h0 l hl0⟩,?_⟩;rintro i m σ H ⟨rfl,hi,p⟩;have q:=hq l i σ H hl0 hi p;by_cases hlt:i<xs.length
 . refine .inr ⟨⟨xs,xs[i],q,by simp[hlt]⟩,Pv l (i+1),fun σ' H' p'=>⟨xs.length - (i+1),by omega,rfl,hlt,p'⟩,fun x H' y=>?_⟩;obtain⟨e,y⟩:=y;subst e;exact hs l i x σ _ hl0 (y xs q) p
 . have e:i=xs.length:=by omega
   subst e;exact .inl ⟨⟨xs,q,LF _⟩,hd l σ H hl0 p⟩
theorem lU{p q:Addr}{xs ys:List Int}(hp:H p=some (.lst (xs.map V.int)))(hq:H q=some (.lst (ys.map V.int)))(h:Q (.bl (decide (xs=ys))) H):cEq K (.ref p) (.ref q) H Q:=by
 show rEqD K (.ref p) (.ref q) H Q;refine⟨.list (xs.map PyData.int),.list (ys.map PyData.int),.lst (LH hp) (.ints xs),.lst (LH hq) (.ints ys),kT xs,kT ys,?_⟩;rw[PyData.eqv,uI];exact h
theorem pY{p q:Addr}{xs ys:List Int}(hp:H p=some (.lst (xs.map V.int)))(hq:H q=some (.lst (ys.map V.int)))(h:Q (.bl (!decide (xs=ys))) H):cNe K (.ref p) (.ref q) H Q:=by
 show rNeD K (.ref p) (.ref q) H Q;refine⟨.list (xs.map PyData.int),.list (ys.map PyData.int),.lst (LH hp) (.ints xs),.lst (LH hq) (.ints ys),kT xs,kT ys,?_⟩;rw[PyData.eqv,uI];exact h
theorem lg{p:Addr}{xs:List V}(hp:H p=some (.lst xs))(h:∀ l,H l=none->Q (.ref l) (upd H l (.lst xs))):kList [.ref p] H Q:=by
 unfold kList;dsimp only;rw[hp];exact h
end
theorem aC{X:Cx}{N:List Str}{ix:List (Option Nat)}{scope:Scope}(h1:scope.kind=.function)(h2:(scope.names.map (·.1)).Nodup)(h3:(scope.names.all fun p=>p.2 != .free||isCF (X.env.kindOf p.1))=true)(h4:N=compN scope)(h5:ix=vA X.N scope):BlkOk X N ix scope:=by
 subst h4 h5;exact G1 h1 h2 h3
def kLenS(K:Frag):List V->Hp->VK->Prop:=fun xs H Q=>∃ p ys,xs=[.ref p]/\(SqL K H p ys\/SqT K H p ys)/\Q (.int ys.length) H
structure Bt(mg:Str->Option Value):Prop where
 len_:mg "len"=none
 abs_:mg "abs"=none
 min_:mg "min"=none
 max_:mg "max"=none
 sorted_:mg "sorted"=none
 any_:mg "any"=none
 isinstance_:mg "isinstance"=none
 list_:mg "list"=none
 int_:mg "int"=none
 bool_:mg "bool"=none
 str_:mg "str"=none
 tuple_:mg "tuple"=none
 reversed_:mg "reversed"=none
 set_:mg "set"=none
 range_:mg "range"=none
 zip_:mg "zip"=none
theorem Vals.get':∀{xs:List V} {us:List Value} {i:Nat} {u:Value},Vals xs us->us[i]? =some u->∃ x,xs[i]? =some x/\RelV x u
 | _,_,_,_,.nil,h=>by simp at h
 | _,_,0,_,.cons r _,h=>by simp at h;subst h;exact⟨_,rfl,r⟩
 | _,_,i+1,_,.cons _ t,h=>by
  obtain⟨x,hx,r⟩:=Vals.get' (i:=i) t (by simpa using h);exact⟨x,by simpa using hx,r⟩
section
variable{X:Cx}{Lc:List (Addr × Obj)}{σ:St}{H:Hp}{s s':Shared}
theorem Inv.kept'(I:Inv X Lc σ H s)(k:∀ b u,s.heap.get? b=some u->s'.heap.get? b=some u)(ho:s'.os=s.os)(hg:AllBare s'.gens):Inv X Lc σ H s':=
 I.call' (ch:=[]) ho (Un.kept k) (I.hok.kept k) hg fun b z=>absurd z (by simp)
theorem Inv.walked{l:Addr}{o:Obj}(I:Inv X Lc σ H s)(hm:Moved [s.heap.objs.size] (fun a b=>b=a) {s with heap:=s.heap.push o} s'):Inv X Lc σ H s':=by
 refine I.kept' (fun b u e=>hm.heap b u (fun z=>?_) (LG _ e)) hm.os (by rw[show s'.gens=s.gens from hm.gens];exact I.bare);have:b=s.heap.objs.size:=by simpa using z
 exact absurd (LS e) (by rw[this];exact MI _)
def kAny:List V->Hp->VK->Prop
 | [.ref p],H,Q=>bnd (unL (H p)) fun ys=>∃ bs:List Bool,ys=bs.map V.bl/\Q (.bl (bs.any id)) H
 | _,_,_=>False
theorem DJ(bs:List Bool):(List.range bs.length).any (fun i=>bs.getD i false)=bs.any id:=by
 rw[LV,Nl,Nl];constructor
 . rintro⟨i,hi,h⟩;have hi':i<bs.length:=LL.mp hi;exact⟨bs[i],L1 hi',by simpa [List.getD,hi'] using h⟩
 . rintro⟨b,hb,h⟩;obtain⟨i,hi,e⟩:=MV.mp hb;refine⟨i,LL.mpr hi,?_⟩;have h':b=true:=h;rw[List.getD,Lq hi,e];exact h'
theorem rm(hc:X.calm=true):CallR X (.builtin "any") kAny:=by
 intro Lc s σ H xs us Q I r h;unfold kAny at h
 split at h
 . rename_i p
   obtain⟨ys,e,bs,rfl,q⟩:=a8 h;obtain⟨u,rfl,ru⟩:=dv r;cases ru;obtain⟨Lg,rv,pl,hz⟩:=I.list (rg e);have hl:=rv.length;rw[Lp] at hl
   have hlt:p<s.heap.objs.size:=by
    obtain⟨o,h1,_⟩:=pl.isList;exact LS h1
   refine call_any_walkS (Nv pl.isList ?_);refine⟨s.heap.objs.size,_,_,_,Lg.toArray.size,_,_,fun i=>bs.getD i false,rfl,(Walks.list (A:=X.A.in1) (I.ok.hd hc) s.heap.objs.size p (Mi hlt) Lg.toArray).toS,⟨⟨_,L5 _ rfl,rfl,rfl⟩,pl.isList.push _⟩,?_,fun s' hm=>?_⟩
   . intro i v s1 Q1 E1 hP hQ;have hv:Lg[i]? =some v:=by simpa using hP
     obtain⟨x,hx,rx⟩:=rv.get' hv;obtain⟨b,hb,rfl⟩:∃ b,bs[i]? =some b/\V.bl b=x:=by simpa using hx
     cases rx;refine MF ?_;have e3:bs.getD i false=b:=by simp[List.getD,hb]
     rw[← e3];exact hQ
   . refine⟨.bl _,H,I.walked (l:=p) hm,?_,q⟩;have e2:Lg.toArray.size=bs.length:=by rw[LJ];exact hl.symm
     rw[e2,DJ];rfl
 . exact h.elim
def jr(K:Frag):V->List V->Hp->VK->Prop
 | .ref p,[y],H,Q=>∃(ds:List PyData) (d:PyData) (j:Nat),DV K H (.ref p) (.list ds)/\DV K H y d/\PyData.canLayAll0 ds=true/\PyData.canLay0 d=true/\min (PyData.depthAll ds) d.depth<=62/\
   j<=1000/\(∃ e,ds[j]? =some e/\PyData.eqv e d=true)/\(∀ m e,m<j->ds[m]? =some e->PyData.eqv e d=false)/\Q (.int j) H
 | _,_,_,_=>False
theorem li(hu:X.A.units+64<cLine):MtR X "list.index" (jr X.K):=by
 intro Lc s σ H x vs v us Q I rx rv h;unfold jr at h
 split at h
 . rename_i p y
   obtain⟨ds,d,j,hp,hy,hl,hd,hdep,hj,⟨e,ej,et⟩,hno,q⟩:=h;cases rx;obtain⟨u,rfl,ru⟩:=dv rv;obtain⟨as,rc⟩:=hp.reads I rfl;obtain⟨bs,rx⟩:=hy.reads I ru
   cases rc with
   | @list _ o Lg n _ _ h1 h2 h3 h4=>
    obtain⟨oc,od,oda,osl⟩:=o;dsimp only at h2 h3;subst h2 h3;have hmap:=SeqAt.readsAll_map ds _ _ hl h4
    have at_:∀(m:Nat) (hm:m<Lg.size),ds[m]? =some (SeqAt.readOf s.heap Lg[m]):=fun m hm=>by
     rw[← hmap,Lu,OA,N5 hm];rfl
    have hjs:j<Lg.size:=by
     have:=(Lx.mp ej).1;rw[← hmap,Lp,No] at this;exact this
    refine M1 F.slot_list_index ⟨_,h1,rfl⟩ F.entry_list_index (F.args_list_index_2 _ _) (SeqAt.list_indexAt p Lg n od osl u (fun y=>PyData.eqv (SeqAt.readOf s.heap y) d) j hjs (by omega) ?_ ?_) ⟨h1,SeqAt.items_eqAt h4 rx hl hd ?_,⟨.int j,H,I.tok _,⟨_,rfl⟩,q⟩⟩
    . have:=at_ j hjs;rw[ej] at this;cases this;exact et
    . intro m hm hlt;exact hno m _ hlt (at_ m hm)
    . omega
 . exact h.elim
theorem G2{h:Heap}{a b:Addr}{o u:Obj}{c d:String}(ha:h.get? a=some o)(hb:h.get? b=some u)(hc:o.cls=.type c)(hd:u.cls=.type d)(ne:c≠d):a≠b:=by
 rintro rfl;rw[ha] at hb;cases hb;rw[hc] at hd;cases hd;exact ne rfl
end
open Builtin Builtin.Str
theorem xg:∀{ts:List Str} {us:List Value},Vals (ts.map V.str) us->∃ l:List (Str × Tok),us=strValues l/\l.map (·.1)=ts
 | [],_,.nil=>⟨[],rfl,rfl⟩
 | t::ts,_,.cons r rs=>by
  obtain⟨l,rfl,e⟩:=xg (ts:=ts) rs;obtain⟨u,rfl⟩:=r;exact⟨(t,u)::l,rfl,by rw[L3,e]⟩
theorem ye:∀(l:List (Str × Tok)),Vals ((l.map (·.1)).map V.str) (strValues l)
 | []=>.nil
 | (t,u)::l=>.cons ⟨u,rfl⟩ (ye l)
section
variable{X:Cx}
def kFind:V->List V->Hp->VK->Prop
 | .str x,[.str y],H,Q=>Q (.int (Txt.find x y)) H
 | _,_,_,_=>False
def vC:V->List V->Hp->VK->Prop
 | .str x,[.str y],H,Q=>(y.length==0)=false/\x.length<=sizeLine/\(Txt.split x y).length<=sizeLine/\∀ l,H l=none->Q (.ref l) (upd H l (.lst ((Txt.split x y).map V.str)))
 | _,_,_,_=>False
theorem DK:MtR X "str.split" vC:=by
 intro Lc s σ H x vs v us Q I rx rv h;unfold vC at h
 split at h
 . rename_i x y
   obtain⟨t,rfl⟩:=rx;obtain⟨u,rfl,ru⟩:=dv rv;obtain⟨t2,rfl⟩:=ru;obtain⟨hy,hx,hn,q⟩:=h
   have fin:∀(l:List (Str × Tok)) (k:Nat),l.map (·.1)=Txt.split x y->EP X Lc σ Q (.ref s.heap.objs.size) {s with heap:=s.heap.push {cls:=.type "list",data:=.seq (strValues l).toArray},toks:=k}:=fun l k e=>by
    refine⟨.ref s.heap.objs.size,_,I.lnew (t':=k) (ys:=(Txt.split x y).map V.str) (Lg:=strValues l) ?_ (by rw[Lp];exact hn),rfl,q _ I.fresh⟩;rw[← e];exact ye l
   cases h1:(decide (x.length<y.length)||decide (strKind x<strKind y))
   . cases hf:(occurrences x y 0 x.length (x.length+1)).isEmpty
     . have e3:Txt.split x y=partsBetween x (occurrences x y 0 x.length (x.length+1)) y.length:=(LU (NS h1)).trans (LU (NS hf));refine M1 Oh (NE _ _ _) N9 (N0 _ _) (meets_str_split_sep x y t t2 h1 hy hf hx (by rw[← e3];exact hn)) ?_;show wants _ _ _ {s with toks:=_,heap:=s.heap.push {cls:=.type "list",data:=.seq (strsFrom s.toks (partsBetween x (occurrences x y 0 x.length (x.length+1)) y.length)).toArray}};rw[strsFrom_eq];exact fin (numbered s.toks _) _ ((numbered_texts _ _).trans e3.symm)
     . exact M1 Oh (NE _ _ _) N9 (N0 _ _) (meets_str_split_not_found x y t t2 h1 hy hf)
        (fin [(x,t)] s.toks ((LU (NS h1)).trans (LX hf)).symm)
   . exact M1 Oh (NE _ _ _) N9 (N0 _ _) (meets_str_split_cannot_occur x y t t2 h1)
      (fin [(x,t)] s.toks (LX h1).symm)
 . exact h.elim
def ky:V->Option Int->Option Int->Hp->VK->Prop
 | .ref p,lo,hi,H,Q=>cSl (.ref p) lo hi H Q
 | .str z,lo,hi,H,Q=>z.length<=sizeLine/\Q (.str (Txt.slice z lo hi)) H
 | _,_,_,_,_=>False
theorem lV:SlR X ky:=by
 intro Lc s σ H x v vl vu lo hi sl Q I rx hs pl pu h
 cases x with
 | ref p=>exact HY Lc s σ H _ v vl vu lo hi sl Q I rx hs pl pu h
 | str z=>
  obtain⟨hz,q⟩:=(show z.length<=sizeLine/\Q (.str (Txt.slice z lo hi)) H from h);obtain⟨t,rfl⟩:=rx;have fin:∀ t' k,EP X Lc σ Q (.str (Txt.slice z lo hi) t') {s with toks:=k}:=fun t' k=>⟨.str _,H,I.tok k,⟨t',rfl⟩,q⟩;refine⟨"str",_,F.slot_str_getitem.lookup,NE _ _ _,?_⟩
  cases pl with
  | none=>
   cases pu with
   | none=>exact M5 (l:=none) (u:=none) (st:=none) hs rfl (NO ⟨Lz (Oq z _ _) hz,fin⟩)
   | int j tj=>exact M5 (l:=none) (u:=some (j,tj)) (st:=none) hs rfl (NO ⟨Lz (Oq z _ _) hz,fin⟩)
  | int i ti=>
   cases pu with
   | none=>exact M5 (l:=some (i,ti)) (u:=none) (st:=none) hs rfl (NO ⟨Lz (Oq z _ _) hz,fin⟩)
   | int j tj=>exact M5 (l:=some (i,ti)) (u:=some (j,tj)) (st:=none) hs rfl (NO ⟨Lz (Oq z _ _) hz,fin⟩)
 | _=>exact False.elim h
def Its(x:Str):It:=⟨fun i _=>i<x.cps.size,fun i H v H'=>H'=H/\∃ c,x.cps[i]? =some c/\v=.str ⟨#[c]⟩,fun i _=>x.cps.size<=i⟩
theorem zB {P:Program} {w:World} {K:Frag} {tg:Expr} {x:Str} {t:Tok} (it:Addr) (ty:String) (hty:["enumerate","zip","dict_itemiterator","dict_reverseitemiterator","odict_iterator","itertools.zip_longest","itertools.pairwise"].contains ty=false)
  (W:∀ A:Around,A.handled=none->Walks P w A it [it] [it] x.cps.size (SignAt x) (fun i h=>h.IsStrIter it ty x t i))
  (slf:∀(A:Around) (i:Nat) (s:Shared) (Q:Value->Shared->Prop) (E:Value->Shared->Prop),s.heap.IsStrIter it ty x t i->Q (.ref it) s->wpAny (model P w) A (pyIter (.ref it)) Q E s):
  Turn P w K tg (Its x) [it] it (fun i h=>i<=x.cps.size/\h.IsStrIter it ty x t i) where
 mem:=by simp
 obj:=fun i h st b hb=>by
  have e:b=it:=by simpa using hb
  subst e;obtain⟨_,o,e,c,d⟩:=st;exact⟨o,e,fun v z=>by rw[d] at z;cases z⟩
 keep:=fun i h h' st k=>by
  obtain⟨hi,o,e,c,d⟩:=st;exact⟨hi,o,k it (by simp) o e,c,d⟩
 item:=by
  intro X hP hw hK hc i Lc s σ H E I hf st hg;subst hP hw hK;obtain⟨f0,f1,f2,f3,f4,f5⟩:=hf it (by simp);have hlt:i<x.cps.size:=hg;refine(W X.A (I.ok.hd hc)).item i s _ _ hlt st.2 fun v h' tk hv st' kk=>?_;obtain⟨c,u,hcu,rfl⟩:=hv;have I1:Inv X Lc σ H {s with heap:=h',toks:=tk}:=I.turned (fun b o hb e=>kk b o (by simpa using hb) e) f0 f1 f3 f4 f5;obtain⟨o,e,c',d⟩:=id st';exact⟨_,rfl,y8 (s:={s with heap:=h',toks:=tk}) e c' d hty ⟨.str ⟨#[c]⟩,H,I1,⟨u,rfl⟩,⟨rfl,c,hcu,rfl⟩,⟨hlt,st'⟩,fun b hb=>(hf b hb).1⟩⟩
 done:=by
  intro X hP hw hK hc i Lc s σ H E I hf st hg;subst hP hw hK;obtain⟨f0,f1,f2,f3,f4,f5⟩:=hf it (by simp);have hle:x.cps.size<=i:=hg;have e:i=x.cps.size:=Nat.le_antisymm st.1 hle;subst e;exact(W X.A (I.ok.hd hc)).done s _ _ st.2 fun h' tk kk=>⟨rfl,I.turned (fun b o hb e=>kk b o (by simpa using hb) e) f0 f1 f3 f4 f5⟩
 self:=fun A i s Q E st h=>slf A i s Q E st.2 h
def iStr(tl:TE):TI:=fun σ H R=>tl σ H fun x H1=>∃ z,x=.str z/\R (Its z) H1
theorem G3{tg l:Expr}{tl:TE}(hl:PE X l tl):PI X tg l (iStr tl):=by
 intro Lc s σ H R I h;refine thn (hl Lc s σ H _ I h) fun v s1 ⟨x,H1,I1,r1,q1⟩=>?_;obtain⟨z,rfl,q⟩:=q1;obtain⟨t,rfl⟩:=r1
 have fin:∀ b∈[s1.heap.objs.size],FpOk X Lc H1 b:=fun b hb=>by
  have e:b=s1.heap.objs.size:=by simpa using hb
  subst e;exact I1.fpOk (LF _) (I1.hok.fresh (LF _))
 cases ha:z.cps.all (· < 128)
 . refine wpAny_pyIter_wide ha ⟨s1.heap.objs.size,[s1.heap.objs.size],_,Its z,H1,rfl,I1.kept (t':=s1.toks) fun b o e=>LG _ e,zB (t:=t) _ "str_iterator" (by decide) (fun A' hA=>Walks.strWide hA _ z t) (fun A i s Q E st hq=>wpAny_pyIter_striter_wide st hq),⟨Ml _,_,L5 _ rfl,rfl,rfl⟩,fin,q⟩
 . refine wpAny_pyIter_ascii ha ⟨s1.heap.objs.size,[s1.heap.objs.size],_,Its z,H1,rfl,I1.kept (t':=s1.toks) fun b o e=>LG _ e,zB (t:=t) _ "str_ascii_iterator" (by decide) (fun A' hA=>Walks.strAscii hA _ z t) (fun A i s Q E st hq=>wpAny_pyIter_striter_ascii st hq),⟨Ml _,_,L5 _ rfl,rfl,rfl⟩,fin,q⟩
theorem Ba {prog:Program} {w:World} {A:Around} {E:Value->Shared->Prop} {s:Shared} {l:Addr} {items:Array Value} {k:Int} {t:Tok} {v:Value} {Q:Unit->Shared->Prop} (hl:s.heap.IsList l items)
  (h0:0<=k) (hfit:k<2^63) (hn:k<items.size)
  (hQ:Q () {s with heap:=s.heap.update l (Obj.mapSeq (·.setIfInBounds k.toNat v))}):
  wpAny (model prog w) A (setItem (.ref l) (.int k t) v) Q E s:=by
 obtain⟨o,ho,hc,ne,hd⟩:=id hl;unfold setItem
 try with_reducible refine Oc ?_
 first | refine LZ (Mq ?_) | skip
 refine LZ (wpAny_sequenceKey hl.typeIs (by decide) ?_)
 refine LZ (wpAny_callSpecial?_slot (name:=Str.ofString "__setitem__") hl.typeIs slot_list_setitem
  (wpAny_call_entry slot_list_setitem hl.typeIs entry_list_setitem ?_ (args_list_setitem _ _ _)))
 show wpAny _ _ (Builtin.List.listSubscript? (.int k t) >>= _) _ _ s;refine LZ (wpAny_listSubscript_int (fitsIndex_of h0 hfit) ?_)
 clear hfit
 obtain⟨j,rfl⟩:=M6 h0;have hj:j<items.size:=by omega
 have hx':items[j]? =some items[j]:=N5 hj;show wpAny _ _ ((seqItemAt l j >>= fun r=>pure (r.map (j,·))) >>= _) _ _ s;refine LZ (LZ (wpAny_seqItemAt ho hd (Mq ?_)));rw[hx'];show wpAny _ _ (setSeqItemAt l j v >>= _) _ _ s;refine LZ (wpAny_setSeqItemAt ho hd ?_)
 first
  | exact LZ (Mq (Mq ⟨.none,rfl,Mq hQ⟩))
  | exact Mq ⟨.none,rfl,Mq hQ⟩
theorem zC:∀{xs:List V} {us:List Value} {x:V} {u:Value} (i:Nat),Vals xs us->RelV x u->Vals (xs.set i x) (us.set i u)
 | _,_,_,_,_,.nil,_=>.nil
 | _,_,_,_,0,.cons _ t,r=>.cons r t
 | _,_,_,_,i+1,.cons q t,r=>.cons q (zC i t r)
def cPut:TSet
 | .ref p,y,v,H,Q=>(match unD (H p) with
  | some _=>∃ H',DPut H p y v H'/\Q H'
  | none=>match y with
   | .int i=>bnd (unM (H p)) fun xs=>0<=i/\i<xs.length/\Q (upd H p (.lst (xs.set i.toNat v)))
   | _=>False)
 | _,_,_,_,_=>False
theorem FB(hu:X.A.units+64<cLine):PSet X cPut:=by
 intro Lc s σ H o i v ov iv u Q I ro ri rv h
 cases o with
 | ref p=>
  cases ro;unfold cPut at h;dsimp only at h
  split at h
  . obtain⟨H',g,q⟩:=h;exact Dz (MD (Np (by decide:1<=64) _) hu) I g ri rv fun s' I'=>⟨H',I',q⟩
  . split at h
    . rename_i i
      obtain⟨xs,e,h0,h1,q⟩:=a8 h;obtain⟨t,rfl⟩:=ri;have hH:=gw e;obtain⟨z,Lg,n,r,hl,eo⟩:=I.lstM hH;have hs:s.heap.IsList p Lg.toArray:=⟨_,eo,rfl,n,rfl⟩;have hz:Lg.length<=sizeLine:=by rw[← hl];exact z
      refine Ba hs h0 ?_ (by rw[LJ,← hl];exact h1) ⟨_,I.lset (t':=s.toks) (ys:=xs.set i.toNat v) (its':=Lg.set i.toNat u) hH eo (by simp) (zC _ r rv) (by rw[List.length_set];exact z),q⟩;have:(sizeLine:Int)<2^63:=by decide
      omega
    . exact h.elim
 | _=>exact False.elim h
end
section
variable{K:Frag}{g:TG}{tb:TS}{D:Ends}{σ:St}{H:Hp}{tl:TE}{ix:List (Option Nat)}{tt:TT}{te ta:TE}{k:Nat}{Q:VK}
theorem gB{r:V->Option Int->Option Int->Hp->VK->Prop}{a b:TO}:tSl r te a b σ H Q=te σ H fun x H1=>a σ H1 fun l H2=>b σ H2 fun u H3=>r x l u H3 Q:=rfl
theorem cK{R:Option Int->Hp->Prop}:tPart te σ H R=te σ H fun x H1=>∃ i,x=.int i/\R (some i) H1:=rfl
theorem bv{R:Option Int->Hp->Prop}:fW σ H R=R none H:=rfl
theorem cL{to ti:TE}{t:TSet}{v:V}{R:St->Hp->Prop}:gSub to ti t v σ H R=to σ H fun o H1=>ti σ H1 fun i H2=>t o i v H2 fun H3=>R σ H3:=rfl
theorem gC{r:V->Hp->VK->Prop}:tUn r te σ H Q=te σ H fun x H1=>r x H1 Q:=rfl
theorem cM:tFor (iStr tl) g tb D σ H=tl σ H fun x H1=>∃ z,x=.str z/\LoopR (Its z) g tb D σ H1:=rfl
theorem bM:tComp ix (iStr tl) g tt te σ H Q=tl σ H fun x H1=>∃ z,x=.str z/\CompR (Its z) g tt te (fun l H'=>Q (.ref l) H') (subσ ix σ) H1:=rfl
theorem bw:sComp k ix (iStr tl) g tt te D σ H=tl σ H fun x H1=>∃ z,x=.str z/\CompR (Its z) g tt te (fun l H'=>D.nx (σ.set k (some (.ref l))) H') (subσ ix σ) H1:=rfl
theorem Ci{x:Str}:tyV K "str" (.str x) H:=rfl
theorem dP{i j:Str}:cEq K (.str i) (.str j) H Q=Q (.bl (decide (i=j))) H:=rfl
theorem dQ{i j:Str}:cNe K (.str i) (.str j) H Q=Q (.bl (!decide (i=j))) H:=rfl
theorem cN{z:Str}:kLen [.str z] H Q=(z.length<=sizeLine/\Q (.int z.length) H):=rfl
theorem cj{i j:Str}:cAdd (.str i) (.str j) H Q=(i.length+j.length<=sizeLine/\Q (.str (i++j)) H):=rfl
theorem HM{z:Str}{i:Int}:cIx (.str z) (.int i) H Q=(z.length<=sizeLine/\bnd (atI z.cps.toList i) fun c=>Q (.str ⟨#[c]⟩) H):=rfl
theorem cO{x y:Str}:kFind (.str x) [.str y] H Q=Q (.int (Txt.find x y)) H:=rfl
theorem FV{x y:Str}:vC (.str x) [.str y] H Q=((y.length==0)=false/\x.length<=sizeLine/\(Txt.split x y).length<=sizeLine/\∀ l,H l=none->Q (.ref l) (upd H l (.lst ((Txt.split x y).map V.str)))):=rfl
theorem FC{p:Addr}{i:Int}{v:V}{xs:List V}{R:Hp->Prop}(hp:H p=some (.lst xs))(h0:0<=i)(h1:i<xs.length)(h:R (upd H p (.lst (xs.set i.toNat v)))):cPut (.ref p) (.int i) v H R:=by
 unfold cPut;dsimp only;rw[hp];exact⟨h0,h1,h⟩
theorem pZ{p:Addr}{lo hi:Option Int}{xs:List V}(hp:H p=some (.lst xs))(h:∀ l,H l=none->Q (.ref l) (upd H l (.lst (cutV xs lo hi)))):ky (.ref p) lo hi H Q:=by
 show bnd (unL (H p)) _;rw[hp];exact h
end
def cBitI(g:Int->Int->Int):R2
 | .int i,.int j,H,Q=>Q (.int (g i j)) H
 | _,_,_,_=>False
def cShl:R2
 | .int i,.int j,H,Q=>CPow i j/\Q (.int (i*2^j.toNat)) H
 | _,_,_,_=>False
def cShr:R2
 | .int i,.int j,H,Q=>0<=j/\Q (.int (i/2^j.toNat)) H
 | _,_,_,_=>False
abbrev cAnd:R2:=cBitI Builtin.bitAnd
abbrev cOr:R2:=cBitI Builtin.bitOr
section
variable{X:Cx}
theorem zD{o:Operator}{g:Int->Int->Int}(h0:OpR X (binaryOp o) (rI0 fun i j=>.int (g i j))):OpR X (binaryOp o) (cBitI g):=by
 intro Lc s σ H x y v u Q I rx ry h;unfold cBitI at h
 split at h
 . exact h0 Lc s σ H _ _ v u Q I rx ry ⟨_,_,rfl,rfl,h⟩
 . exact h.elim
theorem BN:OpR X (binaryOp .BitAnd) cAnd:=zD GK
theorem G4:OpR X (binaryOp .BitOr) cOr:=zD HD
theorem xh:OpR X (binaryOp .LShift) cShl:=by
 intro Lc s σ H x y v u Q I rx ry h;unfold cShl at h
 split at h
 . exact GI Lc s σ H _ _ v u Q I rx ry ⟨_,_,rfl,rfl,h.1,h.2⟩
 . exact h.elim
theorem xi:OpR X (binaryOp .RShift) cShr:=by
 intro Lc s σ H x y v u Q I rx ry h;unfold cShr at h
 split at h
 . exact GJ Lc s σ H _ _ v u Q I rx ry ⟨_,_,rfl,rfl,h.1,h.2⟩
 . exact h.elim
end
section
variable{H:Hp}{Q:VK}{i j:Int}
theorem dR{g:Int->Int->Int}:cBitI g (.int i) (.int j) H Q=Q (.int (g i j)) H:=rfl
theorem gi:cShr (.int i) (.int j) H Q=(0<=j/\Q (.int (i/2^j.toNat)) H):=rfl
end
section
variable{X:Cx}
def kInt:List V->Hp->VK->Prop
 | [.int i],H,Q=>Q (.int i) H
 | [.bl k],H,Q=>Q (.int (if k then 1 else 0)) H
 | _,_,_=>False
def o3:V->List V->Hp->VK->Prop
 | .int i,[],H,Q=>Q (.int (Builtin.Int.intBits i:Nat)) H
 | _,_,_,_=>False
theorem vD:MtR X "int.bit_length" o3:=by
 intro Lc s σ H x vs v us Q I rx rv h;unfold o3 at h
 split at h
 . obtain⟨t,rfl⟩:=rx;cases rv;exact call_int_bit_length ⟨.int _,H,I.tok _,⟨_,rfl⟩,h⟩
 . exact h.elim
def cRepL:R2
 | .ref l,.int k,H,Q=>bnd (unM (H l)) fun xs=> -(2^63)<=k/\k<2^63/\xs.length*k.toNat<=sizeLine/\∀ p,H p=none->Q (.ref p) (upd H p (.lst (List.replicate k.toNat xs).flatten))
 | _,_,_,_=>False
theorem zE:OpR X (binaryOp .Mult) cRepL:=by
 intro Lc s σ H x y v u Q I rx ry h;unfold cRepL at h
 split at h
 . obtain⟨xs,e,h1,h2,h3,q⟩:=a8 h;exact GS Lc s σ H _ _ v u Q I rx ry ⟨_,_,xs,rfl,rfl,gw e,h1,h2,h3,q⟩
 . exact h.elim
def kAll:List V->Hp->VK->Prop
 | [.ref p],H,Q=>bnd (unL (H p)) fun ys=>∃ bs:List Bool,ys=bs.map V.bl/\Q (.bl (bs.all id)) H
 | _,_,_=>False
theorem DL(bs:List Bool):(List.range bs.length).all (fun i=>bs.getD i false)=bs.all id:=by
 rw[LV,LM,LM];constructor
 . intro h b hb;obtain⟨i,hi,e⟩:=MV.mp hb;have:=h i (LL.mpr hi);rw[List.getD,Lq hi,e] at this;exact this
 . intro h i hi;have hi':i<bs.length:=LL.mp hi;have:=h bs[i] (L1 hi')
   simpa [List.getD,hi'] using this
theorem js:bootBuiltins "all"=some (.builtin "all"):=by decide+kernel
theorem vE:bootBuiltins "sum"=some (.builtin "sum"):=by decide+kernel
theorem dS(hc:X.calm=true):CallR X (.builtin "all") kAll:=by
 intro Lc s σ H xs us Q I r h;unfold kAll at h
 split at h
 . rename_i p
   obtain⟨ys,e,bs,rfl,q⟩:=a8 h;obtain⟨u,rfl,ru⟩:=dv r;cases ru;obtain⟨Lg,rv,pl,hz⟩:=I.list (rg e);have hl:=rv.length;rw[Lp] at hl
   have hlt:p<s.heap.objs.size:=by
    obtain⟨o,h1,_⟩:=pl.isList;exact LS h1
   refine call_all_walkS (Nv pl.isList ?_);refine⟨s.heap.objs.size,_,_,_,Lg.toArray.size,_,_,fun i=>bs.getD i false,rfl,(Walks.list (A:=X.A.in1) (I.ok.hd hc) s.heap.objs.size p (Mi hlt) Lg.toArray).toS,⟨⟨_,L5 _ rfl,rfl,rfl⟩,pl.isList.push _⟩,?_,fun s' hm=>?_⟩
   . intro i v s1 Q1 E1 hP hQ;have hv:Lg[i]? =some v:=by simpa using hP
     obtain⟨x,hx,rx⟩:=rv.get' hv;obtain⟨b,hb,rfl⟩:∃ b,bs[i]? =some b/\V.bl b=x:=by simpa using hx
     cases rx;refine MF ?_;have e3:bs.getD i false=b:=by simp[List.getD,hb]
     rw[← e3];exact hQ
   . refine⟨.bl _,H,I.walked (l:=p) hm,?_,q⟩;have e2:Lg.toArray.size=bs.length:=by rw[LJ];exact hl.symm
     rw[e2,DL];rfl
 . exact h.elim
def kSum:List V->Hp->VK->Prop
 | [.ref p],H,Q=>bnd (unL (H p)) fun ys=>∃ ns:List Int,ys=ns.map V.int/\(∀ x∈ns,0<=x/\x<=1000000)/\ns.length<=1000000/\Q (.int ns.sum) H
 | _,_,_=>False
theorem DM:∀(ns:List Int),(∀ x∈ns,0<=x/\x<=1000000)->0<=ns.sum/\ns.sum<=1000000*ns.length
 | [],_=>by simp
 | n::r,h=>by
  have ih:=DM r fun x hx=>h x (LI _ hx);have h1:=h n LQ;rw[OG,L0];omega
theorem np(hc:X.calm=true):CallR X (.builtin "sum") kSum:=by
 intro Lc s σ H xs us Q I r h;unfold kSum at h
 split at h
 . rename_i p
   obtain⟨ys,e,ns,rfl,hb,hn,q⟩:=a8 h;obtain⟨u,rfl,ru⟩:=dv r;cases ru;obtain⟨Lg,rv,pl,hz⟩:=I.list (rg e);have hl:=rv.length;rw[Lp] at hl
   have hlt:p<s.heap.objs.size:=by
    obtain⟨o,h1,_⟩:=pl.isList;exact LS h1
   have e2:Lg.toArray.size=ns.length:=by rw[LJ];exact hl.symm
   refine call_sum_walkS (Nv pl.isList ?_);refine⟨s.heap.objs.size,_,_,_,Lg.toArray.size,_,_,fun i=>ns.getD i 0,rfl,(Walks.list (A:=X.A.in1) (I.ok.hd hc) s.heap.objs.size p (Mi hlt) Lg.toArray).toS,⟨⟨_,L5 _ rfl,rfl,rfl⟩,pl.isList.push _⟩,?_,?_,?_,fun s' t' hm=>?_⟩
   . intro b hb';show b < (s.heap.push _).objs.size;rw[M3];simp only[LW,M4,OD] at hb';rcases hb' with rfl | rfl
     . exact NC _
     . exact MN hlt
   . intro i v hP;have hv:Lg[i]? =some v:=by simpa using hP
     obtain⟨x,hx,rx⟩:=rv.get' hv;obtain⟨b,hb',rfl⟩:∃ b,ns[i]? =some b/\V.int b=x:=by simpa using hx
     obtain⟨t,rfl⟩:=rx;exact⟨t,by simp[List.getD,hb']⟩
   . intro j hj;rw[e2] at hj;refine⟨?_,?_⟩
     . have:=hb ns[j] (L1 hj);have e3:ns.getD j 0=ns[j]:=by simp[List.getD,hj]
       show InLong (ns.getD j 0);rw[e3];exact⟨by omega,by omega⟩
     . rw[preSum_getD];have h1:=DM (ns.take (j+1)) fun x hx=>hb x (MW hx);have h2:(ns.take (j+1)).length<=ns.length:=by rw[Mm];omega
       exact⟨by omega,by omega⟩
   . refine⟨.int ns.sum,H,I.walked (l:=p) hm,⟨t',?_⟩,q⟩;rw[e2,preSum_getD,M7]
 . exact h.elim
def Itd(hi:Int)(n:Nat):It:=⟨fun i _=>i<n,fun i H x H'=>H'=H/\x=.int (hi-i),fun i _=>n<=i⟩
def iRngD(ta:TA):TI:=fun σ H R=>ta σ H fun vs H1=>∃ i j:Int,vs=[.int i,.int j,.int (-1)]/\(-(2^60)<=i/\i<2^60/\ -(2^60)<=j/\j<2^60)/\R (Itd i (i-j).toNat) H1
end
section
variable{K:Frag}{g:TG}{tb:TS}{D:Ends}{σ:St}{H:Hp}{ta:TA}{Q:VK}
theorem dU{k:Bool}:kInt [.bl k] H Q=Q (.int (if k then 1 else 0)) H:=rfl
theorem dW{i:Int}:kInt [.int i] H Q=Q (.int i) H:=rfl
theorem bS{i:Int}:o3 (.int i) [] H Q=Q (.int (Builtin.Int.intBits i:Nat)) H:=rfl
theorem lW{p:Addr}{bs:List Bool}(hp:H p=some (.lst (bs.map V.bl)))(h:Q (.bl (bs.all id)) H):kAll [.ref p] H Q:=by
 show bnd (unL (H p)) _;rw[hp];exact be (a:=bs.map V.bl) rfl ⟨bs,rfl,h⟩
theorem zb{p:Addr}{ns:List Int}(hp:H p=some (.lst (ns.map V.int)))(hb:∀ x∈ns,0<=x/\x<=1000000)(hn:ns.length<=1000000)(h:Q (.int ns.sum) H):kSum [.ref p] H Q:=by
 show bnd (unL (H p)) _;rw[hp];exact be (a:=ns.map V.int) rfl ⟨ns,rfl,hb,hn,h⟩
theorem DN{p:Addr}{xs:List V}{k:Int}(hp:H p=some (.lst xs))(h0:0<=k)(h1:k<=1000)(hn:xs.length<=1)(h:∀ l,H l=none->Q (.ref l) (upd H l (.lst (List.replicate k.toNat xs).flatten))):cRepL (.ref p) (.int k) H Q:=by
 show bnd (unM (H p)) _;rw[hp];refine be (a:=xs) rfl ⟨by omega,by omega,?_,h⟩;refine Mj (aH (Lz (NK _ hn) ?_));omega
theorem cT:tFor (iRngD ta) g tb D σ H=ta σ H fun vs H1=>∃ i j:Int,vs=[.int i,.int j,.int (-1)]/\(-(2^60)<=i/\i<2^60/\ -(2^60)<=j/\j<2^60)/\LoopR (Itd i (i-j).toNat) g tb D σ H1:=rfl
end
section
variable{X:Cx}
def Ite(K:Frag)(a:Addr):It:=
 ⟨fun i H=>∃ xs x,SqL K H a xs/\xs[i]? =some x,
  fun i H v H'=>∃ T x,v=.ref T/\H T=none/\H'=upd H T (.tup [.int i,x])/\∀ xs,SqL K H a xs->xs[i]? =some x,
  fun i H=>∃ xs,SqL K H a xs/\xs.length<=i⟩
def ESt(a e it:Addr)(i:Nat)(h:Heap):Prop:=(∃ old,IsEnum h e it i old)/\h.IsListIter it a i
theorem DO{P:Program}{w:World}{K:Frag}{es:List Expr}{x1:Nat}{pos:Pos}(a e it:Addr):
  Turn P w K (.Tuple es x1 pos) (Ite K a) [e,it] e (ESt a e it) where
 mem:=by simp
 obj:=fun i h st c hc=>by
  obtain⟨⟨old,he⟩,⟨o1,e1,c1,f1⟩⟩:=st;simp only[LW,M4,OD] at hc;rcases hc with rfl | rfl
  . exact⟨_,he,fun v z=>by have z':Data.fields _=Data.cell v:=z;cases z'⟩
  . exact⟨_,e1,fun v z=>by rw[f1] at z;cases z⟩
 keep:=fun i h h' st k=>by
  obtain⟨⟨old,he⟩,h1⟩:=st;exact⟨⟨old,k e (by simp) _ he⟩,h1.at fun o q=>k it (by simp) o q⟩
 item:=by
  intro X hP hw hK hc i Lc s σ H E I hf st hg;subst hP hw hK;obtain⟨xs,x,hq1,hx⟩:=hg;obtain⟨its1,rv1,p1,hz1⟩:=I.list hq1;obtain⟨u1,hu1,ru1⟩:=rv1.get hx;obtain⟨⟨old,he⟩,⟨o1,e1,c1,f1⟩⟩:=id st;have hne:e≠it:=G2 he e1 rfl c1 (by decide);refine wpAny_pyNext_enum_item he ⟨o1,e1,c1,f1⟩ p1.isList (x:=u1) (by simpa using hu1) hne fun h' a1 a2 a3 a4 hk=>?_;refine⟨_,rfl,wpAny_letOwnedTupleGo_enum a1 fun h2 hz2 sb=>?_⟩;have hT:H s.heap.objs.size=none:=I.fresh;have lt:∀{c o},s.heap.get? c=some o->c≠s.heap.objs.size:=fun e=>Mi (LS e)
  have kp:∀ c o,c∉[e,it]->s.heap.get? c=some o->h2.get? c=some o:=fun c o hc q=>by
   simp only[LW,M4,OD,not_or] at hc;exact sb.extBut _ _ hc.1 (hk c o hc.1 hc.2 q)
  have hTe:s.heap.objs.size≠e:=(lt he).symm;have gT:h2.get? s.heap.objs.size=some {cls:=.type "tuple",data:=.seq #[.int i s.toks,u1]}:=sb.extBut _ _ hTe a3;have nH:∀ c∈[e,it],H c=none:=fun c hc=>(hf c hc).1;refine⟨.ref s.heap.objs.size,upd H s.heap.objs.size (.tup [.int i,x]),I.call' (s':={s with heap:=h2,toks:=s.toks+1}) (ch:=[e,it]) rfl ⟨fun c o e n _ hx=>kp c o hx e,fun c o e n _ hx=>⟨o.slots,kp c o hx e⟩,fun c o e n _=>by rw[ao (lt e)];exact n,fun c o e hx=>⟨o,kp c o hx e⟩,fun c xs e=>by rw[ao (aD e hT)];exact e,fun c o u e=>by rw[ao (aD e hT)];exact e,fun c ps e=>⟨#[],by rw[ao (aD e hT),e];simp⟩⟩ ?_ I.bare ?_,rfl,⟨_,x,rfl,hT,rfl,fun zs hz'=>by rw[I.list_inj hz' hq1];exact hx⟩,?_,?_⟩
  . intro c ob e;by_cases hb:c=s.heap.objs.size
    . subst hb;rw[aj] at e;cases e;exact⟨by show(2:Nat)<=sizeLine;exact Mj (aH (by decide)),[.int i s.toks,u1],.cons ⟨_,rfl⟩ (.cons ru1 .nil),⟨_,gT,rfl,_,rfl⟩⟩
    . rw[ao hb] at e;refine(I.hok c ob e).stay (fun d w' hd g=>kp d w' ?_ g) (fun d g=>by rw[ao (aD g hT)];exact g) fun d xs g=>by rw[ao (aD g hT)];exact g
      intro hm;rcases hd with rfl | hd
      . rw[nH _ hm] at e;cases e
      . rw[nH _ hm] at hd;cases hd
  . intro c hc;obtain⟨f0,f1,f2,f3,f4,f5⟩:=hf c hc;exact⟨f3,f1,f4,f5⟩
  . exact⟨⟨_,hz2⟩,a2.extBut sb.extBut hne.symm⟩
  . intro c hc
    obtain⟨o,q⟩:∃ o,s.heap.get? c=some o:=by
     simp only[LW,M4,OD] at hc;rcases hc with rfl | rfl
     . exact⟨_,he⟩
     . exact⟨_,e1⟩
    rw[ao (lt q)];exact(hf c hc).1
 done:=by
  intro X hP hw hK hc i Lc s σ H E I hf st hg;subst hP hw hK;obtain⟨xs,hq1,hx⟩:=hg;obtain⟨its1,rv1,p1,hz1⟩:=I.list hq1;have hl1:=rv1.length;obtain⟨⟨old,he⟩,⟨o1,e1,c1,f1⟩⟩:=id st;have hend:its1.toArray[i]? =none:=by simp;omega
  obtain⟨f0,f1',f2,f3,f4,f5⟩:=hf it (by simp);exact wpAny_pyNext_enum_end (I.ok.hd hc) he ⟨o1,e1,c1,f1⟩ p1.isList hend fun h' eb=>⟨rfl,I.turned (t':=s.toks) (fun b o hb e=>eb b o hb e) f0 f1' f3 f4 f5⟩
 self:=fun _ _ _ _ _ st h=>by
  obtain⟨⟨old,he⟩,_⟩:=st;exact wpAny_pyIter_enum he h
def iEnum(K:Frag)(ta:TA):TI:=fun σ H R=>ta σ H fun vs H1=>∃ a,vs=[.ref a]/\(∃ xs,SqL K H1 a xs)/\R (Ite K a) H1
theorem zF:bootBuiltins "enumerate"=some (.type "enumerate"):=by decide+kernel
theorem tw{es:List Expr}{x1:Nat}{tpos:Pos}{e1:Expr}{ta:TA}{p pos:Pos}(hg:Gl X "enumerate")(hm:X.mg "enumerate"=none)(ha:PA X [e1] ta)(hs:starEach [e1] X.env=[(false,eval e1 X.env)]:=by rfl):
  PI X (.Tuple es x1 tpos) (.Call (.Name "enumerate" p) [e1] [] pos) (iEnum X.K ta):=by
 intro Lc s σ H R I h;refine Call_ (iC I hg hm zF (Mx (thn (ha pos Lc s σ H _ I h) fun us s1 ⟨vs,H1,I1,r1,q1⟩=>?_) hs rfl));obtain⟨a,rfl,⟨xs,hq1⟩,q⟩:=q1;obtain⟨u1,rfl,ru1⟩:=dv r1;cases ru1;obtain⟨its1,rv1,p1,hz1⟩:=I1.list hq1;refine call_enumerate_list p1.isList fun h' a1 a2 a3 hk=>?_;refine wpAny_pyIter_enum a1 ?_;have I2:Inv X Lc σ H1 {s1 with heap:=h',toks:=s1.toks}:=I1.kept hk;refine⟨s1.heap.objs.size+1,[s1.heap.objs.size+1,s1.heap.objs.size],ESt a (s1.heap.objs.size+1) s1.heap.objs.size,Ite X.K a,H1,rfl,I2,DO a (s1.heap.objs.size+1) s1.heap.objs.size,⟨⟨_,a1⟩,a2⟩,fun c hc=>?_,q⟩
 have hge:s1.heap.objs.size<=c:=by
  simp only[LW,M4,OD] at hc;rcases hc with rfl | rfl <;> omega
 exact I1.fpOk hge (I1.hok.fresh hge)
end
section
variable{K:Frag}{g:TG}{tb:TS}{D:Ends}{σ:St}{H:Hp}{ta:TA}{Q:VK}{ix:List (Option Nat)}{tt:TT}{te:TE}{k:Nat}
theorem dX:tFor (iEnum K ta) g tb D σ H=ta σ H fun vs H1=>∃ a,vs=[.ref a]/\(∃ xs,SqL K H1 a xs)/\LoopR (Ite K a) g tb D σ H1:=rfl
theorem cU:tComp ix (iEnum K ta) g tt te σ H Q=ta σ H fun vs H1=>∃ a,vs=[.ref a]/\(∃ xs,SqL K H1 a xs)/\CompR (Ite K a) g tt te (fun l H'=>Q (.ref l) H') (subσ ix σ) H1:=rfl
theorem bT:sComp k ix (iEnum K ta) g tt te D σ H=ta σ H fun vs H1=>∃ a,vs=[.ref a]/\(∃ xs,SqL K H1 a xs)/\CompR (Ite K a) g tt te (fun l H'=>D.nx (σ.set k (some (.ref l))) H') (subσ ix σ) H1:=rfl
theorem DP {a:Addr} {xs:List V} {fin:Addr->Hp->Prop} {σ0:St} {H1:Hp} (Pv:Addr->Nat->St->Hp->Prop) (h0:∀ l,H1 l=none->Pv l 0 σ0 (upd H1 l (.lst []))) (hq:∀ l i σ H,H1 l=none->i<=xs.length->Pv l i σ H->SqL K H a xs)
  (hs:∀ l i x T σ H,H1 l=none->xs[i]? =some x->Pv l i σ H->H T=none->g (.ref T) σ (upd H T (.tup [.int i,x])) fun σ2 H3=>tt σ2 H3 fun b H4=>if b=true then te σ2 H4 fun y H5=>∃ ys,H5 l=some (.lst ys)/\ys.length<sizeLine/\Pv l (i+1) σ2 (upd H5 l (.lst (ys++[y]))) else Pv l (i+1) σ2 H4)
  (hd:∀ l σ H,H1 l=none->Pv l xs.length σ H->fin l H):CompR (Ite K a) g tt te fin σ0 H1:=by
 intro l hl0;refine⟨fun i m σ H=>m=xs.length-i/\i<=xs.length/\Pv l i σ H,⟨xs.length,by simp,Ml _,h0 l hl0⟩,?_⟩;rintro i m σ H ⟨rfl,hi,p⟩;have q:=hq l i σ H hl0 hi p;by_cases hlt:i<xs.length
 . refine .inr ⟨⟨xs,xs[i],q,by simp[hlt]⟩,Pv l (i+1),fun σ' H' p'=>⟨xs.length - (i+1),by omega,rfl,hlt,p'⟩,fun v H' y=>?_⟩;obtain⟨T,x,rfl,hT,rfl,e⟩:=y;exact hs l i x T σ _ hl0 (e xs q) p hT
 . have e:i=xs.length:=by omega
   subst e;exact .inl ⟨⟨xs,q,LF _⟩,hd l σ H hl0 p⟩
theorem vF {a:Addr} {xs:List V} {fin:Addr->Hp->Prop} {σ0:St} {H1:Hp} {k1 k2:Nat} (b:Nat->Bool) (f:Nat->V) (hn:xs.length<=900) (hne:k1≠k2) (hq:SqL K H1 a xs)
  (ht:∀(i:Nat) x H R,xs[i]? =some x->Same H1 H->(∀ H',Same H H'->R (b i) H')->tt ((σ0.set k1 (some (.int (i:Int)))).set k2 (some x)) H R)
  (he:∀(i:Nat) x H Q,xs[i]? =some x->b i=true->Same H1 H->(∀ H',Same H H'->Q (f i) H')->te ((σ0.set k1 (some (.int (i:Int)))).set k2 (some x)) H Q)
  (hd:∀ l H,H1 l=none->Same H1 H->H l=some (.lst (((List.range xs.length).filter b).map f))->fin l H):
  CompR (Ite K a) (gTup K 2 (gCons (gName k1) (gCons (gName k2) gNil))) tt te fin σ0 H1:=by
 refine DP (xs:=xs) (fun l i σ H=>(σ=σ0\/∃ c1 c2,σ=(σ0.set k1 c1).set k2 c2)/\Same H1 H/\H l=some (.lst (((List.range i).filter b).map f))) (fun l hl=>⟨.inl rfl,fun b u e=>by rw[ao (aD e hl)];exact e,by rw[aj];rfl⟩) (fun l i σ H _ _ p=>p.2.1.seq hq) ?_ (fun l σ H hl p=>hd l H hl p.2.1 p.2.2);rintro l i x T σ H hl hx ⟨hσ,s1,el⟩ hT;have hi:i<xs.length:=(Lx.mp hx).1;have sT:Same H (upd H T (.tup [.int i,x])):=fun b u e=>by rw[ao (aD e hT)];exact e
 refine⟨T,_,rfl,OQ aj,rfl,_,_,rfl,_,_,rfl,rfl,?_⟩
 have e:(σ.set k1 (some (.int i))).set k2 (some x)=(σ0.set k1 (some (.int i))).set k2 (some x):=by
  rcases hσ with rfl | ⟨c1,c2,rfl⟩
  . rfl
  . rw[List.set_comm _ _ (Oj hne),MX,MX,List.set_comm _ _ hne]
 show tt ((σ.set k1 (some (.int i))).set k2 (some x)) _ _;rw[e];refine ht i x _ _ hx (s1.trans sT) fun H2 s2=>?_;have el2:=s2 _ _ (sT _ _ el);have s12:=(s1.trans sT).trans s2;have own:∀{H3:Hp} {o:HO},Same H1 H3->Same H1 (upd H3 l o):=fun s b u e=>by rw[ao (aD e hl)];exact s b u e
 have Lj:∀ i,i<=900->(((List.range i).filter b).map f).length<sizeLine:=fun i hi=>by
  rw[Lp];refine aH (Lz (LO b _) ?_);rw[Mp];omega
 cases hb:b i with
 | false=>
  rw[LU Ly];refine⟨.inr ⟨_,_,rfl⟩,s12,?_⟩;rw[Mz,Mg,Mn,hb]
  simpa using el2
 | true=>
  rw[LX rfl];refine he i x H2 _ hx hb s12 fun H3 s3=>⟨_,s3 _ _ el2,Lj i (by omega),.inr ⟨_,_,rfl⟩,own (s12.trans s3),?_⟩;rw[aj,Mz,Mg,Mn,hb];simp
end
def rngL(i j:Int):List Int:=(List.range (j-i).toNat).map fun(k:Nat)=>i+(k:Int)
theorem kz(i j:Int):(rngL i j).length=(j-i).toNat:=by unfold rngL;simp
theorem t7:∀{xs:List V} {us:List Value},xs.length=us.length->(∀(i:Nat) x u,xs[i]? =some x->us[i]? =some u->RelV x u)->Vals xs us
 | [],[],_,_=>.nil
 | [],_::_,h,_=>by simp at h
 | _::_,[],h,_=>by simp at h
 | x::xs,u::us,h,f=>.cons (f 0 x u rfl rfl) (t7 (by simpa using h) fun i y e h1 h2=>f (i+1) y e (by simpa using h1) (by simpa using h2))
theorem E8{i j:Int}{acc:Array Value}(h:ItemsOf (fun k v=>∃ t,v=.int (i+k*1) t) acc (j-i).toNat):Vals ((rngL i j).map V.int) acc.toList:=by
 refine t7 (by rw[Lp,kz,No];exact h.1.symm) fun k x u hx hu=>?_;obtain⟨t,rfl⟩:=h.2 k u (by simpa using hu);unfold rngL at hx;rw[Mf,Lu] at hx;by_cases hk:k < (j-i).toNat
 . rw[Mv hk] at hx;cases hx;exact⟨t,by rw[Int.mul_one]⟩
 . rw[LP (by simpa using hk)] at hx;cases hx
section
variable{X:Cx}
def lj(ta:TA):TE:=fun σ H Q=>ta σ H fun vs H1=>∃ j:Int,vs=[.int j]/\ -(2^60)<=j/\j<=1000/\∀ l,H1 l=none->Q (.ref l) (upd H1 l (.lst ((rngL 0 j).map V.int)))
def DQ(ta:TA):TE:=fun σ H Q=>ta σ H fun vs H1=>∃ i j:Int,vs=[.int i,.int j]/\(0<=i/\i<=1000/\ -(2^60)<=j/\j<=1000)/\∀ l,H1 l=none->Q (.ref l) (upd H1 l (.lst ((rngL i j).map V.int)))
theorem E9 {Lc:List (Addr × Obj)} {σ:St} {H1:Hp} {s1:Shared} {Q:VK} {i j:Int} {t u v:Tok} {tk:Nat} {A:Around} {E:Value->Shared->Prop} (hh:A.handled=none) (I1:Inv X Lc σ H1 s1) (h1:0<=i) (h2:i<=1000) (h3: -(2^60)<=j) (h4:j<=1000)
  (q:∀ l,H1 l=none->Q (.ref l) (upd H1 l (.lst ((rngL i j).map V.int)))):
  wpAny (model X.prog X.w) A (call (.type "list") [.ref s1.heap.objs.size]) (EP X Lc σ Q) E {s1 with heap:=s1.heap.push {cls:=.type "range",data:=.fields #[.int i t,.int j u,.int 1 v]},toks:=tk}:=by
 have I2:Inv X Lc σ H1 {s1 with heap:=s1.heap.push {cls:=.type "range",data:=.fields #[.int i t,.int j u,.int 1 v]},toks:=tk}:=I1.kept fun b o e=>LG _ e;refine call_list_range (n:=(j-i).toNat) hh (IsRange.new ..) (small_one (by omega) (by omega) (by omega) (by omega)) (by rw[rangeSize_one];split <;> omega) (by omega) fun h' tk' acc' c' old hS' hacc=>?_;have Lj:((rngL i j).map V.int).length<=sizeLine:=by rw[Lp,kz];exact Mj (aH (by omega))
 exact⟨.ref _,_,I2.laid (t':=tk') (o:=.lst ((rngL i j).map V.int)) old (LF _) ⟨Lj,acc'.toList,c',E8 hacc,hS'⟩,rfl,q _ (I2.hok.fresh (LF _))⟩
theorem ot {a:Expr} {ta:TA} {p p2 pos pos2:Pos} (hc:X.calm=true) (hgl:Gl X "list") (hgr:Gl X "range") (hl:X.mg "list"=none) (hr:X.mg "range"=none) (ha:PA X [a] ta)
  (hs1:starEach [.Call (.Name "range" p2) [a] [] pos2] X.env=[(false,eval (.Call (.Name "range" p2) [a] [] pos2) X.env)]:=by rfl) (hs:starEach [a] X.env=[(false,eval a X.env)]:=by rfl):
  PE X (.Call (.Name "list" p) [.Call (.Name "range" p2) [a] [] pos2] [] pos) (lj ta):=by
 intro Lc s σ H Q I h;refine MJ (iC I hgl hl dj ?_ (by decide) (by decide));refine Mx ?_ hs1 rfl;rw[hs1];show wpAny _ _ (spliced [(false,eval (.Call (.Name "range" p2) [a] [] pos2) X.env)]) _ _ s;refine Nq ?_;refine Call_ (iC I hgr hr boot_range (Mx (thn (ha pos2 Lc s σ H _ I h) fun us s1 ⟨vs,H1,I1,r1,q1⟩=>?_) hs rfl));obtain⟨j,e,q1,q2,q⟩:=q1;subst e
 cases r1 with
 | cons r rr=>
  cases rr;obtain⟨t,rfl⟩:=r;refine call_range_1 ?_;refine Nw ?_;exact E9 (I.ok.hd hc) I1 (by omega) (by omega) q1 q2 q
end
section
variable{σ:St}{H:Hp}{Q:VK}{ta:TA}
theorem cV:lj ta σ H Q=ta σ H fun vs H1=>∃ j:Int,vs=[.int j]/\ -(2^60)<=j/\j<=1000/\∀ l,H1 l=none->Q (.ref l) (upd H1 l (.lst ((rngL 0 j).map V.int))):=rfl
theorem cW:DQ ta σ H Q=ta σ H fun vs H1=>∃ i j:Int,vs=[.int i,.int j]/\(0<=i/\i<=1000/\ -(2^60)<=j/\j<=1000)/\∀ l,H1 l=none->Q (.ref l) (upd H1 l (.lst ((rngL i j).map V.int))):=rfl
end
end L2
namespace L2
def besL(h w c:Int):List Int:=(if 0<c/w then [c-w] else [])++(if 0<c%w then [c-1] else [])++(if c%w<w-1 then [c+1] else [])++(if c/w<h-1 then [c+w] else [])
inductive RC(h w:Int)(cs:List Int)(st:Int):Int->Prop
 | start:st∈cs->RC h w cs st st
 | step {x y:Int}:RC h w cs st x->y∈besL h w x->y∈cs->RC h w cs st y
variable{h w x:Int}{cs:List Int}
theorem RC.mem{st:Int}(r:RC h w cs st x):x∈cs:=by cases r <;> assumption
theorem RC.st{st:Int}(r:RC h w cs st x):st∈cs:=by
 induction r with
 | start h=>exact h
 | step _ _ _ ih=>exact ih
theorem jt:∀{xs ys:List Int},xs.Nodup->(∀ x∈xs,x∈ys)->xs.length<=ys.length
 | [],_,_,_=>Ml _
 | x::xs,ys,nd,h=>by
  have hx:=h x LQ;have nd':=MH.mp nd
  have ih:=jt (xs:=xs) (ys:=ys.erase x) nd'.2 fun y hy=>by
   have ne:y≠x:=fun e=>nd'.1 (e ▸ hy);exact(List.mem_erase_of_ne ne).mpr (h y (LI _ hy))
  rw[List.length_erase_of_mem hx] at ih;have:0<ys.length:=List.length_pos_of_mem hx;simp only[L0];omega
structure BI(h w:Int)(cs:List Int)(st:Int)(fs:List Int)(pl:Nat):Prop where
 nd:fs.Nodup
 rc:∀ x∈fs,RC h w cs st x
 hst:st∈fs
 le:pl<=fs.length
 cl:∀(i:Nat) (x y:Int),i<pl->fs[i]? =some x->y∈besL h w x->y∈cs->y∈fs
variable{pl:Nat}
theorem BI.len{st:Int}{fs:List Int}(b:BI h w cs st fs pl):fs.length<=cs.length:=jt b.nd fun x hx=>(b.rc x hx).mem
theorem BI.start{st:Int}(hs:st∈cs):BI h w cs st [st] 0:=
 ⟨by simp,fun x hx=>by rw[LE.mp hx];exact .start hs,by simp,Ml _,fun i x y hi=>absurd hi (Nat.not_lt_zero _)⟩
theorem BI.done{st:Int}{fs:List Int}(b:BI h w cs st fs pl)(e:¬ pl<fs.length)(x:Int):x∈fs↔RC h w cs st x:=by
 refine⟨b.rc x,fun r=>?_⟩
 induction r with
 | start _=>exact b.hst
 | step r hy hc ih=>
  obtain⟨i,hi⟩:=List.getElem?_of_mem ih;have hlt:i<fs.length:=(Lx.mp hi).1;exact b.cl i _ _ (by omega) hi hy hc
def addC(cs fs:List Int)(y:Int):List Int:=if y∈cs/\¬ y∈fs then fs++[y] else fs
structure BJ(h w:Int)(cs:List Int)(st:Int)(f0:List Int)(pl:Nat)(bs:List Int)(fs:List Int):Prop where
 nd:fs.Nodup
 rc:∀ x∈fs,RC h w cs st x
 pre:f0 <+:fs
 al:∀ y∈bs,y∈cs->y∈fs
theorem BJ.zero{st:Int}{fs:List Int}(b:BI h w cs st fs pl):BJ h w cs st fs pl [] fs:=⟨b.nd,b.rc,List.prefix_refl _,fun y hy=>nomatch hy⟩
theorem BJ.more{st:Int}{f0 fs bs:List Int}{y:Int}(j:BJ h w cs st f0 pl bs fs)(hx:RC h w cs st x)(hy:y∈besL h w x):BJ h w cs st f0 pl (bs++[y]) (addC cs fs y):=by
 unfold addC
 split
 . rename_i hc
   refine⟨?_,fun z hz=>?_,j.pre.trans (List.prefix_append _ _),fun z hz hzc=>?_⟩
   . refine MY.mpr ⟨j.nd,by simp,fun a ha b hb=>?_⟩;rw[LE.mp hb];intro e;exact hc.2 (e ▸ ha)
   . rcases LR.mp hz with hz | hz
     . exact j.rc z hz
     . rw[LE.mp hz];exact .step hx hy hc.1
   . rcases LR.mp hz with hz | hz
     . exact NI _ (j.al z hz hzc)
     . rw[LE.mp hz];simp
 . rename_i hc
   refine⟨j.nd,j.rc,j.pre,fun z hz hzc=>?_⟩;rcases LR.mp hz with hz | hz
   . exact j.al z hz hzc
   . rw[LE.mp hz] at hzc ⊢;exact Decidable.byContradiction fun n=>hc ⟨hzc,n⟩
theorem BJ.done{st:Int}{f0 fs:List Int}(b:BI h w cs st f0 pl)(hx:f0[pl]? =some x)(j:BJ h w cs st f0 pl (besL h w x) fs):BI h w cs st fs (pl+1):=by
 have hlt:pl<f0.length:=(Lx.mp hx).1;have hle:=j.pre.length_le
 have get:∀ i,i<f0.length->fs[i]? =f0[i]? :=fun i hi=>by
  obtain⟨t,e⟩:=j.pre;rw[← e,LT hi]
 refine⟨j.nd,j.rc,j.pre.subset b.hst,by omega,fun i z y hi hz hy hc=>?_⟩;rw[get i (by omega)] at hz;by_cases e:i<pl
 . exact j.pre.subset (b.cl i z y e hz hy hc)
 . have:i=pl:=by omega
   subst this;rw[hx] at hz;cases hz;exact j.al y hy hc
theorem DR{rs fs:List Int}(p:rs.Perm fs)(s:rs.Pairwise (· <=·))(nd:fs.Nodup):rs.Pairwise (· < ·):=by
 have nd':rs.Nodup:=p.nodup_iff.mpr nd;refine(s.and nd').imp ?_;intro a b h;have:=h.1;have:=h.2;omega
theorem vG:∀{xs ys:List Int},xs.Pairwise (· < ·)->ys.Pairwise (· < ·)->(∀ z,z∈xs↔z∈ys)->xs=ys
 | [],[],_,_,_=>rfl
 | [],y::ys,_,_,h=>absurd ((h y).mpr LQ) (fun q=>nomatch q)
 | x::xs,[],_,_,h=>absurd ((h x).mp LQ) (fun q=>nomatch q)
 | x::xs,y::ys,hx,hy,h=>by
  have hx':=List.pairwise_cons.mp hx;have hy':=List.pairwise_cons.mp hy
  have e:x=y:=by
   rcases LW.mp ((h x).mp LQ) with e | m1
   . exact e
   . rcases LW.mp ((h y).mpr LQ) with e | m2
     . exact e.symm
     . have:=hy'.1 x m1;have:=hx'.1 y m2;omega
  subst e;refine congrArg (x::·) (vG hx'.2 hy'.2 fun z=>⟨fun m=>?_,fun m=>?_⟩)
  . rcases LW.mp ((h z).mp (LI _ m)) with e | q
    . have:=hx'.1 z m;omega
    . exact q
  . rcases LW.mp ((h z).mpr (LI _ m)) with e | q
    . have:=hy'.1 z m;omega
    . exact q
end L2
namespace L2
open PySem PySem.Spec PyProof.Rows
def wk9(t:String):Lean.MacroM Lean.Syntax:=do
 let x<-(t.splitOn " ").toArray.mapM fun s=>`(Lean.Parser.Tactic.simpLemma|$(Lean.mkIdent s.toName):term)
 `(tactic|(first|simp only[$x,*]|dsimp only|skip))
def ws1:String:="ay ce bI aR cA cB w_c fF ca cC cf cD w_b w_not dy gy cE cF dz da bR gz cG dA db fG dB cg cH cI cJ bK bL br bt bu bi dC dD dE dF dG dH dI dJ dL dM dN dO gB cK bv cL gC cM bM bw dP dQ cN cj cO List.getElem?_cons_zero List.getElem?_cons_succ Option.some.injEq exists_eq_left' exists_eq_left List.set_cons_zero List.set_cons_succ bp V.int.injEq V.bl.injEq V.ref.injEq V.str.injEq List.nil_append List.cons_append"
local macro_rules|`(tactic|walk_at "w")=>wk9 ws1
local macro_rules|`(tactic|symm)=>`(tactic|walk_at "w")
theorem aW{n:Nat}(h:n<=1000):n<=sizeLine:=Mj (aH h)
theorem lnR{n:Nat}(h:Nat.ble n 1000=true):n<=sizeLine:=aW (Mt h)
def IsFl(H:Hp)(a:Addr)(h w g:Int):Prop:=H a=some (.tup [.int h,.int w,.int g])
variable{H:Hp}{p:Addr}
theorem Same.laid{H':Hp}{o:HO}(s:Same H H')(h:H' p=none):Same H (upd H' p o):=fun b u e=>by
 rw[ao (aD (s b u e) h)];exact s b u e
theorem aS{U:Addr}(O:HO)(h:H U=none):∃ z,upd H U O=z/\Same H z/\z U=some O:=⟨_,rfl,(Lr H).laid h,aj⟩
theorem Same.own{H':Hp}{o:HO}(s:Same H H')(h:H p=none):Same H (upd H' p o):=fun b u e=>by
 rw[ao (aD e h)];exact s b u e
variable{l:List Int}{i:Nat}
theorem jf{x:Int}(h:l[i]? =some x):l.getD i 0=x:=by
 rw[List.getD,h];rfl
variable{ns:List Int}
theorem uL{k:Int}(h0:0<=k)(h1:k<ns.length):atI (ns.map V.int) k=some (.int (ns.getD k.toNat 0)):=by
 have e:((k.toNat:Nat):Int)=k:=Int.toNat_of_nonneg h0;have hlt:k.toNat<ns.length:=by omega
 have:(ns.map V.int)[k.toNat]? =some (.int (ns.getD k.toNat 0)):=by
  rw[Lu,Lq hlt];simp[List.getD,hlt]
 have q:=cR this;rw[e] at q;exact q
theorem a9{α:Type}(l:List α):l.filter (fun _=>true)=l:=M2.mpr fun _ _=>rfl
theorem ba{y:V}(h:(l.map V.int)[i]? =some y):∃ z,l[i]? =some z/\y=.int z:=by
 rw[Lu] at h
 cases e:l[i]? with
 | none=>rw[e] at h;cases h
 | some z=>rw[e] at h;cases h;exact⟨z,rfl,rfl⟩
theorem fX{l:List Addr}{y:V}(h:(l.map V.ref)[i]? =some y):∃ z,l[i]? =some z/\y=.ref z:=by
 rw[Lu] at h
 cases e:l[i]? with
 | none=>rw[e] at h;cases h
 | some z=>rw[e] at h;cases h;exact⟨z,rfl,rfl⟩
theorem nq{h w:Int}(h0:1<=h)(h1:h<=6):CMul h w:=.inl ⟨by omega,by omega⟩
theorem p0{ps:List Addr}{k:Int}(h0:0<=k)(h:ps[k.toNat]? =some p):atI (ps.map V.ref) k=some (.ref p):=by
 have e:((k.toNat:Nat):Int)=k:=Int.toNat_of_nonneg h0;have q0:(ps.map V.ref)[k.toNat]? =some (.ref p):=by rw[Lu,h];rfl
 have q:=cR q0;rw[e] at q;exact q
section
variable{k:Nat}{lo:Int}{n:Nat}{tt:TT}{te:TE}{fin:Addr->Hp->Prop}{σ0:St}{H1:Hp}{K:Frag}{a:Addr}
theorem mw{n i:Nat}(b:Nat->Bool)(h:i<n)(hn:n<=900):((List.range i).filter b).length<=900:=by
 have:=LO b (List.range i);rw[Mp] at this;omega
theorem t8 (b:Nat->Bool) (f:Nat->V) (hn:n<=900)
  (ht:∀ i H R,i<n->Same H1 H->(∀ H',Same H H'->R (b i) H')->tt (σ0.set k (some (.int (lo+i)))) H R)
  (he:∀ i H Q,i<n->b i=true->Same H1 H->(∀ H',Same H H'->Q (f i) H')->te (σ0.set k (some (.int (lo+i)))) H Q)
  (hd:∀ l H,H1 l=none->Same H1 H->H l=some (.lst (((List.range n).filter b).map f))->fin l H):
  CompR (Itr lo n) (gName k) tt te fin σ0 H1:=by
 refine pX (fun l i σ H=>(σ=σ0\/∃ cv,σ=σ0.set k cv)/\Same H1 H/\H l=some (.lst (((List.range i).filter b).map f))) (fun l hl=>⟨.inl rfl,(Lr H1).laid hl,by rw[aj];rfl⟩) ?_ (fun l σ H hl p=>hd l H hl p.2.1 p.2.2);rintro l i σ H hl hi ⟨hσ,s1,el⟩;rw[aR]
 have e:σ.set k (some (.int (lo+i)))=σ0.set k (some (.int (lo+i))):=by
  rcases hσ with rfl | ⟨cv,rfl⟩
  . rfl
  . exact MX ..
 rw[e];refine ht i H _ hi s1 fun H2 s2=>?_;have el2:=s2 _ _ el
 cases hb:b i with
 | false=>
  rw[LU Ly];refine⟨.inr ⟨_,rfl⟩,s1.trans s2,?_⟩;rw[Mz,Mg,Mn,hb]
  simpa using el2
 | true=>
  rw[LX rfl];refine he i H2 _ hi hb (s1.trans s2) fun H3 s3=>⟨_,s3 _ _ el2,by rw[Lp];exact aH (Lz (mw b hi hn) (by decide)),.inr ⟨_,rfl⟩,((s1.trans s2).trans s3).own hl,?_⟩;rw[aj,Mz,Mg,Mn,hb];simp
theorem bU {xs:List V} (b:Nat->Bool) (f:Nat->V) (hn:xs.length<=900) (hq:SqL K H1 a xs)
  (ht:∀ i x H R,xs[i]? =some x->Same H1 H->(∀ H',Same H H'->R (b i) H')->tt (σ0.set k (some x)) H R)
  (he:∀ i x H Q,xs[i]? =some x->b i=true->Same H1 H->(∀ H',Same H H'->Q (f i) H')->te (σ0.set k (some x)) H Q)
  (hd:∀ l H,H1 l=none->Same H1 H->H l=some (.lst (((List.range xs.length).filter b).map f))->fin l H):
  CompR (Itl K a) (gName k) tt te fin σ0 H1:=by
 refine rj (xs:=xs) (fun l i σ H=>(σ=σ0\/∃ cv,σ=σ0.set k cv)/\Same H1 H/\H l=some (.lst (((List.range i).filter b).map f))) (fun l hl=>⟨.inl rfl,(Lr H1).laid hl,by rw[aj];rfl⟩) (fun l i σ H _ _ p=>p.2.1.seq hq) ?_ (fun l σ H hl p=>hd l H hl p.2.1 p.2.2);rintro l i x σ H hl hx ⟨hσ,s1,el⟩;have hi:i<xs.length:=(Lx.mp hx).1;rw[aR]
 have e:σ.set k (some x)=σ0.set k (some x):=by
  rcases hσ with rfl | ⟨cv,rfl⟩
  . rfl
  . exact MX ..
 rw[e];refine ht i x H _ hx s1 fun H2 s2=>?_;have el2:=s2 _ _ el
 cases hb:b i with
 | false=>
  rw[LU Ly];refine⟨.inr ⟨_,rfl⟩,s1.trans s2,?_⟩;rw[Mz,Mg,Mn,hb]
  simpa using el2
 | true=>
  rw[LX rfl];refine he i x H2 _ hx hb (s1.trans s2) fun H3 s3=>⟨_,s3 _ _ el2,by rw[Lp];exact aH (Lz (mw b hi hn) (by decide)),.inr ⟨_,rfl⟩,((s1.trans s2).trans s3).own hl,?_⟩;rw[aj,Mz,Mg,Mn,hb];simp
theorem d6 (b:Nat->Bool) (f:Nat->Int) (hn:n<=900)
  (ht:∀ i H R,i<n->Same H1 H->(∀ H',Same H H'->R (b i) H')->tt (σ0.set k (some (.int (lo+i)))) H R)
  (he:∀ i H Q,i<n->b i=true->Same H1 H->(∀ H',Same H H'->Q (.int (f i)) H')->te (σ0.set k (some (.int (lo+i)))) H Q)
  (hd:∀ l H,H1 l=none->Same H1 H->H l=some (.lst ((((List.range n).filter b).map f).map V.int))->fin l H):
  CompR (Itr lo n) (gName k) tt te fin σ0 H1:=
 t8 b (fun i=>.int (f i)) hn ht he fun l H hl s1 el=>hd l H hl s1 (by rw[Mf];exact el)
theorem DS(b:Int->Bool)(f:Int->Int)(xs:List Int):((List.range xs.length).filter fun i=>b (xs.getD i 0)).map (fun i=>V.int (f (xs.getD i 0)))=((xs.filter b).map f).map V.int:=by
 have e:xs=(List.range xs.length).map fun i=>xs.getD i 0:=by
  refine MB fun i=>?_;rw[Lu];by_cases h:i<xs.length
  . rw[Mv h,Lq h];simp[List.getD,h]
  . rw[LP (by omega),LP (by simpa using h)];rfl
 conv=>rhs;rw[e]
 rw[List.filter_map,Mf,Mf];rfl
theorem aT {xs:List Int} (b:Int->Bool) (f:Int->Int) (hn:xs.length<=900) (hq:SqL K H1 a (xs.map V.int))
  (ht:∀ x H R,x∈xs->Same H1 H->(∀ H',Same H H'->R (b x) H')->tt (σ0.set k (some (.int x))) H R)
  (he:∀ x H Q,x∈xs->b x=true->Same H1 H->(∀ H',Same H H'->Q (.int (f x)) H')->te (σ0.set k (some (.int x))) H Q)
  (hd:∀ l H,H1 l=none->Same H1 H->H l=some (.lst (((xs.filter b).map f).map V.int))->fin l H):
  CompR (Itl K a) (gName k) tt te fin σ0 H1:=by
 refine bU (xs:=xs.map V.int) (fun i=>b (xs.getD i 0)) (fun i=>.int (f (xs.getD i 0))) (by rw[Lp];exact hn) hq ?_ ?_ ?_
 . intro i x H R hx s1 h;obtain⟨z,hz,rfl⟩:=ba hx;rw[jf hz] at h;exact ht z H R (LB hz) s1 h
 . intro i x H Q hx hb s1 h;obtain⟨z,hz,rfl⟩:=ba hx;rw[jf hz] at h hb;exact he z H Q (LB hz) hb s1 h
 . intro l H hl s1 el;refine hd l H hl s1 ?_;rw[Lp] at el;rw[el,DS]
structure NewAt(H1 H:Hp)(l:Addr)(as:List Addr)(os:List HO):Prop where
 len:as.length=os.length
 nd:as.Nodup
 nl:l∉as
 fr:∀ a∈as,H1 a=none
 at_:∀(j:Nat) (a:Addr) (o:HO),as[j]? =some a->os[j]? =some o->H a=some o
theorem NewAt.nil{H1 H:Hp}{l:Addr}:NewAt H1 H l [] [] where
 len:=rfl
 nd:=N1
 nl:=by simp
 fr:=fun a h=>nomatch h
 at_:=fun j a o h=>by simp at h
theorem NewAt.same{H1 H H':Hp}{l:Addr}{as:List Addr}{os:List HO}(x:NewAt H1 H l as os)(s:Same H H'):NewAt H1 H' l as os:=
 ⟨x.len,x.nd,x.nl,x.fr,fun j a o h1 h2=>s _ _ (x.at_ j a o h1 h2)⟩
theorem NewAt.mem{H1 H:Hp}{l:Addr}{as:List Addr}{os:List HO}(x:NewAt H1 H l as os){a:Addr}(h:a∈as):∃ o,H a=some o:=by
 obtain⟨j,hj,e⟩:=MV.mp h;have hj2:j<os.length:=by rw[← x.len];exact hj
 exact⟨os[j],x.at_ j a os[j] (by rw[Lq hj,e]) (Lq hj2)⟩
theorem NewAt.more{H1 H H2:Hp}{l p:Addr}{as:List Addr}{os:List HO}{o u:HO}(x:NewAt H1 H l as os)(s1:Same H1 H)(s:Same H H2)(hp:H p=none)(e:H2 p=some o)(hl:H l=some u)(o':HO):NewAt H1 (upd H2 l o') l (as++[p]) (os++[o]):=by
 have npl:p≠l:=fun z=>by rw[z,hl] at hp;cases hp
 refine⟨by simp[x.len],?_,?_,?_,?_⟩
 . refine MY.mpr ⟨x.nd,by simp,fun a ha b hb z=>?_⟩;rw[LE.mp hb] at z;obtain⟨o2,e2⟩:=x.mem ha;rw[z,hp] at e2;cases e2
 . intro hm;rcases LR.mp hm with hm | hm
   . exact x.nl hm
   . exact npl (LE.mp hm).symm
 . intro a ha;rcases LR.mp ha with ha | ha
   . exact x.fr a ha
   . rw[LE.mp ha]
     cases q:H1 p with
     | none=>rfl
     | some v=>rw[s1 _ _ q] at hp;cases hp
 . intro j a o2 h1 h2;have Lj:=x.len;by_cases hj:j<as.length
   . rw[LT hj] at h1;rw[LT (by omega)] at h2;have nal:a≠l:=fun z=>x.nl (z ▸ LB h1);rw[ao nal];exact s _ _ (x.at_ j a o2 h1 h2)
   . rw[L6 (by omega)] at h1;rw[L6 (by omega)] at h2
     have e0:j-as.length=0:=by
      have:=(Lx.mp h1).1;simp at this;omega
     rw[e0] at h1;rw[show j-os.length=0 by omega] at h2;simp at h1 h2;subst h1 h2;rw[ao npl];exact e
theorem Bb (b:Nat->Bool) (o:Nat->HO) (hn:n<=900)
  (ht:∀ i H R,i<n->Same H1 H->(∀ H',Same H H'->R (b i) H')->tt (σ0.set k (some (.int (lo+i)))) H R)
  (he:∀ i H Q,i<n->b i=true->Same H1 H->(∀ a H',Same H H'->H a=none->H' a=some (o i)->Q (.ref a) H')->te (σ0.set k (some (.int (lo+i)))) H Q)
  (hd:∀ l as H,H1 l=none->Same H1 H->H l=some (.lst (as.map V.ref))->NewAt H1 H l as (((List.range n).filter b).map o)->fin l H):
  CompR (Itr lo n) (gName k) tt te fin σ0 H1:=by
 refine pX (fun l i σ H=>(σ=σ0\/∃ cv,σ=σ0.set k cv)/\Same H1 H/\∃ as:List Addr,H l=some (.lst (as.map V.ref))/\NewAt H1 H l as (((List.range i).filter b).map o)) (fun l hl=>⟨.inl rfl,(Lr H1).laid hl,[],by rw[aj];rfl,NewAt.nil⟩) ?_ (fun l σ H hl ⟨_,s1,as,el,x⟩=>hd l as H hl s1 el x);rintro l i σ H hl hi ⟨hσ,s1,as,el,x⟩;rw[aR]
 have e:σ.set k (some (.int (lo+i)))=σ0.set k (some (.int (lo+i))):=by
  rcases hσ with rfl | ⟨cv,rfl⟩
  . rfl
  . exact MX ..
 rw[e];refine ht i H _ hi s1 fun H2 s2=>?_;have el2:=s2 _ _ el;have x2:=x.same s2;have s12:=s1.trans s2
 cases hb:b i with
 | false=>
  rw[LU Ly];refine⟨.inr ⟨_,rfl⟩,s12,as,el2,?_⟩;rw[Mz,Mg,Mn,hb]
  simpa using x2
 | true=>
  rw[LX rfl];refine he i H2 _ hi hb s12 fun p H3 s3 hp ep=>⟨_,s3 _ _ el2,?_,.inr ⟨_,rfl⟩,(s12.trans s3).own hl,as++[p],?_,?_⟩
  . rw[Lp,x2.len,Lp];exact aH (Lz (mw b hi hn) (by decide))
  . rw[aj];simp
  . have y:=x2.more s12 s3 hp ep el2 (.lst (as.map V.ref++[V.ref p]));rw[Mz,Mg,Mn,hb]
    simpa using y
theorem Cj {xs:List V} (b:Nat->Bool) (o:Nat->HO) (hn:xs.length<=900) (hq:SqL K H1 a xs)
  (ht:∀ i x H R,xs[i]? =some x->Same H1 H->(∀ H',Same H H'->R (b i) H')->tt (σ0.set k (some x)) H R)
  (he:∀ i x H Q,xs[i]? =some x->b i=true->Same H1 H->(∀ a H',Same H H'->H a=none->H' a=some (o i)->Q (.ref a) H')->te (σ0.set k (some x)) H Q)
  (hd:∀ l as H,H1 l=none->Same H1 H->H l=some (.lst (as.map V.ref))->NewAt H1 H l as (((List.range xs.length).filter b).map o)->fin l H):
  CompR (Itl K a) (gName k) tt te fin σ0 H1:=by
 refine rj (xs:=xs) (fun l i σ H=>(σ=σ0\/∃ cv,σ=σ0.set k cv)/\Same H1 H/\∃ as:List Addr,H l=some (.lst (as.map V.ref))/\NewAt H1 H l as (((List.range i).filter b).map o)) (fun l hl=>⟨.inl rfl,(Lr H1).laid hl,[],by rw[aj];rfl,NewAt.nil⟩) (fun l i σ H _ _ p=>p.2.1.seq hq) ?_ (fun l σ H hl ⟨_,s1,as,el,x⟩=>hd l as H hl s1 el x);rintro l i y σ H hl hy ⟨hσ,s1,as,el,x⟩;have hi:i<xs.length:=(Lx.mp hy).1;rw[aR]
 have e:σ.set k (some y)=σ0.set k (some y):=by
  rcases hσ with rfl | ⟨cv,rfl⟩
  . rfl
  . exact MX ..
 rw[e];refine ht i y H _ hy s1 fun H2 s2=>?_;have el2:=s2 _ _ el;have x2:=x.same s2;have s12:=s1.trans s2
 cases hb:b i with
 | false=>
  rw[LU Ly];refine⟨.inr ⟨_,rfl⟩,s12,as,el2,?_⟩;rw[Mz,Mg,Mn,hb]
  simpa using x2
 | true=>
  rw[LX rfl];refine he i y H2 _ hy hb s12 fun p H3 s3 hp ep=>⟨_,s3 _ _ el2,?_,.inr ⟨_,rfl⟩,(s12.trans s3).own hl,as++[p],?_,?_⟩
  . rw[Lp,x2.len,Lp];exact aH (Lz (mw b hi hn) (by decide))
  . rw[aj];simp
  . have z:=x2.more s12 s3 hp ep el2 (.lst (as.map V.ref++[V.ref p]));rw[Mz,Mg,Mn,hb]
    simpa using z
end
theorem DVs.of_get{K:Frag}{H:Hp}:∀{xs:List V} {ds:List PyData},xs.length=ds.length->(∀(i:Nat) x d,xs[i]? =some x->ds[i]? =some d->DV K H x d)->DVs K H xs ds
 | [],[],_,_=>.nil
 | [],_::_,h,_=>by simp at h
 | _::_,[],h,_=>by simp at h
 | x::xs,d::ds,h,f=>.cons (f 0 x d rfl rfl) (DVs.of_get (by simpa using h) fun i y e h1 h2=>f (i+1) y e (by simpa using h1) (by simpa using h2))
theorem tz:∀{ds:List PyData},(∀ d∈ds,PyData.canLay0 d=true)->PyData.canLayAll0 ds=true
 | [],_=>rfl
 | d::r,h=>by rw[PyData.canLayAll0,h d LQ,tz fun e he=>h e (LI _ he)];rfl
theorem rn{n:Nat}:∀{ds:List PyData},(∀ d∈ds,PyData.depth d<=n)->PyData.depthAll ds<=n
 | [],_=>Ml _
 | d::r,h=>by rw[PyData.depthAll];exact Nat.max_le.mpr ⟨h d LQ,rn fun e he=>h e (LI _ he)⟩
theorem xj{α:Type}[DecidableEq α](g:α->PyData)(hg:∀ a b,PyData.eqv (g a) (g b)=decide (a=b)):∀ xs ys:List α,PyData.eqvAll (xs.map g) (ys.map g)=decide (xs=ys)
 | [],[]=>rfl
 | [],_::_=>rfl
 | _::_,[]=>rfl
 | x::xs,y::ys=>by
  rw[L3,L3,PyData.eqvAll,hg,xj g hg xs ys,LV];simp
structure IsLL(H:Hp)(l:Addr)(as:List Addr)(Lh:List (List Int)):Prop where
 top:H l=some (.lst (as.map V.ref))
 len:as.length=Lh.length
 at_:∀(j:Nat) (a:Addr) (xs:List Int),as[j]? =some a->Lh[j]? =some xs->H a=some (.lst (xs.map V.int))
theorem IsLL.same{H':Hp}{l:Addr}{as:List Addr}{Lh:List (List Int)}(x:IsLL H l as Lh)(s:Same H H'):IsLL H' l as Lh:=
 ⟨s _ _ x.top,x.len,fun j a xs h1 h2=>s _ _ (x.at_ j a xs h1 h2)⟩
def lX(K:Frag):Sp:=fun vs H Q _=>∃ a h w g c,vs=[.ref a,.int c]/\IsFl H a h w g/\0<w/\w<100/\∀ p,H p=none->Q (.ref p) (upd H p (.tup [.int (c/w),.int (c%w)]))
def p5(K:Frag):TS:=
 (tSeq (tAsg (tOp cIx (tVar 0) (tC (.int 1))) (gName 2))
  (tRet (tTup (tCons (tOp cDiv (tVar 1) (tVar 2)) (tCons (tOp cMod (tVar 1) (tVar 2)) tNil)))))
abbrev eD9(Q:VK):Ends:={nx:=fun _ H'=>Q .non H',rt:=Q}
variable{K:Frag}{vs:List V}
theorem Ck{Q:VK}{E:XK}(h:lX K vs H Q E):p5 K (eD9 Q) (start ["floor","cell","wide"] vs) H:=by
 obtain⟨a,h,w,g,c,rfl,ha,w0,w1,k⟩:=h;show p5 K _ [some (.ref a),some (.int c),none] H;unfold p5;symm;rw[iK ha];refine be (a:=V.int w) rfl ?_;symm;refine⟨⟨w0,by omega⟩,w0,lnR rfl,k⟩
theorem uM(h w c:Int):(besL h w c).length<=4:=by
 unfold besL;simp only[LC]
 split <;> split <;> split <;> split <;> simp
def gD(K:Frag):Sp:=fun vs H Q _=>∃ a h w g c,vs=[.ref a,.int c]/\IsFl H a h w g/\0<w/\w<100/\∀ l H',Same H H'->H l=none->H' l=some (.lst ((besL h w c).map V.int))->Q (.ref l) H'
def rp(K:Frag):TS:=
 (tSeq (tAsg (tOp cIx (tVar 0) (tC (.int 0))) (gName 2))
  (tSeq (tAsg (tOp cIx (tVar 0) (tC (.int 1))) (gName 3))
  (tSeq (tAsg (tCall (lX K) [] E0 (tCons (tVar 0) (tCons (tVar 1) tNil))) (gName 4))
  (tSeq (tAsg (tLst tNil) (gName 5))
  (tSeq (tIfS (tTest (tOp (cCmp fun i j=>decide (j<i)) (tOp cIx (tVar 4) (tC (.int 0))) (tC (.int 0)))) (tDrop (tBM K "list" bD (tVar 5) (tCons (tOp cSub (tVar 1) (tVar 3)) tNil))) tNext)
  (tSeq (tIfS (tTest (tOp (cCmp fun i j=>decide (j<i)) (tOp cIx (tVar 4) (tC (.int 1))) (tC (.int 0)))) (tDrop (tBM K "list" bD (tVar 5) (tCons (tOp cSub (tVar 1) (tC (.int 1))) tNil))) tNext)
  (tSeq (tIfS (tTest (tOp (cCmp fun i j=>decide (i<j)) (tOp cIx (tVar 4) (tC (.int 1))) (tOp cSub (tVar 3) (tC (.int 1))))) (tDrop (tBM K "list" bD (tVar 5) (tCons (tOp cAdd (tVar 1) (tC (.int 1))) tNil))) tNext)
  (tSeq (tIfS (tTest (tOp (cCmp fun i j=>decide (i<j)) (tOp cIx (tVar 4) (tC (.int 0))) (tOp cSub (tVar 2) (tC (.int 1))))) (tDrop (tBM K "list" bD (tVar 5) (tCons (tOp cAdd (tVar 1) (tVar 3)) tNil))) tNext)
  (tRet (tVar 5))))))))))
theorem rq {D:Ends} {σ:St} {t:TT} {e:TE} {b:Bool} {v:Int} {l:Addr} (hσ:σ[i]? =some (some (.ref l))) (ht:∀ R,R b H->t σ H R) (hl:H l=some (.lst (ns.map V.int))) (hn:ns.length<=900)
  (he:∀ Q,Q (.int v) H->e σ H Q) (k:∀ H',(H' l=some (.lst ((ns++if b=true then [v] else []).map V.int)))->(∀ c,c≠l->H' c=H c)->D.nx σ H'):
  tIfS t (tDrop (tBM K "list" bD (tVar i) (tCons e tNil))) tNext D σ H:=by
 rw[aB];refine ht _ ?_
 cases b with
 | false=>
  refine iteF ?_;rw[ce];exact k H (by simpa using hl) fun _ _=>rfl
 | true=>
  refine iteT ?_;rw[cf,fG,Fz];refine⟨_,hσ,bA hl,?_⟩;rw[bR];refine he _ ?_;rw[da,gA hl];refine⟨by rw[Lp];exact aH (by omega),k _ ?_ fun c hc=>ao hc⟩;rw[aj];simp
theorem DT{Q:VK}{E:XK}(h:gD K vs H Q E):rp K (eD9 Q) (start ["floor","cell","high","wide","spot","found"] vs) H:=by
 obtain⟨a,h,w,g,c,rfl,ha,w0,w1,k⟩:=h;show rp K _ [some (.ref a),some (.int c),none,none,none,none] H;unfold rp;symm;rw[iK ha];refine be (a:=V.int h) rfl ?_;symm;rw[iK ha];refine be (a:=V.int w) rfl ?_;symm;refine⟨a,h,w,g,c,rfl,ha,w0,w1,fun p hp=>?_⟩;symm;refine⟨aW (by decide),fun l hl=>?_⟩;have npl:p≠l:=fun e=>by rw[e,aj] at hl;cases hl
 have hl0:H l=none:=by rw[ao npl.symm] at hl;exact hl
 have hpS:∀ H':Hp,(∀ d,d≠l->H' d=upd H p (.tup [.int (c/w),.int (c%w)]) d)->H' p=some (.tup [.int (c/w),.int (c%w)]):=fun H' e=>by rw[e p npl,aj]
 refine rq (ns:=[]) (l:=l) (i:=5) (b:=decide (0<c/w)) (v:=c-w) rfl (fun R q=>?_) aj (by decide) (fun Q q=>?_) fun H1 e1 f1=>?_
 . symm;rw[iK (hpS _ fun d hd=>ao hd)];refine be rfl ?_;symm;exact q
 . symm;exact q
 symm;refine rq (l:=l) (i:=5) (b:=decide (0<c%w)) (v:=c-1) rfl (fun R q=>?_) e1 (by simp;split <;> simp) (fun Q q=>?_) fun H2 e2 f2=>?_
 . symm;rw[iK (hpS _ fun d hd=>by rw[f1 d hd,ao hd])];refine be rfl ?_;symm;exact q
 . symm;exact q
 symm;refine rq (l:=l) (i:=5) (b:=decide (c%w<w-1)) (v:=c+1) rfl (fun R q=>?_) e2 (by simp;split <;> split <;> simp) (fun Q q=>?_) fun H3 e3 f3=>?_
 . symm;rw[iK (hpS _ fun d hd=>by rw[f2 d hd,f1 d hd,ao hd])];refine be rfl ?_;symm;exact q
 . symm;exact q
 symm;refine rq (l:=l) (i:=5) (b:=decide (c/w<h-1)) (v:=c+w) rfl (fun R q=>?_) e3 (by simp;split <;> split <;> split <;> simp) (fun Q q=>?_) fun H4 e4 f4=>?_
 . symm;rw[iK (hpS _ fun d hd=>by rw[f3 d hd,f2 d hd,f1 d hd,ao hd])];refine be rfl ?_;symm;exact q
 . symm;exact q
 symm;refine k l H4 (fun b o e=>?_) hl0 ?_
 . have nb:b≠l:=aD e hl0;have nbp:b≠p:=aD e hp;rw[f4 b nb,f3 b nb,f2 b nb,f1 b nb,ao nb,ao nbp];exact e
 . rw[e4];unfold besL;simp[Lw]
structure FlOk(h w g:Int):Prop where
 h0:1<=h
 h1:h<=6
 w0:1<=w
 w1:w<=6
 m:h*w<=16
 g0:1<=g
 g1:g<=6
section
variable{K:Frag}{H:Hp}{Q:VK}
theorem zG{p:Addr}{xs:List V}(hp:H p=some (.lst xs))(h:Q (.bl true) H):kIsi [.ref p,.ty "list"] H Q:=by
 refine⟨by decide,be (a:="list") (by unfold mr;dsimp only;rw[hp]) ?_⟩;rw[show isTy "list" "list"=true by decide];exact h
theorem zH{p:Addr}{xs:List V}(hp:H p=some (.tup xs))(h:Q (.bl true) H):kIsi [.ref p,.ty "tuple"] H Q:=by
 refine⟨by decide,be (a:="tuple") (by unfold mr;dsimp only;rw[hp]) ?_⟩;rw[show isTy "tuple" "tuple"=true by decide];exact h
theorem FW{p:Addr}{xs:List V}(hp:H p=some (.lst xs))(h:Q .non (upd H p (.lst []))):vx (.ref p) [] H Q:=by
 show bnd (unM (H p)) _;rw[hp];exact h
theorem rz{n:Nat}{t:TGs}{σ:St}{k:St->Hp->Prop}{p:Addr}{xs:List V}(hp:H p=some (.tup xs))(hn:xs.length=n)(h:t xs σ H k):gTup K n t (.ref p) σ H k:=⟨p,xs,rfl,OQ hp,hn,h⟩
theorem p6{i j:Nat}{x y:V}{σ:St}{k:St->Hp->Prop}:gCons (gName i) (gCons (gName j) gNil) [x,y] σ H k=k ((σ.set i (some x)).set j (some y)) H:=by
 refine propext ⟨?_,fun h=>⟨x,[y],rfl,y,[],rfl,rfl,h⟩⟩;rintro⟨v,r,e,v2,r2,e2,e3,h⟩;cases e;cases e2;exact h
end
end L2
namespace L2
open PySem PySem.Builtin PySem.Builtin.Str
def tx(l:List Nat):Str:=⟨l.toArray⟩
theorem vH(l:List Nat):(tx l).cps.toList=l:=by simp[tx]
theorem HN(x:Str):tx x.cps.toList=x:=by cases x;simp[tx]
theorem DU{a b:List Nat}(h:tx a=tx b):a=b:=by rw[← vH a,h,vH]
theorem fk(l:List Nat):(tx l).length=l.length:=by simp[tx,Str.length]
theorem mx(a b:List Nat):tx a++tx b=tx (a++b):=by
 refine Str.ext' ?_;rw[Str.cps_append];simp[tx]
theorem c6(a b:List Nat):decide (tx a=tx b)=decide (a=b):=by
 by_cases h:a=b
 . subst h;simp
 . have:¬ tx a=tx b:=fun e=>h (DU e);rw[Ls h,Ls this]
def catL(c:Nat):List (List Nat)->List Nat
 | []=>[]
 | [x]=>x
 | x::y::r=>x++c::catL c (y::r)
theorem tD(c:Nat):∀ ts:List (List Nat),Str.join (tx [c]) (ts.map tx)=tx (catL c ts)
 | []=>rfl
 | [x]=>rfl
 | x::y::r=>by
  show tx x++tx [c]++Str.join (tx [c]) ((y::r).map tx)=_;rw[tD c (y::r),mx,mx];show tx _=tx (x++c::catL c (y::r));rw[N7];rfl
theorem zI(sep:Str)(ts:List Str):Txt.join sep ts=Str.join sep ts:=StrLaws.glued_eq_join sep ts
theorem BO{c:Nat}:∀{a b x y:List Nat},c∉a->c∉b->a++c::x=b++c::y->a=b/\x=y
 | [],[],_,_,_,_,h=>⟨rfl,by simpa using h⟩
 | [],b::bs,_,_,_,hb,h=>by
  simp at h;exact absurd (LW.mpr (.inl h.1)) hb
 | a::as,[],_,_,ha,_,h=>by
  simp at h;exact absurd (LW.mpr (.inl h.1.symm)) ha
 | a::as,b::bs,x,y,ha,hb,h=>by
  simp at h;have:=BO (fun z=>ha (LI _ z)) (fun z=>hb (LI _ z)) h.2;exact⟨by rw[h.1,this.1],this.2⟩
theorem zJ{c:Nat}:∀{x:List Nat} {r:List (List Nat)} {y:List Nat},c∈catL c (x::y::r):=by
 intro x r y;show c∈x++c::_;simp
theorem zK{c:Nat}:∀{xs ys:List (List Nat)},xs≠[]->ys≠[]->(∀ x∈xs,c∉x)->(∀ y∈ys,c∉y)->catL c xs=catL c ys->xs=ys
 | [],_,h,_,_,_,_=>absurd rfl h
 | _,[],_,h,_,_,_=>absurd rfl h
 | [x],[y],_,_,_,_,h=>by
  have h':x=y:=h;rw[h']
 | [x],y::z::r,_,_,hx,_,h=>by
  have h':x=catL c (y::z::r):=h;exact absurd (h' ▸ zJ) (hx x LQ)
 | x::z::r,[y],_,_,_,hy,h=>by
  have h':catL c (x::z::r)=y:=h;exact absurd (h' ▸ zJ) (hy y LQ)
 | x::z::r,y::u::s,_,_,hx,hy,h=>by
  obtain⟨e1,e2⟩:=BO (hx x LQ) (hy y LQ) (show x++c::catL c (z::r)=y++c::catL c (u::s) from h);rw[e1,zK (by simp) (by simp) (fun w hw=>hx w (LI _ hw)) (fun w hw=>hy w (LI _ hw)) e2]
theorem Fa(x y:Str):Txt.split x y≠[]:=by
 intro h;unfold Txt.split at h
 split at h
 . cases h
 . split at h
   . cases h
   . rw[StrLaws.partsBetween_eq] at h;obtain⟨p,r,e⟩:=StrLaws.partsFrom_ne x y.length 0 (occurrences x y 0 x.length (x.length+1));rw[e] at h;cases h
theorem Fb{c:Nat}{Ld:List (List Nat)}(hne:Ld≠[])(hf:∀ r∈Ld,c∉r):Txt.split (tx (catL c Ld)) (tx [c])=Ld.map tx:=by
 have h1:=StrLaws.join_split (tx (catL c Ld)) (tx [c]);have h2:∀ p∈Txt.split (tx (catL c Ld)) (tx [c]),c∉p.cps.toList:=StrLaws.split_free _ c;have h3:=Fa (tx (catL c Ld)) (tx [c]);generalize Txt.split (tx (catL c Ld)) (tx [c])=S at*
 have e:S=(S.map (·.cps.toList)).map tx:=by
  rw[Mf]
  conv=>lhs;rw[← List.map_id S]
  exact NT fun x _=>(HN x).symm
 rw[e,tD] at h1;have h4:=DU h1;have h5:=zK (c:=c) (xs:=S.map (·.cps.toList)) (ys:=Ld) (by simpa using h3) hne (fun x hx=>by obtain⟨p,hp,rfl⟩:=LK.mp hx;exact h2 p hp) hf h4;rw[e,h5]
end L2
namespace L2
end L2
namespace L2
open PySem PySem.Spec PyProof.Rows
local macro_rules|`(tactic|walk_at "w")=>wk9 ws1
local macro_rules|`(tactic|symm)=>`(tactic|walk_at "w")
section
variable{k:Nat}{tt:TT}{te:TE}{fin:Addr->Hp->Prop}{σ0:St}{H1:Hp}
theorem DW {cs:List Nat} (b:Nat->Bool) (f:Nat->V) (hn:cs.length<=900)
  (ht:∀ i c H R,cs[i]? =some c->Same H1 H->(∀ H',Same H H'->R (b i) H')->tt (σ0.set k (some (.str (tx [c])))) H R)
  (he:∀ i c H Q,cs[i]? =some c->b i=true->Same H1 H->(∀ H',Same H H'->Q (f i) H')->te (σ0.set k (some (.str (tx [c])))) H Q)
  (hd:∀ l H,H1 l=none->Same H1 H->H l=some (.lst (((List.range cs.length).filter b).map f))->fin l H):
  CompR (Its (tx cs)) (gName k) tt te fin σ0 H1:=by
 intro l hl;have hsz:(tx cs).cps.size=cs.length:=by simp[tx]
 refine⟨fun i m σ H=>m=cs.length-i/\i<=cs.length/\(σ=σ0\/∃ cv,σ=σ0.set k cv)/\Same H1 H/\H l=some (.lst (((List.range i).filter b).map f)),⟨cs.length,by simp,Ml _,.inl rfl,(Lr H1).laid hl,by rw[aj];rfl⟩,?_⟩;rintro i m σ H ⟨rfl,hi,hσ,s1,el⟩;by_cases hlt:i<cs.length
 . refine .inr ⟨by show i < (tx cs).cps.size;rw[hsz];exact hlt,fun σ H=>(σ=σ0\/∃ cv,σ=σ0.set k cv)/\Same H1 H/\H l=some (.lst (((List.range (i+1)).filter b).map f)),fun σ' H' p'=>⟨cs.length - (i+1),by omega,rfl,hlt,p'⟩,?_⟩;rintro x H' ⟨rfl,c,hc,rfl⟩;have hc':cs[i]? =some c:=by simpa [tx] using hc
   show gName k (.str (tx [c])) σ H' _;rw[aR]
   have e:σ.set k (some (.str (tx [c])))=σ0.set k (some (.str (tx [c]))):=by
    rcases hσ with rfl | ⟨cv,rfl⟩
    . rfl
    . exact MX ..
   rw[e];refine ht i c H' _ hc' s1 fun H2 s2=>?_;have el2:=s2 _ _ el
   cases hb:b i with
   | false=>
    rw[LU Ly];refine⟨.inr ⟨_,rfl⟩,s1.trans s2,?_⟩;rw[Mz,Mg,Mn,hb]
    simpa using el2
   | true=>
    rw[LX rfl];refine he i c H2 _ hc' hb (s1.trans s2) fun H3 s3=>⟨_,s3 _ _ el2,by rw[Lp];exact aH (Lz (mw b hlt hn) (by decide)),.inr ⟨_,rfl⟩,((s1.trans s2).trans s3).own hl,?_⟩;rw[aj,Mz,Mg,Mn,hb];simp
 . have e:i=cs.length:=by omega
   subst e;exact .inl ⟨by show(tx cs).cps.size<=_;rw[hsz];exact LF _,hd l H hl s1 el⟩
end
theorem qz{α:Type}(xs:List Int)(g:Int->α):(List.range xs.length).map (fun i=>g (xs.getD i 0))=xs.map g:=by
 have e:xs=(List.range xs.length).map fun i=>xs.getD i 0:=by
  refine MB fun i=>?_;rw[Lu];by_cases h:i<xs.length
  . rw[Mv h,Lq h];simp[List.getD,h]
  . rw[LP (by omega),LP (by simpa using h)];rfl
 conv=>rhs;rw[e]
 rw[Mf];rfl
theorem rA{sep:Str}{ts:List Str}(h1:ts.length<=1000)(h2:∀ t∈ts,t.length<=1000)(h3:sep.length<=10):JoinOk sep ts=true:=by
 unfold JoinOk;rw[Oa];refine StrLaws.joinFits (B:=1000) h2 ?_;have a1:ts.length*1000<=1000*1000:=NK _ h1;have a2:ts.length*sep.length<=1000*10:=Nat.mul_le_mul h1 h3;omega
abbrev rIsN:R2:=fun x y H Q=>y=.non/\Q (.bl (decide (x=.non))) H
abbrev rNotN:R2:=fun x y H Q=>y=.non/\Q (.bl (!decide (x=.non))) H
def kStr:List V->Hp->VK->Prop
 | [.int i],H,Q=>i.natAbs.log2<1920/\Q (.str (Str.ofString (toString i))) H
 | _,_,_=>False
section
variable{X:Cx}
theorem fC:CallR X (.type "str") kStr:=by
 intro Lc s σ H xs us Q I r h;unfold kStr at h
 split at h
 . obtain⟨hi,q⟩:=h
   cases r with
   | cons r0 rr=>
    cases rr;obtain⟨t,rfl⟩:=r0;exact PySem.P.str_of_int hi ⟨.str _,H,I.tok _,⟨_,rfl⟩,q⟩
 . exact h.elim
end
section
variable{K:Frag}{H:Hp}{Q:VK}
theorem gY{x:V}:rIsN x .non H Q=Q (.bl (decide (x=.non))) H:=by simp[rIsN]
theorem fm{x:V}:rNotN x .non H Q=Q (.bl (!decide (x=.non))) H:=by simp[rNotN]
theorem gj{i:Int}:kStr [.int i] H Q=(i.natAbs.log2<1920/\Q (.str (Str.ofString (toString i))) H):=rfl
end
structure Bt2(mg:Str->Option Value):Prop extends Bt mg where
 all_:mg "all"=none
 sum_:mg "sum"=none
 enumerate_:mg "enumerate"=none
section
variable{K:Frag}{H:Hp}{Q:VK}{D:Ends}{σ:St}{g:TG}{tb:TS}{ta:TA}{ix:List (Option Nat)}{tt:TT}{te tf:TE}{k:Nat}
theorem gk:tIf tt te tf σ H Q=tt σ H fun c H1=>if c=true then te σ H1 Q else tf σ H1 Q:=rfl
theorem bV:tComp ix (sW ta) g tt te σ H Q=ta σ H fun vs H1=>∃ i j:Int,vs=[.int i,.int j]/\(-(2^62)<=i/\i<2^62/\ -(2^62)<=j/\j<2^62)/\CompR (Itr i (j-i).toNat) g tt te (fun l H'=>Q (.ref l) H') (subσ ix σ) H1:=rfl
theorem bB:sComp k ix (sW ta) g tt te D σ H=ta σ H fun vs H1=>∃ i j:Int,vs=[.int i,.int j]/\(-(2^62)<=i/\i<2^62/\ -(2^62)<=j/\j<2^62)/\CompR (Itr i (j-i).toNat) g tt te (fun l H'=>D.nx (σ.set k (some (.ref l))) H') (subσ ix σ) H1:=rfl
theorem isiE{x:V}{n t:String}{b:Bool}(hx:mr H x=some t)(hn:tq n=true)(hb:isTy t n=b):kIsi [x,.ty n] H Q=Q (.bl b) H:=by
 subst hb;show(tq n=true/\bnd (mr H x) fun t=>Q (.bl (isTy t n)) H)=_;rw[hx];simp only[hn,true_and,bp]
theorem bW{i:Int}:kIsi [.int i,.ty "int"] H Q=Q (.bl true) H:=isiE (t:="int") rfl (by decide) (by decide)
theorem bX{i:Int}:kIsi [.int i,.ty "bool"] H Q=Q (.bl false) H:=isiE (t:="int") rfl (by decide) (by decide)
theorem bY{i:Int}:kIsi [.int i,.ty "str"] H Q=Q (.bl false) H:=isiE (t:="int") rfl (by decide) (by decide)
theorem bZ{i:Bool}:kIsi [.bl i,.ty "bool"] H Q=Q (.bl true) H:=isiE (t:="bool") rfl (by decide) (by decide)
theorem b5{i:Bool}:kIsi [.bl i,.ty "int"] H Q=Q (.bl true) H:=isiE (t:="bool") rfl (by decide) (by decide)
theorem b6{i:Str}:kIsi [.str i,.ty "str"] H Q=Q (.bl true) H:=isiE (t:="str") rfl (by decide) (by decide)
theorem b7{i:Bool}:kIsi [.bl i,.ty "str"] H Q=Q (.bl false) H:=isiE (t:="bool") rfl (by decide) (by decide)
theorem dY{A B:Prop}:(if true=true then A else B)=A:=LX rfl
theorem dZ{A B:Prop}:(if false=true then A else B)=B:=LU Ly
theorem d2{i:Int}:rU (fun i=>.int (-i)) (.int i) H Q=Q (.int (-i)) H:=by
 refine propext ⟨?_,fun h=>⟨i,rfl,h⟩⟩;rintro⟨j,e,h⟩;cases e;exact h
theorem Fc {a:Addr} {xs:List V} (Pv:Nat->St->Hp->Prop) (h0:Pv 0 σ H) (hl:∀ i σ H,i<=xs.length->Pv i σ H->SqL K H a xs)
  (hs:∀ i x T σ H,xs[i]? =some x->Pv i σ H->H T=none->g (.ref T) σ (upd H T (.tup [.int i,x])) fun σ2 H2=>tb {D with nx:=Pv (i+1),ct:=Pv (i+1),bk:=D.nx} σ2 H2) (hd:∀ σ H,Pv xs.length σ H->D.nx σ H):
  LoopR (Ite K a) g tb D σ H:=by
 refine⟨fun i m σ H=>m=xs.length-i/\i<=xs.length/\Pv i σ H,⟨xs.length,by simp,Ml _,h0⟩,?_⟩;rintro i m σ H ⟨rfl,hi,p⟩;have q1:=hl i σ H hi p;by_cases hlt:i<xs.length
 . refine .inr ⟨⟨xs,xs[i],q1,by simp[hlt]⟩,Pv (i+1),fun σ' H' p'=>⟨xs.length - (i+1),by omega,rfl,hlt,p'⟩,fun v H' y=>?_⟩;obtain⟨T,x,rfl,hT,rfl,e1⟩:=y;exact hs i x T σ H (e1 xs q1) p hT
 . have e:i=xs.length:=by omega
   subst e;exact .inl ⟨⟨xs,q1,LF _⟩,hd σ H p⟩
theorem ixT{p:Addr}{i:Int}{xs:List V}{v:V}(h:H p=some (.tup xs))(e:atI xs i=some v)(q:Q v H):cIx (.ref p) (.int i) H Q:=by
 rw[iK h];exact be e q
theorem ixL{p:Addr}{i:Int}{xs:List V}{v:V}(h:H p=some (.lst xs))(e:atI xs i=some v)(q:Q v H):cIx (.ref p) (.int i) H Q:=by
 rw[FA h];exact be e q
theorem ixI{p:Addr}{i:Int}{ns:List Int}(h:H p=some (.lst (ns.map V.int)))(h0:0<=i)(h1:i<ns.length)(q:Q (.int (ns.getD i.toNat 0)) H):cIx (.ref p) (.int i) H Q:=ixL h (uL h0 h1) q
end
def cMulB:R2
 | .int i,.int j,H,Q=>IntMulOk i j/\Q (.int (i*j)) H
 | _,_,_,_=>False
end L2
namespace Att
open PySem PySem.W PySem.Calls PyProof.Rows
end Att
namespace L2
open PySem PySem.Spec PyProof.Rows
section
variable{K:Frag}{H:Hp}{Q:VK}{D:Ends}{σ:St}
theorem Ia{i j:Int}:cMulB (.int i) (.int j) H Q=(IntMulOk i j/\Q (.int (i*j)) H):=rfl
theorem gZ{i j:Int}:cPow (.int i) (.int j) H Q=(CPow i j/\Q (.int (i^j.toNat)) H):=rfl
theorem BP{ix:List (Option Nat)}{tl:TE}{g:TG}{tt:TT}{te:TE}:tComp ix (iTup K tl) g tt te σ H Q=tl σ H fun x H1=>∃ a,x=.ref a/\(∃ xs,SqT K H1 a xs)/\CompR (Itt K a) g tt te (fun l H'=>Q (.ref l) H') (subσ ix σ) H1:=rfl
theorem Cm{p:Addr}{bs:List Bool}(hp:H p=some (.lst (bs.map V.bl)))(h:Q (.bl (bs.any id)) H):kAny [.ref p] H Q:=by
 show bnd (unL (H p)) _;rw[hp];exact be (a:=bs.map V.bl) rfl ⟨bs,rfl,h⟩
theorem o4{p q:Addr}{xs ys:List V}(hp:H p=some (.lst xs))(hq:H q=some (.lst ys))(hn:xs.length+ys.length<=1000)(h:∀ r,H r=none->Q (.ref r) (upd H r (.lst (xs++ys)))):cAdd (.ref p) (.ref q) H Q:=by
 show bnd (unM (H p)) _;rw[hp];refine be (a:=xs) rfl ?_;rw[hq];exact be (a:=ys) rfl ⟨Mj (aH hn),h⟩
theorem Fd {g:TG} {tt:TT} {te:TE} {a:Addr} {xs:List V} {fin:Addr->Hp->Prop} {σ0:St} {H1:Hp} (Pv:Addr->Nat->St->Hp->Prop) (h0:∀ l,H1 l=none->Pv l 0 σ0 (upd H1 l (.lst []))) (hq:∀ l i σ H,H1 l=none->i<=xs.length->Pv l i σ H->SqT K H a xs)
  (hs:∀ l i x σ H,H1 l=none->xs[i]? =some x->Pv l i σ H->g x σ H fun σ2 H3=>tt σ2 H3 fun b H4=>if b=true then te σ2 H4 fun y H5=>∃ ys,H5 l=some (.lst ys)/\ys.length<sizeLine/\Pv l (i+1) σ2 (upd H5 l (.lst (ys++[y]))) else Pv l (i+1) σ2 H4)
  (hd:∀ l σ H,H1 l=none->Pv l xs.length σ H->fin l H):CompR (Itt K a) g tt te fin σ0 H1:=by
 intro l hl0;refine⟨fun i m σ H=>m=xs.length-i/\i<=xs.length/\Pv l i σ H,⟨xs.length,by simp,Ml _,h0 l hl0⟩,?_⟩;rintro i m σ H ⟨rfl,hi,p⟩;have q:=hq l i σ H hl0 hi p;by_cases hlt:i<xs.length
 . refine .inr ⟨⟨xs,xs[i],q,by simp[hlt]⟩,Pv l (i+1),fun σ' H' p'=>⟨xs.length - (i+1),by omega,rfl,hlt,p'⟩,fun x H' y=>?_⟩;obtain⟨e,y⟩:=y;subst e;exact hs l i x σ _ hl0 (y xs q) p
 . have e:i=xs.length:=by omega
   subst e;exact .inl ⟨⟨xs,q,LF _⟩,hd l σ H hl0 p⟩
end
inductive RK where
 | Rule | Unlike | Sum | Rising | Seen | Count | Joined | NoSquare | Ring
 deriving DecidableEq
structure RCl (ι:Type) where
 A:ι->Addr
 ok:ι->Bool
section
variable{ι:Type}
def tFldK(c:RCl ι)(ta:TE)(f:Str):TE:=fun σ H Q=>ta σ H fun x H1=>∃ a k dx fs v,x=.ref a/\c.ok k=true/\H1 a=some (.ins (c.A k) dx fs)/\fs.lookup f=some v/\Q v H1
def sFldK(c:RCl ι)(ta tv:TE)(f:Str):TS:=fun D σ H=>tv σ H fun y H1=>ta σ H1 fun x H2=>∃ a k dx fs,x=.ref a/\c.ok k=true/\H2 a=some (.ins (c.A k) dx fs)/\fs.length<1000/\
 D.nx σ (upd H2 a (.ins (c.A k) dx (putF f y fs)))
def aJ(c:RCl ι)(okm:ι->Bool)(m:Str)(sp:ι->Sp)(ta:TE)(t:TA):TE:=fun σ H Q=>ta σ H fun x H1=>∃ a k dx fs,x=.ref a/\okm k=true/\H1 a=some (.ins (c.A k) dx fs)/\fs.lookup m=none/\
 t σ H1 fun vs H2=>sp k (x::vs) H2 Q E0
structure FldK(K:Frag)(c:RCl ι)(f:Str):Prop where
 ex:∀ k,c.ok k=true->Cls K (c.A k)/\NoAttr K (c.A k) f
structure MCal(P:Program)(w:World)(K:Frag)(mg:Str->Option Value)(base:Heap)(c:RCl ι)(okm:ι->Bool)(k:Nat)(m:Str)(ps:List Str)(sp:ι->Sp):Prop where
 ex:∀ i,okm i=true->∃(f:Addr) (fd:FuncData),Cls K (c.A i)/\Meth K (c.A i) m f/\FnOk P w K mg base CX0 k f fd ps (sp i)/\Binds K fd ps []
structure KCal(P:Program)(w:World)(K:Frag)(mg:Str->Option Value)(base:Heap)(k:Nat)(x:Str)(C:Addr)(ps:List Str)(sp:Sp):Prop where
 ex:∃(f:Addr) (fd:FuncData),Mk K C f/\FnOk P w K mg base CX0 k f fd ps sp/\mg x=some (.ref C)/\Binds K fd ps []
end
section
variable{ι:Type}{X:Cx}{c:RCl ι}{o e value:Expr}{es:List Expr}{f x m:Str}{p pos pos' apos:Pos}{ta tv:TE}{t:TA}{okm:ι->Bool}{k n:Nat}{ps:List Str}{sp:ι->Sp}{sp1:Sp}{C:Addr}
theorem bE(he:PE X e ta)(F:FldK X.K c f)(hb:attributeBase e f X.env (eval e X.env)=eval e X.env:=by rfl):PE X (.Attribute e f pos) (tFldK c ta f):=by
 intro Lc s σ H Q I h;refine FL hb (thn (he Lc s σ H _ I h) fun u s1 ⟨x,H1,I1,rx,a,k,dx,fs,v,ex,hk,ea,l,q⟩=>?_);subst ex;obtain rfl:u=Value.ref a:=rx;obtain⟨cl,na⟩:=F.ex k hk;exact Cb I1 ea cl na l fun u' s2 I2 ru=>⟨v,H1,I2,ru,q⟩
theorem jg(ha:PE X o ta)(hv:PE X value tv)(F:FldK X.K c f)(hs:swapsWith value (some (.Attribute o f pos')) pos.line X.env=pure false:=by rfl):PS X (.Assign [.Attribute o f pos'] value pos) (sFldK c ta tv f):=by
 intro Lc s σ H D I h;refine plainObj_wpAny_Assign_Attribute (thn (hv Lc s σ H _ I h) fun u s1 ⟨y,H1,I1,ry,q⟩=>thn (ha Lc s1 σ H1 _ I1 q) fun ov s2 ⟨x,H2,I2,rx,a,k,dx,fs,ex,hk,ea,l,q2⟩=>?_) hs;subst ex;obtain rfl:ov=Value.ref a:=rx;obtain⟨cl,na⟩:=F.ex k hk;exact Cd I2 ea cl na l ry fun s3 I3=>⟨σ,_,I3,q2⟩
theorem cY {pl:Sem Bool} (M:MCal X.prog X.w X.K X.mg X.base c okm k m ps sp) (hr:Room n X.A) (hk:k<=n) (he:PE X o ta) (ha:PA X (e::es) t)
  (hst:starEach (e::es) X.env=(false,eval e X.env)::starEach es X.env:=by rfl) (hpl:(backTo pos (starEach es X.env)).any (·.1)=false:=by rfl)
  (ht:eval (.Call (.Attribute o m apos) (e::es) [] pos) X.env=(do
   let ov ← eval o X.env
   standAt apos.atName
   let (f,first) ← holding [ov] (getMethod ov m pl)
   callWith pos f first (backTo pos (starEach (e::es) X.env)) (backToKw pos (keywordEach [] X.env))):=by rfl):
  PE X (.Call (.Attribute o m apos) (e::es) [] pos) (aJ c okm m sp ta t):=by
 intro Lc s σ H Q I h;refine OB (pl:=pl) (thn (he Lc s σ H _ I h) fun u s1 ⟨x,H1,I1,rx,a,i,dx,fs,ex,hi,ea,l,q⟩=>?_) ht;subst ex;obtain rfl:u=Value.ref a:=rx;obtain⟨f,fd,cl,hm,F,hb⟩:=M.ex i hi;refine vn I1 ea cl hm l ?_;refine NZ (first:=[.ref a]) (h₀:=X.base) I.ok.mod.kin hm.kp (thn (ha pos Lc s1 σ H1 _ I1 q) fun us s2 ⟨vs,H2,I2,r,q2⟩=>⟨I2.kIn,?_⟩) hst hpl;exact zk (us:=.ref a::us) (vs:=.ref a::vs) F (hr.mono hk) hb .nil za I2 (.cons rfl r) (by rw[List.append_nil];exact q2)
theorem aM {pl:Sem Bool} (M:MCal X.prog X.w X.K X.mg X.base c okm k m ps sp) (hr:Room n X.A) (hk:k<=n) (he:PE X o ta)
  (ht:eval (.Call (.Attribute o m apos) [] [] pos) X.env=(do
   let ov ← eval o X.env
   standAt apos.atName
   let (f,first) ← holding [ov] (getMethod ov m pl)
   callWith pos f first (backTo pos (starEach [] X.env)) (backToKw pos (keywordEach [] X.env))):=by rfl):
  PE X (.Call (.Attribute o m apos) [] [] pos) (aJ c okm m sp ta tNil):=by
 intro Lc s σ H Q I h;refine OB (pl:=pl) (thn (he Lc s σ H _ I h) fun u s1 ⟨x,H1,I1,rx,a,i,dx,fs,ex,hi,ea,l,q⟩=>?_) ht;subst ex;obtain rfl:u=Value.ref a:=rx;obtain⟨f,fd,cl,hm,F,hb⟩:=M.ex i hi;refine vn I1 ea cl hm l ?_;exact PySem.W.callWith_K0 (first:=[.ref a]) I1.kIn hm.kp (zk (us:=[.ref a]) (vs:=[.ref a]) F (hr.mono hk) hb .nil za I1 (.cons rfl .nil) q)
theorem lY (M:KCal X.prog X.w X.K X.mg X.base k x C ps sp1) (hr:Room n X.A) (hk:k+1<=n) (hg:Gl X x) (ha:PA X (e::es) t)
  (hdb:(x==("__debug__":Str))=false:=by decide) (he:starEach (e::es) X.env=(false,eval e X.env)::starEach es X.env:=by rfl) (hpl:(backTo pos (starEach es X.env)).any (·.1)=false:=by rfl):
  PE X (.Call (.Name x p) (e::es) [] pos) (tMake C sp1 [] E0 t):=by
 obtain⟨f,fd,mk,F,hm,hb⟩:=M.ex;exact FN mk F (hr.mono hk) hg hm hb .nil za ha hdb he hpl
end
def my(K:Frag):List V->Hp->VK->Prop
 | [.ref p],H,Q=>bnd (unM (H p)) fun ys=>∀ l,H l=none->Q (.ref l) (upd H l (.tup ys))
 | _,_,_=>False
def tInG(ws:List Str)(neg:Bool)(te:TE):TE:=fun σ H Q=>te σ H fun x H1=>∃ z,x=.str z/\Q (.bl (if neg then !decide (z∈ws) else decide (z∈ws))) H1
structure GTup(K:Frag)(mg:Str->Option Value)(x:Str)(ws:List Str):Prop where
 ex:∃(p:Addr) (o:Obj) (Lg:Array Value) (n:Nat),mg x=some (.ref p)/\K.lookup p=some o/\o.cls=.type "tuple"/\o.data=.seq Lg n/\Lg.size<=sizeLine/\Vals (ws.map V.str) Lg.toList
theorem nr:∀ ns:List Str,(ns.map V.str).all flatV=true
 | []=>rfl
 | n::r=>by rw[L3,NH,nr r];rfl
theorem p7(i:Str):∀ ns:List Str,inV (.str i) (ns.map V.str)=decide (i∈ns)
 | []=>by simp[inV]
 | n::r=>by
  have ih:=p7 i r;unfold inV at ih ⊢;rw[L3,Nd,ih];show((n==i)||decide (i∈r))=decide (i∈n::r);rw[LV,Ow,Ni,Lw,Lw,LW];exact⟨fun h=>h.elim (fun e=>.inl e.symm) .inr,fun h=>h.elim (fun e=>.inl e.symm) .inr⟩
section
variable{X:Cx}{a:Expr}{ta:TE}{pos p:Pos}{x:Str}{ws:List Str}
theorem t9:CallR X (.type "tuple") (my X.K):=by
 intro Lc s σ H xs us Q I r h;unfold my at h
 split at h
 . obtain⟨ys,e,q⟩:=a8 h;exact yG Lc s σ H _ us Q I r ⟨_,ys,rfl,.inl ⟨LH (gw e),q⟩⟩
 . exact h.elim
theorem G5{ws:List Str}{q:Addr}(hq:∃(o:Obj) (Lg:Array Value) (n:Nat),X.K.lookup q=some o/\o.cls=.type "tuple"/\o.data=.seq Lg n/\Lg.size<=sizeLine/\Vals (ws.map V.str) Lg.toList):
  OpR X (compareOp .In) (fun x y H Q=>∃ z,x=.str z/\y=.ref q/\Q (.bl (decide (z∈ws))) H):=by
 intro Lc s σ H x y v u Q I rx ry h;obtain⟨z,rfl,rfl,h⟩:=h;refine rb Lc s σ H _ _ v u Q I rx ry ⟨q,ws.map V.str,rfl,.inr (.inr hq),rfl,nr ws,?_⟩;rw[p7];exact h
theorem FX{ws:List Str}{q:Addr}(hq:∃(o:Obj) (Lg:Array Value) (n:Nat),X.K.lookup q=some o/\o.cls=.type "tuple"/\o.data=.seq Lg n/\Lg.size<=sizeLine/\Vals (ws.map V.str) Lg.toList):
  OpR X (compareOp .NotIn) (fun x y H Q=>∃ z,x=.str z/\y=.ref q/\Q (.bl (!decide (z∈ws))) H):=by
 intro Lc s σ H x y v u Q I rx ry h;obtain⟨z,rfl,rfl,h⟩:=h;refine rd Lc s σ H _ _ v u Q I rx ry ⟨q,ws.map V.str,rfl,.inr (.inr hq),rfl,nr ws,?_⟩;rw[p7];exact h
end
section
variable{ι:Type}{c:RCl ι}{ta tv:TE}{t:TA}{f m:Str}{σ:St}{H:Hp}{Q:VK}{D:Ends}{okm:ι->Bool}{sp:ι->Sp}{sp1:Sp}{C:Addr}{K:Frag}
theorem fq:tMake C sp1 [] E0 t σ H Q=t σ H fun vs H1=>∀ x dx,H1 x=none->H1 dx=none->dx≠x->sp1 (.ref x::(vs++[])) (upd (upd H1 dx (.own x)) x (.ins C dx [])) (fun v H2=>v=.non/\Q (.ref x) H2) E0:=rfl
theorem g7{ws:List Str}{neg:Bool}{te:TE}:tInG ws neg te σ H Q=te σ H fun x H1=>∃ z,x=.str z/\Q (.bl (if neg then !decide (z∈ws) else decide (z∈ws))) H1:=rfl
theorem FY{p:Addr}{xs:List V}(hp:H p=some (.lst xs))(h:∀ l,H l=none->Q (.ref l) (upd H l (.tup xs))):my K [.ref p] H Q:=by
 unfold my;dsimp only;rw[hp];exact h
end
def cntD(ns:List Int):Nat:=(firstMet (fun i=>ns.getD i 0) ns.length).length
def tE(te:TE):TE:=fun σ H Q=>te σ H fun x H1=>∃ p ns,x=.ref p/\H1 p=some (.lst (ns.map V.int))/\ns.length<=900/\Q (.int (cntD ns:Nat)) H1
theorem cm{te:TE}{σ:St}{H:Hp}{Q:VK}:tE te σ H Q=te σ H fun x H1=>∃ p ns,x=.ref p/\H1 p=some (.lst (ns.map V.int))/\ns.length<=900/\Q (.int (cntD ns:Nat)) H1:=rfl
theorem FZ:bootBuiltins "set"=some (.type "set"):=by decide+kernel
theorem yf {X:Cx} {e:Expr} {te:TE} {p p2 pos pos2:Pos} (hc:X.calm=true) (hgl:Gl X "len") (hgs:Gl X "set") (hl:X.mg "len"=none) (hs:X.mg "set"=none) (he:PE X e te)
  (hs1:starEach [.Call (.Name "set" p2) [e] [] pos2] X.env=[(false,eval (.Call (.Name "set" p2) [e] [] pos2) X.env)]:=by rfl) (hs2:starEach [e] X.env=[(false,eval e X.env)]:=by rfl):
  PE X (.Call (.Name "len" p) [.Call (.Name "set" p2) [e] [] pos2] [] pos) (tE te):=by
 intro Lc s σ H Q I h;refine MJ (iC I hgl hl aG ?_ (by decide) (by decide));refine ND ?_ hs1 rfl;rw[hs1];show wpAny _ _ (spliced [(false,eval (.Call (.Name "set" p2) [e] [] pos2) X.env)]) _ _ s;refine Nq ?_;refine MJ (iC I hgs hs FZ ?_ (by decide) (by decide));refine Mx ?_ hs2 rfl;rw[hs2];show wpAny _ _ (spliced [(false,eval e X.env)]) _ _ s;refine Nq (thn (he Lc s σ H _ I h) fun u s1 ⟨x,H1,I1,r1,q1⟩=>?_);refine Nw ?_;obtain⟨l,ns,rfl,hys,hn,q⟩:=q1;cases r1;obtain⟨Lg,n,rv,ho,hz⟩:=I1.lst hys;have hL:s1.heap.IsList l Lg.toArray:=⟨_,ho,rfl,n,rfl⟩;have hI:IntsAre Lg ns:=vo rv;have Lj:=rv.length;rw[Lp] at Lj;refine call_set_list (ns:=ns) (I.ok.hd hc) hL (by simpa using hI) (by rw[LJ,← Lj];exact MD (Nat.succ_le_succ hn) (by decide)) fun h' tk hS old=>?_;refine Nw ?_;obtain⟨o,es,ep,t,h1,h2,h3,h4,h5,h6,h7,h8⟩:=hS;have hb:(firstMet (fun i=>ns.getD i 0) Lg.toArray.size).length<=900:=Lz (firstMet_length_le _ _) (by rw[LJ,← Lj];exact hn);refine call_len_set h1 h2 h3 h7 (by omega) ?_;have I2:Inv X Lc σ H1 {s1 with heap:=h',toks:=tk}:=I1.kept fun b o' e=>old b o' (LS e) e;refine⟨.int _,H1,I2.tok _,⟨_,rfl⟩,?_⟩;rw[h8,LJ,← Lj];exact q
def ju:V->List V->Hp->VK->Prop
 | .str sep,[.ref p],H,Q=>bnd (unS (H p)) fun ys=>∃ ts:List Str,ys=ts.map V.str/\JoinOk sep ts=true/\Q (.str (Txt.join sep ts)) H
 | _,_,_,_=>False
theorem rB{X:Cx}:MtR X "str.join" ju:=by
 intro Lc s σ H x vs v us Q I rx rv h;unfold ju at h
 split at h
 . rename_i sep p
   obtain⟨ys,e,ts,rfl,hok,q⟩:=a8 h;rcases oZ (K:=X.K) e with hq | hq
   . obtain⟨t,rfl⟩:=rx;obtain⟨u,rfl,ru⟩:=dv rv;cases ru;obtain⟨Lg,rvv,pl,hz⟩:=I.list hq;obtain⟨l,rfl,hl⟩:=xg rvv;exact SC.join pl.isList hl hok fun t' k=>⟨.str _,H,I.tok k,⟨t',rfl⟩,q⟩
   . obtain⟨t,rfl⟩:=rx;obtain⟨u,rfl,ru⟩:=dv rv;cases ru;obtain⟨Lg,rvv,pl,hz⟩:=I.tuple hq;obtain⟨l,rfl,hl⟩:=xg rvv;subst hl;obtain⟨o,h1,h2,n,h3⟩:=pl;have hok':=hok;unfold JoinOk at hok';rw[Oa] at hok';exact M1 F.slot_str_join (NE _ _ _) F.entry_str_join (F.args_str_join_2 _ _) (meets_str_join_tuple sep t p l hok') ⟨⟨o,n,h1,h2,h3⟩,post_join l ⟨joinFit_length hok',fun t' k=>⟨.str _,H,I.tok k,⟨t',rfl⟩,q⟩⟩⟩
 . exact h.elim
section
variable{X:Cx}{e:Expr}{te:TE}{p2 p3 p4 pos:Pos}{z0:Nat}
def vI:V->List V->Hp->VK->Prop
 | .ref l,[.int i],H,Q=>bnd (unM (H l)) fun xs=>0<=i/\i<xs.length/\bnd (xs[i.toNat]?) fun y=>Q y (upd H l (.lst (xs.eraseIdx i.toNat)))
 | _,_,_,_=>False
theorem seqIx{i:Int}{n:Nat}(h0:0<=i)(h1:i<n):seqIndex? i n=some i.toNat:=by
 obtain⟨k,rfl⟩:=M6 h0;have hk:k<n:=by omega
 unfold seqIndex?;have hn:¬ ((k:Int)<0):=by omega
 simp[hk,hn]
theorem DX:MtR X "list.pop" vI:=by
 intro Lc s σ H x vs v us Q I rx rv h;unfold vI at h
 split at h
 . obtain⟨xs,e,h0,h1,h⟩:=a8 h;obtain⟨y,ey,q⟩:=a8 h;have hz:xs.length<=sizeLine:=(I.lstM (gw e)).1;have hs:(sizeLine:Int)<2^63:=by decide
   exact E3 Lc s σ H _ _ v us Q I rx rv ⟨_,xs,_,_,y,rfl,rfl,gw e,by omega,by omega,seqIx h0 h1,ey,q⟩
 . exact h.elim
def tRevL(te:TE):TE:=fun σ H Q=>te σ H fun x H1=>∃ p xs,x=.ref p/\H1 p=some (.lst xs)/\∀ l,H1 l=none->Q (.ref l) (upd H1 l (.lst xs.reverse))
end
section
variable{σ:St}{H:Hp}{Q:VK}{te:TE}
theorem g8{i j:Int}{H:Hp}{Q:VK}:kMax [.int i,.int j] H Q=Q (.int (if j>i then j else i)) H:=rfl
theorem ft:tRevL te σ H Q=te σ H fun x H1=>∃ p xs,x=.ref p/\H1 p=some (.lst xs)/\∀ l,H1 l=none->Q (.ref l) (upd H1 l (.lst xs.reverse)):=rfl
theorem F0{l:Addr}{i:Int}{xs:List V}{y:V}(hl:H l=some (.lst xs))(h0:0<=i)(h1:i<xs.length)(ey:xs[i.toNat]? =some y)(q:Q y (upd H l (.lst (xs.eraseIdx i.toNat)))):vI (.ref l) [.int i] H Q:=by
 show bnd (unM (H l)) _;rw[hl];exact be (a:=xs) rfl ⟨h0,h1,be ey q⟩
end
theorem Cn:typeLookup (.type "str") (Str.ofString "__int__")=pure none:=by rw[Ox,Nz];kernel_rfl
theorem zL:typeLookup (.type "str") (Str.ofString "__index__")=pure none:=by rw[Ox,Nz];kernel_rfl
theorem zM:typeLookup (.type "str") (Str.ofString "__trunc__")=pure none:=by rw[Ox,Nz];kernel_rfl
def numC(n:Nat):List Nat:=if n<10 then [48+n] else [48+n/10,48+n%10]
variable{n:Nat}
theorem DY(h:n<100):((tx (numC n)).cps.all fun x=>decide (x<128))=true:=by
 have t:((List.range 100).all fun n=>(tx (numC n)).cps.all fun x=>decide (x<128))=true:=by decide+kernel
 exact LM.mp t n (LL.mpr h)
theorem DZ{α:Type}{M:Model}{A:Around}{E:Value->Shared->Prop}{s:Shared}{Q:α->Shared->Prop}{m m':Sem α}(e:m=m')(h:wpAny M A m' Q E s):wpAny M A m Q E s:=e ▸ h
theorem gis(n:Nat)(hn:n<100)(u:Tok):Gives (Builtin.«int.__new__» ⟨[.type "int",.str (tx (numC n)) u],[]⟩) (.int n):=
 .of_wp fun M A E s Q h=>by
  obtain⟨hp,g,d,tk,os⟩:=s;have f1:=PySem.F.conv_sub_int;have f2:=PySem.F.madeHere_int;have f3:=Cn;have f4:=zL;have f5:=zM
  iterate 44 (any_goals (first | assumption | wp_step))
  refine LZ (wpAny_of_eq (a:=some (tx (numC n))) rfl ?_);refine wpAny_of_eq (a:=some (numC n)) ?e1 ?_
  case e1=>
   show(pure (some (if ((tx (numC n)).cps.all fun x=>decide (x<128))=true then(tx (numC n)).cps.toList else _)):Sem _)=_;rw[LX (DY hn),vH]
  refine DZ (m':=mkInt (n:Int)) ?e2 ?_
  case e2=>
   clear h f1 f2 f3 f4 f5
   match n,hn with | 0,_=>kernel_rfl | 1,_=>kernel_rfl | 2,_=>kernel_rfl | 3,_=>kernel_rfl | 4,_=>kernel_rfl | 5,_=>kernel_rfl | 6,_=>kernel_rfl | 7,_=>kernel_rfl | 8,_=>kernel_rfl | 9,_=>kernel_rfl | 10,_=>kernel_rfl | 11,_=>kernel_rfl | 12,_=>kernel_rfl | 13,_=>kernel_rfl | 14,_=>kernel_rfl | 15,_=>kernel_rfl | 16,_=>kernel_rfl | 17,_=>kernel_rfl | 18,_=>kernel_rfl | 19,_=>kernel_rfl | 20,_=>kernel_rfl | 21,_=>kernel_rfl | 22,_=>kernel_rfl | 23,_=>kernel_rfl | 24,_=>kernel_rfl | 25,_=>kernel_rfl | 26,_=>kernel_rfl | 27,_=>kernel_rfl | 28,_=>kernel_rfl | 29,_=>kernel_rfl | 30,_=>kernel_rfl | 31,_=>kernel_rfl | 32,_=>kernel_rfl | 33,_=>kernel_rfl | 34,_=>kernel_rfl | 35,_=>kernel_rfl | 36,_=>kernel_rfl | 37,_=>kernel_rfl | 38,_=>kernel_rfl | 39,_=>kernel_rfl | 40,_=>kernel_rfl | 41,_=>kernel_rfl | 42,_=>kernel_rfl | 43,_=>kernel_rfl | 44,_=>kernel_rfl | 45,_=>kernel_rfl | 46,_=>kernel_rfl | 47,_=>kernel_rfl | 48,_=>kernel_rfl | 49,_=>kernel_rfl | 50,_=>kernel_rfl | 51,_=>kernel_rfl | 52,_=>kernel_rfl | 53,_=>kernel_rfl | 54,_=>kernel_rfl | 55,_=>kernel_rfl | 56,_=>kernel_rfl | 57,_=>kernel_rfl | 58,_=>kernel_rfl | 59,_=>kernel_rfl | 60,_=>kernel_rfl | 61,_=>kernel_rfl | 62,_=>kernel_rfl | 63,_=>kernel_rfl | 64,_=>kernel_rfl | 65,_=>kernel_rfl | 66,_=>kernel_rfl | 67,_=>kernel_rfl | 68,_=>kernel_rfl | 69,_=>kernel_rfl | 70,_=>kernel_rfl | 71,_=>kernel_rfl | 72,_=>kernel_rfl | 73,_=>kernel_rfl | 74,_=>kernel_rfl | 75,_=>kernel_rfl | 76,_=>kernel_rfl | 77,_=>kernel_rfl | 78,_=>kernel_rfl | 79,_=>kernel_rfl | 80,_=>kernel_rfl | 81,_=>kernel_rfl | 82,_=>kernel_rfl | 83,_=>kernel_rfl | 84,_=>kernel_rfl | 85,_=>kernel_rfl | 86,_=>kernel_rfl | 87,_=>kernel_rfl | 88,_=>kernel_rfl | 89,_=>kernel_rfl | 90,_=>kernel_rfl | 91,_=>kernel_rfl | 92,_=>kernel_rfl | 93,_=>kernel_rfl | 94,_=>kernel_rfl | 95,_=>kernel_rfl | 96,_=>kernel_rfl | 97,_=>kernel_rfl | 98,_=>kernel_rfl | 99,_=>kernel_rfl | (m+100),hm=>exact absurd hm (by omega)
  repeat (any_goals (first | assumption | wp_step))
  all_goals first | exact⟨_,rfl,h⟩ | skip
def p8:List V->Hp->VK->Prop
 | [.int i],H,Q=>Q (.int i) H
 | [.bl k],H,Q=>Q (.int (if k then 1 else 0)) H
 | [.str z],H,Q=>∃ n:Nat,n<100/\z=tx (numC n)/\Q (.int n) H
 | _,_,_=>False
theorem vJ{X:Cx}:CallR X (.type "int") p8:=by
 intro Lc s σ H xs us Q I r h;unfold p8 at h
 split at h
 . exact xV Lc s σ H _ us Q I r (.inl ⟨_,rfl,h⟩)
 . exact xV Lc s σ H _ us Q I r (.inr ⟨_,rfl,h⟩)
 . obtain⟨n,hn,rfl,q⟩:=h;obtain⟨u,rfl,ru⟩:=dv r;obtain⟨t,rfl⟩:=ru;exact call_int_1 (gis n hn t).meets (show(Made.int (n:Int)).post _ s from⟨rfl,⟨.int n,H,I.tok _,⟨_,rfl⟩,q⟩⟩)
 . exact h.elim
theorem dk{k:Bool}{H:Hp}{Q:VK}:p8 [.bl k] H Q=Q (.int (if k then 1 else 0)) H:=rfl
theorem dm{i:Int}{H:Hp}{Q:VK}:p8 [.int i] H Q=Q (.int i) H:=rfl
theorem tF(h:n<100):Str.ofString (toString (n:Int))=tx (numC n):=by
 have t:((List.range 100).all fun(n:Nat)=>decide (Str.ofString (toString (n:Int))=tx (numC n)))=true:=by decide+kernel
 simpa using LM.mp t n (LL.mpr h)
theorem uN(h:n<100):32∉numC n:=by
 have t:((List.range 100).all fun(n:Nat)=>decide (32∉numC n))=true:=by decide+kernel
 simpa using LM.mp t n (LL.mpr h)
theorem G6(h:n<100):numC n≠[]:=by unfold numC;split <;> simp
theorem fY:(numC n).length<=2:=by unfold numC;split <;> simp
theorem Fe(h:n<100):((numC n).head? =some 48->n=0)/\numC 0=[48]:=by
 have t:((List.range 100).all fun(n:Nat)=>decide ((numC n).head? =some 48->n=0))=true:=by decide+kernel
 exact⟨L9 (LM.mp t n (LL.mpr h)),rfl⟩
theorem BQ(h:n<100):∀ c∈numC n,48<=c/\c<=57:=by
 have t:((List.range 100).all fun(n:Nat)=>(numC n).all fun c=>decide (48<=c/\c<=57))=true:=by decide+kernel
 intro c hc
 simpa using LM.mp (LM.mp t n (LL.mpr h)) c hc
local macro_rules|`(tactic|walk_at "w")=>wk9 ws1
local macro_rules|`(tactic|symm)=>`(tactic|walk_at "w")
def b9(K:Frag):Sp:=fun vs H Q _=>∃ a h w g,vs=[.ref a]/\IsFl H a h w g/\1<=h/\h<=6/\Q (.int (h*w)) H
def lA(K:Frag):TS:=
 (tRet (tOp cMul (tOp cIx (tVar 0) (tC (.int 0))) (tOp cIx (tVar 0) (tC (.int 1)))))
variable{K:Frag}{vs:List V}{H:Hp}{Q:VK}{E:XK}
theorem yH(h:b9 K vs H Q E):lA K (eD9 Q) (start ["floor"] vs) H:=by
 obtain⟨a,h,w,g,rfl,ha,h0,h1,q⟩:=h;show lA K _ [some (.ref a)] H;unfold lA;symm;rw[iK ha];refine be (a:=V.int h) rfl ?_;symm;rw[iK ha];refine be (a:=V.int w) rfl ?_;symm;exact⟨nq h0 h1,q⟩
def cornB(h w c:Int):Bool:=decide (c/w<h-1)&&decide (c%w<w-1)
def mB(K:Frag):Sp:=fun vs H Q _=>∃ a h w g c,vs=[.ref a,.int c]/\IsFl H a h w g/\0<w/\w<100/\∀ H',Same H H'->Q (.bl (cornB h w c)) H'
def mC(K:Frag):TS:=
 (tSeq (tAsg (tCall (lX K) [] E0 (tCons (tVar 0) (tCons (tVar 1) tNil))) (gName 2))
  (tRet (tAndV (tOp (cCmp fun i j=>decide (i<j)) (tOp cIx (tVar 2) (tC (.int 0))) (tOp cSub (tOp cIx (tVar 0) (tC (.int 0))) (tC (.int 1)))) (tOp (cCmp fun i j=>decide (i<j)) (tOp cIx (tVar 2) (tC (.int 1))) (tOp cSub (tOp cIx (tVar 0) (tC (.int 1))) (tC (.int 1)))))))
theorem zN(h:mB K vs H Q E):mC K (eD9 Q) (start ["floor","cell","spot"] vs) H:=by
 obtain⟨a,h,w,g,c,rfl,ha,w0,w1,k⟩:=h;show mC K _ [some (.ref a),some (.int c),none] H;unfold mC;symm;refine⟨a,h,w,g,c,rfl,ha,w0,w1,fun p hp=>?_⟩;have s1:Same H (upd H p (.tup [.int (c/w),.int (c%w)])):=(Lr H).laid hp;have k1:=k _ s1;have ha1:=s1 _ _ ha;have hp1:(upd H p (.tup [.int (c/w),.int (c%w)])) p=some (.tup [.int (c/w),.int (c%w)]):=aj;generalize upd H p (.tup [.int (c/w),.int (c%w)])=H1 at*;symm;rw[iK hp1];refine be (a:=V.int (c/w)) rfl ?_;symm;rw[iK ha1];refine be (a:=V.int h) rfl ?_;symm;unfold cornB at k1
 cases hb:decide (c/w<h-1) with
 | false=>
  rw[hb,LA] at k1;exact iteF k1
 | true=>
  rw[hb,LD] at k1;refine iteT ?_;rw[iK hp1];refine be (a:=V.int (c%w)) rfl ?_;symm;rw[iK ha1];refine be (a:=V.int w) rfl ?_;symm;exact k1
def sqL(w c:Int):List Int:=[c,c+1,c+w,c+w+1]
def mD(K:Frag):Sp:=fun vs H Q _=>∃ a h w g c,vs=[.ref a,.int c]/\IsFl H a h w g/\∀ p,H p=none->Q (.ref p) (upd H p (.lst ((sqL w c).map V.int)))
def mE(K:Frag):TS:=
 (tSeq (tAsg (tOp cAdd (tVar 1) (tOp cIx (tVar 0) (tC (.int 1)))) (gName 2))
  (tRet (tLst (tCons (tVar 1) (tCons (tOp cAdd (tVar 1) (tC (.int 1))) (tCons (tVar 2) (tCons (tOp cAdd (tVar 2) (tC (.int 1))) tNil)))))))
theorem zO(h:mD K vs H Q E):mE K (eD9 Q) (start ["floor","corner","below"] vs) H:=by
 obtain⟨a,h,w,g,c,rfl,ha,k⟩:=h;show mE K _ [some (.ref a),some (.int c),none] H;unfold mE;symm;rw[iK ha];refine be (a:=V.int w) rfl ?_;symm;exact⟨lnR rfl,k⟩
def squL(h w:Int):List (List Int):=((List.range (h*w).toNat).filter fun(i:Nat)=>cornB h w i).map fun(i:Nat)=>sqL w i
def lZ(K:Frag):Sp:=fun vs H Q _=>∃ a h w g,vs=[.ref a]/\IsFl H a h w g/\FlOk h w g/\
 ∀ l as H',Same H H'->H l=none->IsLL H' l as (squL h w)->as.Nodup->l∉as->(∀ a∈as,H a=none)->Q (.ref l) H'
def p9(K:Frag):TS:=
 (tRet (tComp [none,none,some 0] (fD (tCons (tCall (b9 K) [] E0 (tCons (tVar 0) tNil)) tNil)) (gName 1) (tB (tCall (mB K) [] E0 (tCons (tVar 2) (tCons (tVar 1) tNil)))) (tCall (mD K) [] E0 (tCons (tVar 2) (tCons (tVar 1) tNil)))))
theorem NewAt.ll{H1:Hp}{l:Addr}{as:List Addr}{Lh:List (List Int)}(x:NewAt H1 H l as (Lh.map fun xs=>.lst (xs.map V.int)))(e:H l=some (.lst (as.map V.ref))):IsLL H l as Lh:=
 ⟨e,by rw[x.len,Lp],fun j a xs h1 h2=>x.at_ j a _ h1 (by rw[Lu,h2];rfl)⟩
theorem Co(h:lZ K vs H Q E):p9 K (eD9 Q) (start ["floor"] vs) H:=by
 obtain⟨a,h,w,g,rfl,ha,F,k⟩:=h;obtain⟨h0,h1,w0,w1,m16,g0,g1⟩:=F;have mpos:0<=h*w:=M8 (by omega) (by omega);show p9 K _ [some (.ref a)] H;unfold p9;symm;refine⟨a,h,w,g,rfl,ha,h0,h1,?_⟩;symm;refine⟨h*w,rfl,by omega,by omega,?_⟩;refine Bb (fun(i:Nat)=>cornB h w i) (fun(i:Nat)=>.lst ((sqL w i).map V.int)) (by omega) ?_ ?_ ?_
 . intro i H1 R hi s1 k1;show tB _ [none,some (.int (0+(i:Int))),some (.ref a)] H1 R;symm;rw[ML];exact⟨a,h,w,g,_,rfl,s1 _ _ ha,by omega,by omega,fun H2 s2=>⟨_,rfl,k1 H2 s2⟩⟩
 . intro i H1 Q1 hi hb s1 k1;show tCall _ _ _ _ [none,some (.int (0+(i:Int))),some (.ref a)] H1 Q1;symm;rw[ML];exact⟨a,h,w,g,_,rfl,s1 _ _ ha,fun p hp=>k1 p _ ((Lr H1).laid hp) hp aj⟩
 . intro l as H2 hl s2 el x
   have x':NewAt H H2 l as ((squL h w).map fun xs=>.lst (xs.map V.int)):=by
    unfold squL;rw[Mf];exact x
   exact k l as H2 s2 hl (x'.ll el) x.nd x.nl x.fr
def ws4:String:="ay fq g7 cm ft dk dm g8 gY fm gZ if_true if_false Bool.false_eq_true decide_true decide_false cV cW gk bV bB cT dX cU bT dU dW bS gi bW bX bZ b5 b6 b7 bY dY dZ d2 dR gj Bool.not_true Bool.not_false ay "++ws1
local macro_rules|`(tactic|walk_at "w")=>wk9 ws4
def nmC:RK->List Nat
 | .Rule=>[]
 | .Unlike=>[117,110,108,105,107,101]
 | .Sum=>[115,117,109]
 | .Rising=>[114,105,115,105,110,103]
 | .Seen=>[115,101,101,110]
 | .Count=>[99,111,117,110,116]
 | .Joined=>[106,111,105,110,101,100]
 | .NoSquare=>[110,111,115,113,117,97,114,101]
 | .Ring=>[114,105,110,103]
def g9:List Str:=[tx [115,117,109],tx [115,101,101,110],tx [99,111,117,110,116]]
def gE:List Str:=[tx [99,111,117,110,116],tx [106,111,105,110,101,100],tx [110,111,115,113,117,97,114,101],tx [114,105,110,103]]
def gl:List Str:=[tx [106,111,105,110,101,100],tx [110,111,115,113,117,97,114,101],tx [114,105,110,103]]
def rFs(p W C:Addr)(n m:Int):List (Str × V):=[("floor",.ref p),("words",.ref W),("cells",.ref C),("amount",.int n),("mark",.int m)]
structure IsRule(H:Hp)(c:RCl RK)(k:RK)(r p:Addr)(ws:List (List Nat))(cs:List Int)(n m:Int):Prop where
 ok:c.ok k=true
 ex:∃ dx W C,H r=some (.ins (c.A k) dx (rFs p W C n m))/\H W=some (.tup ((ws.map tx).map V.str))/\H C=some (.tup (cs.map V.int))
variable{H:Hp}{c:RCl RK}{p:Addr}{cs:List Int}
theorem IsRule.same{H':Hp}{k:RK}{r:Addr}{ws:List (List Nat)}{n m:Int}(x:IsRule H c k r p ws cs n m)(s:Same H H'):IsRule H' c k r p ws cs n m:=by
 obtain⟨dx,W,C,h1,h2,h3⟩:=x.ex;exact⟨x.ok,dx,W,C,s _ _ h1,s _ _ h2,s _ _ h3⟩
section
variable{ι:Type}{c:RCl ι}{σ:St}{H:Hp}{Q:VK}{i:Nat}{r dx:Addr}{k:ι}{fs:List (Str × V)}{f m:Str}{v:V}{okm:ι->Bool}{sp:ι->Sp}{t:TA}{D:Ends}{tv:TE}{y:V}{H1:Hp}
theorem fldE(hσ:σ[i]? =some (some (.ref r)))(ok:c.ok k=true)(hr:H r=some (.ins (c.A k) dx fs))(hl:fs.lookup f=some v)(q:Q v H):tFldK c (tVar i) f σ H Q:=pR hσ ⟨r,k,dx,fs,v,rfl,ok,hr,hl,q⟩
theorem methE(hσ:σ[i]? =some (some (.ref r)))(ok:okm k=true)(hr:H r=some (.ins (c.A k) dx fs))(hl:fs.lookup m=none)(q:t σ H fun vs H2=>sp k (.ref r::vs) H2 Q E0):aJ c okm m sp (tVar i) t σ H Q:=pR hσ ⟨r,k,dx,fs,rfl,ok,hr,hl,q⟩
theorem sfldV{j:Nat}{x:V}(hj:σ[j]? =some (some x))(hσ:σ[i]? =some (some (.ref r)))(ok:c.ok k=true)(hr:H r=some (.ins (c.A k) dx fs))(hn:fs.length<1000)(q:D.nx σ (upd H r (.ins (c.A k) dx (putF f x fs)))):sFldK c (tVar i) (tVar j) f D σ H:=
 pR hj (pR hσ ⟨r,k,dx,fs,rfl,ok,hr,hn,q⟩)
theorem sfldT {K:Frag} {j:Nat} {p:Addr} {xs:List V} (hj:σ[j]? =some (some (.ref p))) (hp:H p=some (.lst xs)) (hσ:σ[i]? =some (some (.ref r))) (ok:c.ok k=true) (hr:H r=some (.ins (c.A k) dx fs)) (hn:fs.length<1000)
  (q:∀ l,H l=none->D.nx σ (upd (upd H l (.tup xs)) r (.ins (c.A k) dx (putF f (.ref l) fs)))):sFldK c (tVar i) (tCB (my K) (tCons (tVar j) tNil)) f D σ H:=by
 unfold sFldK;symm;refine pR hj (FY hp fun l hl=>?_);exact pR hσ ⟨r,k,dx,fs,rfl,ok,by rw[ao (aD hr hl)];exact hr,hn,q l hl⟩
end
variable{Q:VK}
theorem F1{xs:List V}(hp:H p=some (.tup xs))(h:∀ l,H l=none->Q (.ref l) (upd H l (.lst xs))):kList [.ref p] H Q:=by
 unfold kList;dsimp only;rw[hp];exact h
theorem BR{sep:Str}{ts:List Str}(hp:H p=some (.lst (ts.map V.str)))(hok:JoinOk sep ts=true)(h:Q (.str (Txt.join sep ts)) H):ju (.str sep) [.ref p] H Q:=by
 unfold ju;dsimp only;rw[hp];exact⟨ts,rfl,hok,h⟩
variable{K:Frag}{fin:Addr->Hp->Prop}
theorem yg {a:Addr} {k:Nat} {tt:TT} {te:TE} {σ0:St} {H1:Hp} {xs:List Int} (b:Int->Bool) (f:Int->Int) (hn:xs.length<=900) (hq:H1 a=some (.tup (xs.map V.int)))
  (ht:∀ x H R,x∈xs->Same H1 H->(∀ H',Same H H'->R (b x) H')->tt (σ0.set k (some (.int x))) H R)
  (he:∀ x H Q,x∈xs->b x=true->Same H1 H->(∀ H',Same H H'->Q (.int (f x)) H')->te (σ0.set k (some (.int x))) H Q)
  (hd:∀ l H,H1 l=none->Same H1 H->H l=some (.lst (((xs.filter b).map f).map V.int))->fin l H):CompR (Itt K a) (gName k) tt te fin σ0 H1:=by
 refine Fd (xs:=xs.map V.int) (fun l i σ H=>(σ=σ0\/∃ cv,σ=σ0.set k cv)/\Same H1 H/\H l=some (.lst ((((xs.take i).filter b).map f).map V.int))) (fun l hl=>⟨.inl rfl,(Lr H1).laid hl,by rw[aj];rfl⟩) (fun l i σ H _ _ p=>OQ (p.2.1 _ _ hq)) ?_ (fun l σ H hl p=>hd l H hl p.2.1 (by have:=p.2.2;rw[Lp,M7] at this;exact this));rintro l i x σ H hl hx ⟨hσ,s1,el⟩;obtain⟨z,hz,rfl⟩:=ba hx;have hi:i<xs.length:=(Lx.mp hz).1;have et:xs.take (i+1)=xs.take i++[z]:=by rw[Nj,hz];rfl
 rw[aR]
 have e:σ.set k (some (.int z))=σ0.set k (some (.int z)):=by
  rcases hσ with rfl | ⟨cv,rfl⟩
  . rfl
  . exact MX ..
 rw[e];refine ht z H _ (LB hz) s1 fun H2 s2=>?_;have el2:=s2 _ _ el
 have Lj:((((xs.take i).filter b).map f).map V.int).length<sizeLine:=by
  rw[Lp,Lp];refine aH (Lz (LO b _) ?_);rw[Mm];omega
 cases hb:b z with
 | false=>
  rw[LU Ly];refine⟨.inr ⟨_,rfl⟩,s1.trans s2,?_⟩;rw[et,Mg,Mn,hb]
  simpa using el2
 | true=>
  rw[LX rfl];refine he z H2 _ (LB hz) hb (s1.trans s2) fun H3 s3=>⟨_,s3 _ _ el2,Lj,.inr ⟨_,rfl⟩,((s1.trans s2).trans s3).own hl,?_⟩;rw[aj,et,Mg,Mn,hb];simp
def xk(K:Frag)(c:RCl RK)(k:RK):Sp:=fun vs H Q _=>∃ r p w ws cs n m,vs=[.ref r]/\IsRule H c k r p (w::ws) cs n m/\Q (.str (tx w)) H
def iL(K:Frag)(c:RCl RK)(k:RK):Sp:=fun vs H Q _=>∃ r p ws cs n m,vs=[.ref r]/\IsRule H c k r p ws cs n m/\∀ l,H l=none->Q (.ref l) (upd H l (.lst (cs.map V.int)))
def jh(K:Frag)(c:RCl RK)(k:RK):Sp:=fun vs H Q _=>∃ r p ws cs n m,vs=[.ref r]/\IsRule H c k r p ws cs n m/\Q (.int n) H
def kA(K:Frag)(c:RCl RK)(k:RK):Sp:=fun vs H Q _=>∃ r p ws cs n m,vs=[.ref r]/\IsRule H c k r p ws cs n m/\Q (.int m) H
def sgAt(xs cs:List Int):List Int:=cs.map fun c=>xs.getD c.toNat 0
def mkAt(xs cs:List Int)(m:Int):List Int:=cs.filter fun c=>decide (xs.getD c.toNat 0=m)
def aP(cs:List Int)(n:Nat):Prop:=cs.length<=63/\∀ c∈cs,0<=c/\c<n
def fZ(K:Frag)(c:RCl RK)(k:RK):Sp:=fun vs H Q _=>∃ r p f ws cs xs n m,vs=[.ref r,.ref f]/\IsRule H c k r p ws cs n m/\H f=some (.lst (xs.map V.int))/\aP cs xs.length/\
 ∀ l H',Same H H'->H l=none->H' l=some (.lst ((sgAt xs cs).map V.int))->Q (.ref l) H'
def ji(K:Frag)(c:RCl RK)(k:RK):Sp:=fun vs H Q _=>∃ r p f ws cs xs n m,vs=[.ref r,.ref f]/\IsRule H c k r p ws cs n m/\H f=some (.lst (xs.map V.int))/\aP cs xs.length/\
 ∀ l H',Same H H'->H l=none->H' l=some (.lst ((mkAt xs cs m).map V.int))->Q (.ref l) H'
def risB:List Int->Bool
 | x::y::r=>decide (x<y)&&risB (y::r)
 | _=>true
def seenN(xs:List Int):Int × Int:=xs.foldl (fun a x=>if a.1<x then(x,a.2+1) else a) (0,0)
noncomputable def joinB (h w:Int) (ms:List Int):Bool:=@decide (ms=[]\/(ms.Pairwise (· < ·)/\∀ x∈ms,RC h w ms (ms.headD 0) x)) (Classical.propDecidable _)
def twoB(h w:Int)(ms:List Int)(c:Int):Bool:=decide (((besL h w c).filter fun y=>decide (y∈ms)).length=2)
noncomputable def hoB (k:RK) (h w:Int) (cs:List Int) (n m:Int) (xs:List Int):Bool:=match k with
 | .Unlike=>decide (cntD (sgAt xs cs)=(sgAt xs cs).length)
 | .Sum=>decide ((sgAt xs cs).sum=n)
 | .Rising=>risB (sgAt xs cs)
 | .Seen=>decide ((seenN (sgAt xs cs)).2=n)
 | .Count=>decide (((mkAt xs cs m).length:Int)=n)
 | .NoSquare=>!((squL h w).any fun sq=>sq.all fun c=>decide (c∈mkAt xs cs m))
 | .Joined=>joinB h w (mkAt xs cs m)
 | .Ring=>joinB h w (mkAt xs cs m)&&(mkAt xs cs m).all (twoB h w (mkAt xs cs m))
 | _=>true
def d7(K:Frag)(c:RCl RK)(k:RK):Sp:=fun vs H Q _=>∃ r p f ws cs xs n m h w g,vs=[.ref r,.ref f]/\IsRule H c k r p ws cs n m/\IsFl H p h w g/\FlOk h w g/\H f=some (.lst (xs.map V.int))/\aP cs xs.length/\(∀ x∈xs,0<=x/\x<=1000)/\
 ∀ H',Same H H'->Q (.bl (hoB k h w cs n m xs)) H'
def jv(K:Frag)(c:RCl RK)(k:RK):Sp:=fun vs H Q _=>∃ r p C ws cs ms n m h w g,vs=[.ref r,.ref C]/\IsRule H c k r p ws cs n m/\IsFl H p h w g/\FlOk h w g/\H C=some (.lst (ms.map V.int))/\ms.length<=63/\
 ∀ H',Same H H'->Q (.bl (joinB h w ms)) H'
def hJ(K:Frag)(c:RCl RK)(k:RK):Sp:=fun vs H Q _=>∃ r p C ws cs ms n m h w g z,vs=[.ref r,.ref C,.int z]/\IsRule H c k r p ws cs n m/\IsFl H p h w g/\FlOk h w g/\H C=some (.lst (ms.map V.int))/\ms.length<=63/\
 ∀ H',Same H H'->Q (.bl (twoB h w ms z)) H'
def aQ(K:Frag)(c:RCl RK):Sp:=fun vs H Q _=>∃ k x dx p W C ws cs n m,vs=[.ref x,.ref p,.ref W,.ref C,.int n,.int m]/\c.ok k=true/\H x=some (.ins (c.A k) dx [])/\W≠x/\C≠x/\
 H W=some (.lst ((ws.map tx).map V.str))/\H C=some (.lst (cs.map V.int))/\∀ H',(∀ b o,b≠x->H b=some o->H' b=some o)->IsRule H' c k x p ws cs n m->Q .non H'
def iM(K:Frag)(c:RCl RK):TS:=
 (tSeq (sFldK c (tVar 0) (tVar 1) "floor")
  (tSeq (sFldK c (tVar 0) (tCB (my K) (tCons (tVar 2) tNil)) "words")
  (tSeq (sFldK c (tVar 0) (tCB (my K) (tCons (tVar 3) tNil)) "cells")
  (tSeq (sFldK c (tVar 0) (tVar 4) "amount")
  (sFldK c (tVar 0) (tVar 5) "mark")))))
variable{vs:List V}{E:XK}
theorem uO(h:aQ K c vs H Q E):iM K c (eD9 Q) (start ["self","floor","words","cells","amount","mark"] vs) H:=by
 obtain⟨k,x,dx,p,W,C,ws,cs,n,m,rfl,ok,hx,nW,nC,hW,hC,q⟩:=h;show iM K c _ [some (.ref x),some (.ref p),some (.ref W),some (.ref C),some (.int n),some (.int m)] H;unfold iM;symm;refine sfldV (k:=k) (j:=1) rfl rfl ok hx (by decide) ?_;symm;refine sfldT (k:=k) (j:=2) (p:=W) rfl (by rw[ao nW];exact hW) rfl ok aj (by show(1:Nat)<1000;decide) fun l1 h1=>?_;have n1:l1≠x:=fun e=>by rw[e,aj] at h1;cases h1
 have g1:H l1=none:=by rw[ao n1] at h1;exact h1
 symm;refine sfldT (k:=k) (j:=3) (p:=C) rfl (by rw[ao nC,ao (aD hC g1),ao nC];exact hC) rfl ok aj (by show(2:Nat)<1000;decide) fun l2 h2=>?_;have n2:l2≠x:=fun e=>by rw[e,aj] at h2;cases h2
 have n21:l2≠l1:=fun e=>by rw[e,ao n1,aj] at h2;cases h2
 have g2:H l2=none:=by rw[ao n2,ao n21,ao n2] at h2;exact h2
 symm;refine sfldV (k:=k) (j:=4) rfl rfl ok aj (by show(3:Nat)<1000;decide) ?_;symm;refine sfldV (k:=k) (j:=5) rfl rfl ok aj (by show(4:Nat)<1000;decide) ?_;refine q _ (fun b o hb e=>?_) ⟨ok,dx,l1,l2,by rw[aj];rfl,?_,?_⟩
 . rw[ao hb,ao hb,ao hb,ao (aD e g2),ao hb,ao (aD e g1),ao hb];exact e
 . rw[ao n1,ao n1,ao n1,ao n21.symm,ao n1,aj]
 . rw[ao n2,ao n2,ao n2,aj]
def rC(K:Frag)(c:RCl RK):Sp:=fun vs H Q E=>∃ k,xk K c k vs H Q E
def mF(K:Frag)(c:RCl RK):TS:=
 (tRet (tOp cIx (tFldK c (tVar 0) "words") (tC (.int 0))))
theorem zP(h:rC K c vs H Q E):mF K c (eD9 Q) (start ["self"] vs) H:=by
 obtain⟨k,r,p,w,ws,cs,n,m,rfl,x,q⟩:=h;obtain⟨dx,W,C,h1,h2,h3⟩:=x.ex;show mF K c _ [some (.ref r)] H;unfold mF;symm;refine fldE rfl x.ok h1 (v:=.ref W) (by rfl) ?_;symm;have e0:atI (((w::ws).map tx).map V.str) 0=some (V.str (tx w)):=cR (j:=0) rfl;exact ixT h2 e0 q
def qA(K:Frag)(c:RCl RK):Sp:=fun vs H Q E=>∃ k,iL K c k vs H Q E
def lB(K:Frag)(c:RCl RK):TS:=
 (tRet (tCB kList (tCons (tFldK c (tVar 0) "cells") tNil)))
theorem yI(h:qA K c vs H Q E):lB K c (eD9 Q) (start ["self"] vs) H:=by
 obtain⟨k,r,p,ws,cs,n,m,rfl,x,q⟩:=h;obtain⟨dx,W,C,h1,h2,h3⟩:=x.ex;show lB K c _ [some (.ref r)] H;unfold lB;symm;refine fldE rfl x.ok h1 (v:=.ref C) (by rfl) ?_;symm;exact F1 h3 q
def o5(K:Frag)(c:RCl RK):Sp:=fun vs H Q E=>∃ k,jh K c k vs H Q E
def kB(K:Frag)(c:RCl RK):TS:=
 (tRet (tFldK c (tVar 0) "amount"))
theorem xm(h:o5 K c vs H Q E):kB K c (eD9 Q) (start ["self"] vs) H:=by
 obtain⟨k,r,p,ws,cs,n,m,rfl,x,q⟩:=h;obtain⟨dx,W,C,h1,h2,h3⟩:=x.ex;show kB K c _ [some (.ref r)] H;unfold kB;symm;exact fldE rfl x.ok h1 (v:=.int n) (by rfl) q
def rD(K:Frag)(c:RCl RK):Sp:=fun vs H Q E=>∃ k,kA K c k vs H Q E
def mG(K:Frag)(c:RCl RK):TS:=
 (tRet (tFldK c (tVar 0) "mark"))
theorem zQ(h:rD K c vs H Q E):mG K c (eD9 Q) (start ["self"] vs) H:=by
 obtain⟨k,r,p,ws,cs,n,m,rfl,x,q⟩:=h;obtain⟨dx,W,C,h1,h2,h3⟩:=x.ex;show mG K c _ [some (.ref r)] H;unfold mG;symm;exact fldE rfl x.ok h1 (v:=.int m) (by rfl) q
def mH(K:Frag)(c:RCl RK):Sp:=fun vs H Q E=>∃ k,fZ K c k vs H Q E
def iO(K:Frag)(c:RCl RK):TS:=
 (tRet (tComp [none,none,some 1] (iTup K (tFldK c (tVar 0) "cells")) (gName 1) tTrue (tOp cIx (tVar 2) (tVar 1))))
theorem uP(h:mH K c vs H Q E):iO K c (eD9 Q) (start ["self","filling"] vs) H:=by
 obtain⟨k,r,p,f,ws,cs,xs,n,m,rfl,x,hf,⟨hn,hc⟩,q⟩:=h;obtain⟨dx,W,C,h1,h2,h3⟩:=x.ex;show iO K c _ [some (.ref r),some (.ref f)] H;unfold iO;rw[ca,BP];refine fldE rfl x.ok h1 (v:=.ref C) (by rfl) ?_;refine⟨C,rfl,⟨_,OQ h3⟩,?_⟩;refine yg (xs:=cs) (fun _=>true) (fun c=>xs.getD c.toNat 0) (by omega) h3 ?_ ?_ ?_
 . intro x H1 R hx s1 k1;exact k1 _ (Lr _)
 . intro z H1 Q1 hz hb s1 k1;show tOp cIx _ _ [none,some (.int z),some (.ref f)] H1 Q1;symm;have:=hc z hz;exact ixI (s1 _ _ hf) this.1 (by omega) (k1 _ (Lr _))
 . intro l H1 hl s1 el;rw[a9] at el;exact q l H1 s1 hl el
def mI(K:Frag):Sp:=fun vs H Q _=>∃ n:Nat,vs=[.str (tx (numC n))]/\n<100/\∀ H',Same H H'->Q (.int n) H'
def mJ(K:Frag):TS:=
 (tSeq (tIfS (tOr (tTest (tOp (cEq K) (tVar 0) (tC (.str (tx []))))) (tOr (tTest (tOp (cCmp fun i j=>decide (j<i)) (tCB kLen (tCons (tVar 0) tNil)) (tC (.int 9)))) (tAnd (tTest (tOp (cEq K) (tOp cIx (tVar 0) (tC (.int 0))) (tC (.str (tx [48]))))) (tTest (tOp (cNe K) (tVar 0) (tC (.str (tx [48])))))))) (tRet (tC .non)) tNext)
  (tSeq (tIfS (tNot (tB (tCB kAll (tCons (tComp [none,none] (iStr (tVar 0)) (gName 1) tTrue (tOp (cIn K false) (tVar 1) (tC (.str (tx [48,49,50,51,52,53,54,55,56,57]))))) tNil)))) (tRet (tC .non)) tNext)
  (tRet (tCB p8 (tCons (tVar 0) tNil)))))
theorem G7{c:Nat}(h0:48<=c)(h1:c<=57):(!(Builtin.Str.occurrences (tx [48,49,50,51,52,53,54,55,56,57]) ⟨#[c]⟩ 0 (tx [48,49,50,51,52,53,54,55,56,57]).length 1).isEmpty)=true:=by
 have t:((List.range 58).all fun c=>!decide (48<=c)||!(Builtin.Str.occurrences (tx [48,49,50,51,52,53,54,55,56,57]) ⟨#[c]⟩ 0 (tx [48,49,50,51,52,53,54,55,56,57]).length 1).isEmpty)=true:=by decide+kernel
 have:=LM.mp t c (LL.mpr (by omega))
 simpa [h0] using this
theorem zR(h:mI K vs H Q E):mJ K (eD9 Q) (start ["word"] vs) H:=by
 obtain⟨n,rfl,hn,q⟩:=h;have hne:=G6 hn;have hl:=fY (n:=n);show mJ K _ [some (.str (tx (numC n)))] H;unfold mJ;rw[ay,aB];symm;rw[c6,Ls hne];refine iteF ⟨by rw[fk];exact aW (by omega),?_⟩;symm;rw[fk,Ls (show ¬ (9:Int) < ((numC n).length:Nat) by omega)];refine iteF ?_;rw[HM,fk,vH]
 obtain⟨c,r,ec⟩:∃ c r,numC n=c::r:=by
  cases e:numC n with
  | nil=>exact absurd e hne
  | cons c r=>exact⟨c,r,rfl⟩
 refine⟨aW (by omega),be (a:=c) (by rw[ec];exact cR (j:=0) rfl) ?_⟩;symm
 have e1:decide ((⟨#[c]⟩:Str)=tx [48])=decide (c=48):=by
  have:(⟨#[c]⟩:Str)=tx [c]:=rfl;rw[this,c6];simp
 rw[e1,c6]
 have e2:(decide (c=48)=true->decide (numC n=[48])=true):=by
  intro h;rw[Lw] at h;have:=(Fe hn).1 (by rw[ec,h];rfl);subst this;decide
 have goal2:tSeq (tIfS (tNot (tB (tCB kAll (tCons (tComp [none,none] (iStr (tVar 0)) (gName 1) tTrue (tOp (cIn K false) (tVar 1) (tC (.str (tx [48,49,50,51,52,53,54,55,56,57]))))) tNil)))) (tRet (tC .non)) tNext) (tRet (tCB p8 (tCons (tVar 0) tNil)))
   (eD9 Q) [some (.str (tx (numC n)))] H:=by
  rw[ay,aB];symm;refine DW (cs:=numC n) (fun _=>true) (fun _=>.bl true) (by omega) ?_ ?_ ?_
  . intro i c H1 R hc s1 k1;exact k1 _ (Lr _)
  . intro i c H1 Q1 hc hb s1 k1;have hd:=BQ hn c (LB hc);show tOp (cIn K false) _ _ [none,some (.str (tx [c]))] H1 Q1;symm;have q1:=k1 _ (Lr H1);show Q1 (.bl (if false=true then _ else !(Builtin.Str.occurrences (tx [48,49,50,51,52,53,54,55,56,57]) (tx [c]) 0 (tx [48,49,50,51,52,53,54,55,56,57]).length 1).isEmpty)) H1;rw[LU Ly,show tx [c]=⟨#[c]⟩ from rfl,G7 hd.1 hd.2];exact q1
  . intro l H1 hl1 s1 el
    have eb:((List.range (numC n).length).filter fun _=>true).map (fun _=>V.bl true)=(List.replicate (numC n).length true).map V.bl:=by
     rw[a9,List.map_const',Mp,N2]
    rw[eb] at el;refine lW el ?_
    have ea:(List.replicate (numC n).length true).all id=true:=by
     rw[LM];intro b hb;exact(Nt.mp hb).2
    rw[ea];symm;exact⟨n,hn,rfl,q _ s1⟩
 cases hc:decide (c=48) with
 | false=>
  refine iteF ?_;exact goal2
 | true=>
  refine iteT ?_;rw[e2 hc];exact goal2
def fH(K:Frag):Sp:=fun vs H Q _=>∃ n lo hi,vs=[.str (tx (numC n)),.int lo,.int hi]/\n<100/\lo<=n/\n<=hi/\∀ H',Same H H'->Q (.int n) H'
def iP(K:Frag):TS:=
 (tSeq (tAsg (tCall (mI K) [] E0 (tCons (tVar 0) tNil)) (gName 3))
  (tSeq (tIfS (tOr (tTest (tOp rIsN (tVar 3) (tC .non))) (tOr (tTest (tOp (cCmp fun i j=>decide (i<j)) (tVar 3) (tVar 1))) (tTest (tOp (cCmp fun i j=>decide (j<i)) (tVar 3) (tVar 2))))) cu tNext)
  (tRet (tVar 3))))
theorem uQ(h:fH K vs H Q E):iP K (eD9 Q) (start ["word","least","most","number"] vs) H:=by
 obtain⟨n,lo,hi,rfl,hn,h0,h1,q⟩:=h;show iP K _ [some (.str (tx (numC n))),some (.int lo),some (.int hi),none] H;unfold iP;symm;refine⟨n,rfl,hn,fun H1 s1=>?_⟩;symm;rw[aB];symm;rw[Ls (show ¬ V.int n=V.non from fun e=>nomatch e)];refine iteF ?_;rw[Ls (show ¬ (n:Int)<lo by omega)];refine iteF ?_;rw[Ls (show ¬ hi < (n:Int) by omega)];refine iteF ?_;symm;exact q _ s1
def WOk(ws:List (List Nat)):Prop:=∀ w∈ws,∀ c∈w,c<128
variable{w:List Nat}
theorem WOk.cons{ws:List (List Nat)}(h:∀ c∈w,c<128)(hs:WOk ws):WOk (w::ws):=fun v hv=>by
 rcases LW.mp hv with rfl | hv
 . exact h
 . exact hs v hv
variable{n:Nat}
theorem xo(h:n<100):∀ c∈numC n,c<128:=fun c hc=>by have:=BQ h c hc;omega
theorem Cp(h:∀ c∈w,c<128):PyData.strOk (tx w)=true:=by
 unfold PyData.strOk;simp[tx];intro c hc;have:=h c hc;omega
theorem WOk.strs{ws:List (List Nat)}(h:WOk ws):∀ x∈ws.map tx,PyData.strOk x=true:=fun x hx=>by
 obtain⟨w,hw,rfl⟩:=LK.mp hx;exact Cp (h w hw)
def d3(K:Frag):Sp:=fun vs H Q _=>∃ p n ws lo hi,vs=[.ref p,.int lo,.int hi]/\H p=some (.lst (((numC n::ws).map tx).map V.str))/\n<100/\WOk ws/\lo<=n/\n<=hi/\∀ H',Same H H'->Q (.int n) H'
def jw(K:Frag):TS:=
 (tSeq (tIfS (tTest (tOp (cEq K) (tVar 0) (tLst tNil))) cu tNext)
  (tRet (tCall (fH K) [] E0 (tCons (tOp cIx (tVar 0) (tC (.int 0))) (tCons (tVar 1) (tCons (tVar 2) tNil))))))
theorem DVs.strs{K:Frag}{H:Hp}:∀ ns:List Str,DVs K H (ns.map V.str) (ns.map PyData.str)
 | []=>.nil
 | n::r=>.cons (.str n) (DVs.strs r)
theorem nt(a b:Str):PyData.eqv (.str a) (.str b)=decide (a=b):=by
 rw[PyData.eqv];by_cases h:a=b
 . subst h;simp
 . simp[h]
theorem kU(ns:List Str)(hs:∀ x∈ns,PyData.strOk x=true):SeqAt.shaped (.list (ns.map PyData.str))=true:=by
 have h1:PyData.canLayAll0 (ns.map PyData.str)=true:=tz fun d hd=>by obtain⟨x,hx,rfl⟩:=LK.mp hd;rw[PyData.canLay0];exact hs x hx
 have h2:PyData.depthAll (ns.map PyData.str)<=0:=rn fun d hd=>by obtain⟨x,_,rfl⟩:=LK.mp hd;exact LF _
 simp[SeqAt.shaped,PyData.canLay0,h1,PyData.depth];omega
variable{xs:List Str}
theorem G8{q:Addr}{ys:List Str}(hp:H p=some (.lst (xs.map V.str)))(hq:H q=some (.lst (ys.map V.str)))(h1:∀ x∈xs,PyData.strOk x=true)(h2:∀ x∈ys,PyData.strOk x=true)(h:Q (.bl (decide (xs=ys))) H):cEq K (.ref p) (.ref q) H Q:=by
 show rEqD K (.ref p) (.ref q) H Q;refine⟨.list (xs.map PyData.str),.list (ys.map PyData.str),.lst (LH hp) (.strs xs),.lst (LH hq) (.strs ys),kU xs h1,kU ys h2,?_⟩;rw[PyData.eqv,xj PyData.str nt];exact h
theorem G9{q:Addr}{ys:List Str}(hp:H p=some (.lst (xs.map V.str)))(hq:H q=some (.lst (ys.map V.str)))(h1:∀ x∈xs,PyData.strOk x=true)(h2:∀ x∈ys,PyData.strOk x=true)(h:Q (.bl (!decide (xs=ys))) H):cNe K (.ref p) (.ref q) H Q:=by
 show rNeD K (.ref p) (.ref q) H Q;refine⟨.list (xs.map PyData.str),.list (ys.map PyData.str),.lst (LH hp) (.strs xs),.lst (LH hq) (.strs ys),kU xs h1,kU ys h2,?_⟩;rw[PyData.eqv,xj PyData.str nt];exact h
theorem vK(h:d3 K vs H Q E):jw K (eD9 Q) (start ["words","least","most"] vs) H:=by
 obtain⟨p,n,ws,lo,hi,rfl,hp,hn,hw,h0,h1,q⟩:=h;show jw K _ [some (.ref p),some (.int lo),some (.int hi)] H;unfold jw;rw[ay,aB];symm;refine⟨aW (by decide),fun l hl=>?_⟩;have s1:Same H (upd H l (.lst [])):=(Lr H).laid hl;refine G8 (s1 _ _ hp) (ys:=[]) aj (WOk.strs (WOk.cons (xo hn) hw)) (fun x hx=>nomatch hx) ?_;generalize upd H l (.lst [])=H1 at*;symm;rw[Ls (by simp)];refine iteF ?_;symm;have e0:atI (((numC n::ws).map tx).map V.str) 0=some (V.str (tx (numC n))):=cR (j:=0) rfl;refine ixL (s1 _ _ hp) e0 ?_;symm;exact⟨n,lo,hi,rfl,hn,h0,h1,fun H2 s2=>q _ (s1.trans s2)⟩
theorem Ff(acc:List Int)(v:Int):(step_dedup acc v).length<=acc.length+1:=by
 unfold step_dedup
 split <;> simp
theorem zS:∀(l acc:List Int),(l.foldl step_dedup acc).length<=acc.length+l.length
 | [],acc=>by simp
 | x::r,acc=>by
  have h1:=zS r (step_dedup acc x);have h2:=Ff acc x;rw[Nc,L0];omega
theorem ua:∀(l acc:List Int),acc.Nodup->((l.foldl step_dedup acc).length=acc.length+l.length↔(acc++l).Nodup)
 | [],acc,h=>by simpa using h
 | x::r,acc,h=>by
  rw[Nc];by_cases hx:x∈acc
  . have e:step_dedup acc x=acc:=by
     unfold step_dedup;rw[LX (by simpa using hx)]
    rw[e];have:=zS r acc;constructor
    . intro z;rw[L0] at z;omega
    . intro z;have:=(MY.mp z).2.2 x hx x LQ;exact absurd rfl this
  . have e:step_dedup acc x=acc++[x]:=by
     unfold step_dedup;rw[LU (by simpa using hx)]
    rw[e];have hn:(acc++[x]).Nodup:=MY.mpr ⟨h,by simp,fun a ha b hb z=>hx (by rw[LE.mp hb] at z;exact z ▸ ha)⟩;have ih:=ua r (acc++[x]) hn;rw[LC,Oz] at ih;rw[L0,show acc.length+(r.length+1)=acc.length+1+r.length by omega,show acc++x::r=acc++[x]++r by simp];exact ih
theorem xp(ns:List Int):(List.range ns.length).map (fun i=>ns.getD i 0)=ns:=by
 have:=qz ns (fun x=>x)
 simpa using this
theorem Fg(ns:List Int):cntD ns=ns.length↔ns.Nodup:=by
 unfold cntD firstMet;rw[xp];have:=ua ns [] N1
 simpa using this
def lC(K:Frag):Sp:=fun vs H Q _=>∃(a p:Addr) (h w g:Int) (ns:List Nat),vs=[.ref a,.ref p]/\IsFl H a h w g/\FlOk h w g/\H p=some (.lst (((ns.map numC).map tx).map V.str))/\ns≠[]/\ns.length<=16/\(∀ n∈ns,(n:Int)<h*w)/\ns.Nodup/\
 ∀ l H',Same H H'->H l=none->H' l=some (.lst ((ns.map fun(n:Nat)=>(n:Int)).map V.int))->Q (.ref l) H'
def lD(K:Frag):TS:=
 (tSeq (sComp 2 [none,none,some 0] (iList K (tVar 1)) (gName 1) tTrue (tCall (fH K) [] E0 (tCons (tVar 1) (tCons (tC (.int 0)) (tCons (tOp cSub (tCall (b9 K) [] E0 (tCons (tVar 2) tNil)) (tC (.int 1))) tNil)))))
  (tSeq (tIfS (tTest (tOp (cEq K) (tVar 2) (tLst tNil))) cu tNext)
  (tSeq (tIfS (tTest (tOp (cNe K) (tE (tVar 2)) (tCB kLen (tCons (tVar 2) tNil)))) cu tNext)
  (tRet (tVar 2)))))
variable{ns:List Nat}
theorem vL(h:ns.Nodup):(ns.map fun(n:Nat)=>(n:Int)).Nodup:=by
 induction ns with
 | nil=>exact N1
 | cons a r ih=>
  rw[MH] at h;rw[L3,MH];refine⟨fun z=>?_,ih h.2⟩;obtain⟨b,hb,e⟩:=LK.mp z
  exact h.1 (by have:b=a:=by omega
                exact this ▸ hb)
theorem yJ(h:lC K vs H Q E):lD K (eD9 Q) (start ["floor","words","cells"] vs) H:=by
 obtain⟨a,p,h,w,g,ns,rfl,ha,F,hp,hne,hn16,hlt,hnd,q⟩:=h;obtain⟨h0,h1,w0,w1,m16,g0,g1⟩:=F;show lD K _ [some (.ref a),some (.ref p),none] H;unfold lD;symm;refine⟨⟨_,LH hp⟩,?_⟩;refine bU (xs:=((ns.map numC).map tx).map V.str) (fun _=>true) (fun i=>.int (ns.getD i 0:Nat)) (by simp;omega) (LH hp) ?_ ?_ ?_
 . intro i x H1 R hx s1 k1;exact k1 _ (Lr _)
 . intro i x H1 Q1 hx hb s1 k1;rw[Lu,Lu,Lu] at hx
   cases e:ns[i]? with
   | none=>rw[e] at hx;cases hx
   | some n=>
    rw[e] at hx;cases hx;have hm:=hlt n (LB e);show tCall _ _ _ _ [none,some (.str (tx (numC n))),some (.ref a)] H1 Q1;symm;refine⟨a,h,w,g,rfl,s1 _ _ ha,h0,h1,?_⟩;symm;refine⟨n,0,_,rfl,by omega,by omega,by omega,fun H2 s2=>?_⟩;have q1:=k1 _ s2;have eg:ns.getD i 0=n:=by rw[List.getD,e];rfl
    rw[eg] at q1;exact q1
 . intro l H1 hl s1 el
   have ec:((List.range (((ns.map numC).map tx).map V.str).length).filter fun _=>true).map (fun i=>V.int (ns.getD i 0:Nat))=(ns.map fun(n:Nat)=>(n:Int)).map V.int:=by
    rw[a9,Lp,Lp,Lp,Mf];refine MB fun i=>?_;rw[Lu,Lu];by_cases h:i<ns.length
    . rw[Mv h,Lq h];simp[List.getD,h]
    . rw[LP (by simpa using h),LP (by omega)];rfl
   rw[ec] at el;symm;rw[aB];symm;refine⟨aW (by decide),fun z hz=>?_⟩;have s2:Same H1 (upd H1 z (.lst [])):=(Lr H1).laid hz;refine lU (s2 _ _ el) (ys:=[]) aj ?_;generalize upd H1 z (.lst [])=H2 at*;symm;rw[Ls (by simpa using hne)];refine iteF ?_;symm;rw[aB];symm;refine⟨l,_,rfl,s2 _ _ el,by rw[Lp];omega,?_⟩;rw[aN (s2 _ _ el),Lp];symm;rw[Lv (by rw[(Fg _).mpr (vL hnd)])];refine iteF ?_;symm;exact q l _ (s1.trans s2) hl (s2 _ _ el)
def allK:RK->Bool
 | .Joined=>true
 | .NoSquare=>true
 | .Ring=>true
 | _=>false
def numK:RK->Bool
 | .Sum=>true
 | .Seen=>true
 | .Count=>true
 | _=>false
def sgnK:RK->Bool
 | .Count=>true
 | .Joined=>true
 | .NoSquare=>true
 | .Ring=>true
 | _=>false
theorem Ha(k:RK):decide (tx (nmC k)∈gl)=allK k:=by cases k <;> decide+kernel
theorem Hc(k:RK):decide (tx (nmC k)∈g9)=numK k:=by cases k <;> decide+kernel
theorem Hd(k:RK):decide (tx (nmC k)∈gE)=sgnK k:=by cases k <;> decide+kernel
structure xq(k:RK)(h w:Int)(ns:List Nat)(cs:List Int):Prop where
 told:allK k=false->ns≠[]/\ns.length<=16/\(∀ n∈ns,(n:Int)<h*w)/\ns.Nodup/\cs=ns.map fun(n:Nat)=>(n:Int)
 all:allK k=true->ns=[]/\cs=rngL 0 (h*w)
def ou(K:Frag):Sp:=fun vs H Q _=>∃ k a p h w g ns cs,vs=[.ref a,.str (tx (nmC k)),.ref p]/\IsFl H a h w g/\FlOk h w g/\H p=some (.lst (((ns.map numC).map tx).map V.str))/\xq k h w ns cs/\(∀ n∈ns,n<100)/\
 ∀ l H',Same H H'->H l=none->H' l=some (.lst (cs.map V.int))->Q (.ref l) H'
def ow(K:Frag):TS:=
 (tSeq (tIfS (tB (tInG gl true (tVar 1))) (tRet (tCall (lC K) [] E0 (tCons (tVar 0) (tCons (tVar 2) tNil)))) tNext)
  (tSeq (tIfS (tTest (tOp (cNe K) (tVar 2) (tLst tNil))) cu tNext)
  (tRet (lj (tCons (tCall (b9 K) [] E0 (tCons (tVar 0) tNil)) tNil)))))
theorem Bc(h:ou K vs H Q E):ow K (eD9 Q) (start ["floor","name","words"] vs) H:=by
 obtain⟨k,a,p,h,w,g,ns,cs,rfl,ha,F,hp,hc,hn,q⟩:=h;obtain⟨h0,h1,w0,w1,m16,g0,g1⟩:=id F;have mpos:0<=h*w:=M8 (by omega) (by omega);show ow K _ [some (.ref a),some (.str (tx (nmC k))),some (.ref p)] H;unfold ow;rw[ay,aB];symm;rw[Ha]
 cases hk:allK k with
 | false=>
  obtain⟨c1,c2,c3,c4,rfl⟩:=hc.told hk;symm;exact⟨a,p,h,w,g,ns,rfl,ha,F,hp,c1,c2,c3,c4,q⟩
 | true=>
  obtain⟨rfl,rfl⟩:=hc.all hk;symm;rw[aB];symm;refine⟨aW (by decide),fun z hz=>?_⟩;have s1:Same H (upd H z (.lst [])):=(Lr H).laid hz;refine G9 (xs:=[]) (ys:=[]) (s1 _ _ hp) aj (fun x hx=>nomatch hx) (fun x hx=>nomatch hx) ?_;generalize upd H z (.lst [])=H1 at*;symm;refine⟨a,h,w,g,rfl,s1 _ _ ha,h0,h1,?_⟩;symm;refine⟨h*w,rfl,by omega,by omega,fun l hl=>?_⟩;exact q l _ (s1.laid hl) (s1.free hl) aj
def qb(K:Frag)(c:RCl RK):Sp:=fun vs H Q _=>∃ k p W C ws cs n m,vs=[.ref p,.ref W,.ref C,.int n,.int m]/\k≠.Rule/\c.ok k=true/\H W=some (.lst (((nmC k::ws).map tx).map V.str))/\H C=some (.lst (cs.map V.int))/\
 ∀ r H',Same H H'->H r=none->IsRule H' c k r p (nmC k::ws) cs n m->Q (.ref r) H'
def qc(K:Frag)(c:RCl RK):TS:=
 (tSeq (tAsg (tOp cIx (tVar 1) (tC (.int 0))) (gName 5))
  (tSeq (tIfS (tTest (tOp (cEq K) (tVar 5) (tC (.str (tx [117,110,108,105,107,101]))))) (tRet (tMake (c.A .Unlike) (aQ K c) [] E0 (tCons (tVar 0) (tCons (tVar 1) (tCons (tVar 2) (tCons (tVar 3) (tCons (tVar 4) tNil))))))) tNext)
  (tSeq (tIfS (tTest (tOp (cEq K) (tVar 5) (tC (.str (tx [115,117,109]))))) (tRet (tMake (c.A .Sum) (aQ K c) [] E0 (tCons (tVar 0) (tCons (tVar 1) (tCons (tVar 2) (tCons (tVar 3) (tCons (tVar 4) tNil))))))) tNext)
  (tSeq (tIfS (tTest (tOp (cEq K) (tVar 5) (tC (.str (tx [114,105,115,105,110,103]))))) (tRet (tMake (c.A .Rising) (aQ K c) [] E0 (tCons (tVar 0) (tCons (tVar 1) (tCons (tVar 2) (tCons (tVar 3) (tCons (tVar 4) tNil))))))) tNext)
  (tSeq (tIfS (tTest (tOp (cEq K) (tVar 5) (tC (.str (tx [115,101,101,110]))))) (tRet (tMake (c.A .Seen) (aQ K c) [] E0 (tCons (tVar 0) (tCons (tVar 1) (tCons (tVar 2) (tCons (tVar 3) (tCons (tVar 4) tNil))))))) tNext)
  (tSeq (tIfS (tTest (tOp (cEq K) (tVar 5) (tC (.str (tx [99,111,117,110,116]))))) (tRet (tMake (c.A .Count) (aQ K c) [] E0 (tCons (tVar 0) (tCons (tVar 1) (tCons (tVar 2) (tCons (tVar 3) (tCons (tVar 4) tNil))))))) tNext)
  (tSeq (tIfS (tTest (tOp (cEq K) (tVar 5) (tC (.str (tx [106,111,105,110,101,100]))))) (tRet (tMake (c.A .Joined) (aQ K c) [] E0 (tCons (tVar 0) (tCons (tVar 1) (tCons (tVar 2) (tCons (tVar 3) (tCons (tVar 4) tNil))))))) tNext)
  (tSeq (tIfS (tTest (tOp (cEq K) (tVar 5) (tC (.str (tx [110,111,115,113,117,97,114,101]))))) (tRet (tMake (c.A .NoSquare) (aQ K c) [] E0 (tCons (tVar 0) (tCons (tVar 1) (tCons (tVar 2) (tCons (tVar 3) (tCons (tVar 4) tNil))))))) tNext)
  (tSeq (tIfS (tTest (tOp (cEq K) (tVar 5) (tC (.str (tx [114,105,110,103]))))) (tRet (tMake (c.A .Ring) (aQ K c) [] E0 (tCons (tVar 0) (tCons (tVar 1) (tCons (tVar 2) (tCons (tVar 3) (tCons (tVar 4) tNil))))))) tNext)
  cu)))))))))
theorem F2{k:RK}{W C:Addr}{ws:List (List Nat)}{n m:Int}(ok:c.ok k=true)(hW:H W=some (.lst ((ws.map tx).map V.str)))(hC:H C=some (.lst (cs.map V.int)))(q:∀ r H',Same H H'->H r=none->IsRule H' c k r p ws cs n m->Q (.ref r) H'):
  ∀ x dx,H x=none->H dx=none->dx≠x->aQ K c (.ref x::([.ref p,.ref W,.ref C,.int n,.int m]++[])) (upd (upd H dx (.own x)) x (.ins (c.A k) dx [])) (fun v H2=>v=.non/\Q (.ref x) H2) E0:=by
 intro x dx hx hd ne;refine⟨k,x,dx,p,W,C,ws,cs,n,m,rfl,ok,aj,aD hW hx,aD hC hx,?_,?_,fun H' hs hr=>⟨rfl,q x H' (fun b o e=>hs b o (aD e hx) ?_) hx hr⟩⟩
 . rw[ao (aD hW hx),ao (aD hW hd)];exact hW
 . rw[ao (aD hC hx),ao (aD hC hd)];exact hC
 . rw[ao (aD e hx),ao (aD e hd)];exact e
theorem Cq(h:qb K c vs H Q E):qc K c (eD9 Q) (start ["floor","words","cells","amount","mark","name"] vs) H:=by
 obtain⟨k,p,W,C,ws,cs,n,m,rfl,hk,ok,hW,hC,q⟩:=h;have mk:=F2 (K:=K) ok hW hC q;have e0:atI (((nmC k::ws).map tx).map V.str) 0=some (V.str (tx (nmC k))):=cR (j:=0) rfl;show qc K c _ [some (.ref p),some (.ref W),some (.ref C),some (.int n),some (.int m),none] H;unfold qc;symm;refine ixL hW e0 ?_
 have D:∀(l:List Nat) (t:TS) (u:TS) (D:Ends) (b:Bool),decide (nmC k=l)=b->(if b=true then t D [some (.ref p),some (.ref W),some (.ref C),some (.int n),some (.int m),some (.str (tx (nmC k)))] H else u D [some (.ref p),some (.ref W),some (.ref C),some (.int n),some (.int m),some (.str (tx (nmC k)))] H)->
   tIfS (tTest (tOp (cEq K) (tVar 5) (tC (.str (tx l))))) t u D [some (.ref p),some (.ref W),some (.ref C),some (.int n),some (.int m),some (.str (tx (nmC k)))] H:=fun l t u D b hb hq=>by
  rw[aB];symm;rw[c6,hb];exact hq
 have R:∀(D:Ends),D.rt=Q->tRet (tMake (c.A k) (aQ K c) [] E0 (tCons (tVar 0) (tCons (tVar 1) (tCons (tVar 2) (tCons (tVar 3) (tCons (tVar 4) tNil)))))) D [some (.ref p),some (.ref W),some (.ref C),some (.int n),some (.int m),some (.str (tx (nmC k)))] H:=fun D hD=>by
  symm;rw[hD];exact mk
 cases k with
 | Rule=>exact absurd rfl hk
 | Unlike=>exact D _ _ _ _ true (by decide) (iteT (R _ rfl))
 | Sum=>exact D _ _ _ _ false (by decide) (iteF (D _ _ _ _ true (by decide) (iteT (R _ rfl))))
 | Rising=>exact D _ _ _ _ false (by decide) (iteF (D _ _ _ _ false (by decide) (iteF (D _ _ _ _ true (by decide) (iteT (R _ rfl))))))
 | Seen=>exact D _ _ _ _ false (by decide) (iteF (D _ _ _ _ false (by decide) (iteF (D _ _ _ _ false (by decide) (iteF (D _ _ _ _ true (by decide) (iteT (R _ rfl))))))))
 | Count=>exact D _ _ _ _ false (by decide) (iteF (D _ _ _ _ false (by decide) (iteF (D _ _ _ _ false (by decide) (iteF (D _ _ _ _ false (by decide) (iteF (D _ _ _ _ true (by decide) (iteT (R _ rfl))))))))))
 | Joined=>exact D _ _ _ _ false (by decide) (iteF (D _ _ _ _ false (by decide) (iteF (D _ _ _ _ false (by decide) (iteF (D _ _ _ _ false (by decide) (iteF (D _ _ _ _ false (by decide) (iteF (D _ _ _ _ true (by decide) (iteT (R _ rfl))))))))))))
 | NoSquare=>exact D _ _ _ _ false (by decide) (iteF (D _ _ _ _ false (by decide) (iteF (D _ _ _ _ false (by decide) (iteF (D _ _ _ _ false (by decide) (iteF (D _ _ _ _ false (by decide) (iteF (D _ _ _ _ false (by decide) (iteF (D _ _ _ _ true (by decide) (iteT (R _ rfl))))))))))))))
 | Ring=>exact D _ _ _ _ false (by decide) (iteF (D _ _ _ _ false (by decide) (iteF (D _ _ _ _ false (by decide) (iteF (D _ _ _ _ false (by decide) (iteF (D _ _ _ _ false (by decide) (iteF (D _ _ _ _ false (by decide) (iteF (D _ _ _ _ false (by decide) (iteF (D _ _ _ _ true (by decide) (iteT (R _ rfl))))))))))))))))
def rowW(k:RK)(n m:Nat)(ns:List Nat):List (List Nat):=nmC k::((if numK k then [numC n] else [])++(if sgnK k then [numC m] else [])++ns.map numC)
structure zT(k:RK)(h w g:Int)(n m:Nat)(ns:List Nat)(cs:List Int):Prop where
 k0:k≠.Rule
 n0:n<=99
 nz:numK k=false->n=0
 m0:sgnK k=true->1<=(m:Int)/\(m:Int)<=g
 mz:sgnK k=false->m=0
 cl:xq k h w ns cs
 ns0:∀ x∈ns,x<100
 len:ns.length<=16
def mK(K:Frag)(c:RCl RK):Sp:=fun vs H Q _=>∃ k p h w g n m ns cs,vs=[.ref p,.str (tx (catL 32 (rowW k n m ns)))]/\IsFl H p h w g/\FlOk h w g/\zT k h w g n m ns cs/\c.ok k=true/\
 ∀ r H',Same H H'->H r=none->IsRule H' c k r p (rowW k n m ns) cs n m->Q (.ref r) H'
def gm(K:Frag)(c:RCl RK):TS:=
 (tRet (tCall (qb K c) [] E0 (tCons (tVar 0) (tCons (tVar 2) (tCons (tCall (ou K) [] E0 (tCons (tVar 0) (tCons (tVar 3) (tCons (tVar 4) tNil)))) (tCons (tVar 5) (tCons (tVar 6) tNil)))))))
def jx(K:Frag)(c:RCl RK):TS:=
 (tSeq (tAsg (tOp cIx (tVar 2) (tC (.int 0))) (gName 3))
  (tSeq (tAsg (tSl ky (tVar 2) (tPart (tC (.int 1))) fW) (gName 4))
  (tSeq (tAsg (tC (.int 0)) (gName 5))
  (tSeq (tAsg (tC (.int 0)) (gName 6))
  (tSeq (tIfS (tB (tInG g9 false (tVar 3))) (tSeq (tAsg (tCall (d3 K) [] E0 (tCons (tVar 4) (tCons (tC (.int 0)) (tCons (tC (.int 99)) tNil)))) (gName 5))
  (tAsg (tSl ky (tVar 4) (tPart (tC (.int 1))) fW) (gName 4))) tNext)
  (tSeq (tIfS (tB (tInG gE false (tVar 3))) (tSeq (tAsg (tCall (d3 K) [] E0 (tCons (tVar 4) (tCons (tC (.int 1)) (tCons (tOp cIx (tVar 0) (tC (.int 2))) tNil)))) (gName 6))
  (tAsg (tSl ky (tVar 4) (tPart (tC (.int 1))) fW) (gName 4))) tNext)
  (gm K c)))))))
def mL(K:Frag)(c:RCl RK):TS:=
 (tSeq (tIfS (tNot (tB (tCB kIsi (tCons (tVar 1) (tCons (tC (.ty "str")) tNil))))) cu tNext)
  (tSeq (tAsg (tBM K "str" vC (tVar 1) (tCons (tC (.str (tx [32]))) tNil)) (gName 2))
  (jx K c)))
theorem F3(k:RK):32∉nmC k:=by cases k <;> decide
theorem HP(k:RK):∀ c∈nmC k,c<128:=by cases k <;> decide
variable{m:Nat}
theorem Ea{k:RK}(hn:n<100)(hm:m<100)(hs:∀ x∈ns,x<100):∀ r∈rowW k n m ns,32∉r:=by
 intro r hr;unfold rowW at hr;rcases LW.mp hr with rfl | hr
 . exact F3 k
 rcases LR.mp hr with hr | hr
 . rcases LR.mp hr with hr | hr
   . split at hr
     . rw[LE.mp hr];exact uN hn
     . cases hr
   . split at hr
     . rw[LE.mp hr];exact uN hm
     . cases hr
 . obtain⟨x,hx,rfl⟩:=LK.mp hr;exact uN (hs x hx)
theorem Fh(xs:List V):cutV xs (some 1) none=xs.drop 1:=by
 unfold cutV;have h1:HT.sIx xs.length 0 (some 1)=min 1 xs.length:=HT.sIx_nat ..;have h2:HT.sIx xs.length xs.length none=xs.length:=rfl;rw[h1,h2]
 cases xs with
 | nil=>rfl
 | cons x r=>
  have:min 1 (x::r).length=1:=by simp
  rw[this];show(r).take _=r;rw[Mh (by simp)]
theorem nu {k:RK} {W R:Addr} {h w g:Int} {ws:List (List Nat)} {lv:V} (F:FlOk h w g) (ha:IsFl H p h w g) (hW:H W=some (.lst (((nmC k::ws).map tx).map V.str))) (hR:H R=some (.lst (((ns.map numC).map tx).map V.str))) (hc:xq k h w ns cs) (hn:∀ x∈ns,x<100) (k0:k≠.Rule) (ok:c.ok k=true)
  (q:∀ r H',Same H H'->H r=none->IsRule H' c k r p (nmC k::ws) cs n m->Q (.ref r) H'):
  gm K c (eD9 Q) [some (.ref p),some lv,some (.ref W),some (.str (tx (nmC k))),some (.ref R),some (.int n),some (.int m)] H:=by
 unfold gm;symm;refine⟨k,p,R,h,w,g,ns,cs,rfl,ha,F,hR,hc,hn,fun l H1 s1 hl el=>?_⟩;symm;exact⟨k,p,W,l,ws,cs,n,m,rfl,k0,ok,s1 _ _ hW,el,fun r H2 s2 hr x=>q r H2 (s1.trans s2) (s1.free hr) x⟩
theorem Be{k:RK}(h:ns.length<=16):(rowW k n m ns).length<=100/\∀ w∈rowW k n m ns,w.length<=100:=by
 unfold rowW;refine⟨?_,fun w hw=>?_⟩
 . simp only[L0,LC,Lp]
   split <;> split <;> simp <;> omega
 . rcases LW.mp hw with rfl | hw
   . cases k <;> decide
   have h2:∀ x,(numC x).length<=100:=fun x=>Lz fY (by decide);rcases LR.mp hw with hw | hw
   . rcases LR.mp hw with hw | hw
     . split at hw
       . rw[LE.mp hw];exact h2 _
       . cases hw
     . split at hw
       . rw[LE.mp hw];exact h2 _
       . cases hw
   . obtain⟨x,hx,rfl⟩:=LK.mp hw;exact h2 _
theorem vM:∀(Ld:List (List Nat)),(∀ r∈Ld,r.length<=100)->(catL 32 Ld).length<=101*Ld.length
 | [],_=>Ml _
 | [x],h=>by
  have:=h x LQ;show x.length<=101*1;omega
 | x::y::r,h=>by
  have h1:=h x LQ;have ih:=vM (y::r) fun z hz=>h z (LI _ hz);have e:catL 32 (x::y::r)=x++32::catL 32 (y::r):=by first | rfl | simp[catL]
  rw[e,LC,L0,L0];omega
theorem xt{x:Str}(hp:H p=some (.lst ((x::xs).map V.str)))(q:∀ l,H l=none->Q (.ref l) (upd H l (.lst (xs.map V.str)))):ky (.ref p) (some 1) none H Q:=by
 refine pZ hp fun l hl=>?_;rw[Fh];exact q l hl
theorem vN {k:RK} {W:Addr} {h w g:Int} {lv:V} (F:FlOk h w g) (ha:IsFl H p h w g) (hW:H W=some (.lst (((rowW k n m ns).map tx).map V.str))) (O:zT k h w g n m ns cs) (ok:c.ok k=true)
  (q:∀ r H',Same H H'->H r=none->IsRule H' c k r p (rowW k n m ns) cs n m->Q (.ref r) H'):
  jx K c (eD9 Q) [some (.ref p),some lv,some (.ref W),none,none,none,none] H:=by
 obtain⟨k0,n0,nz,m0,mz,cl,ns0,len⟩:=O;obtain⟨h0,h1,w0,w1,m16,g0,g1⟩:=id F;have e0:atI (((rowW k n m ns).map tx).map V.str) 0=some (V.str (tx (nmC k))):=cR (j:=0) rfl;have hns:WOk (ns.map numC):=fun v hv=>by obtain⟨x,hx,rfl⟩:=LK.mp hv;exact xo (ns0 x hx)
 unfold jx;symm;refine ixL hW e0 ?_;symm;refine xt hW fun R hR=>?_;obtain⟨H1,z9,s1,eR⟩:=aS (.lst ((((if numK k then [numC n] else [])++(if sgnK k then [numC m] else [])++ns.map numC).map tx).map V.str)) hR;rw[z9];symm
 have two:∀{H2:Hp} {R2:Addr},Same H H2->H2 R2=some (.lst ((((if sgnK k then [numC m] else [])++ns.map numC).map tx).map V.str))->
   tSeq (tIfS (tB (tInG gE false (tVar 3))) (tSeq (tAsg (tCall (d3 K) [] E0 (tCons (tVar 4) (tCons (tC (.int 1)) (tCons (tOp cIx (tVar 0) (tC (.int 2))) tNil)))) (gName 6)) (tAsg (tSl ky (tVar 4) (tPart (tC (.int 1))) fW) (gName 4))) tNext) (gm K c) (eD9 Q)
    [some (.ref p),some lv,some (.ref W),some (.str (tx (nmC k))),some (.ref R2),some (.int n),some (.int 0)] H2:=by
  intro H2 R2 s2 eR2;rw[ay,aB];symm;rw[Hd]
  cases hs:sgnK k with
  | false=>
   rw[hs] at eR2;have:=mz hs;subst this;symm;exact nu F (s2 _ _ ha) (s2 _ _ hW) eR2 cl ns0 k0 ok fun r H3 s3 hr x=>q r H3 (s2.trans s3) (s2.free hr) x
  | true=>
   rw[hs] at eR2;have hm:=m0 hs;symm;refine ixT (s2 _ _ ha) (v:=V.int g) rfl ?_;symm;refine⟨R2,m,ns.map numC,1,g,rfl,eR2,by omega,hns,hm.1,hm.2,fun H3 s3=>?_⟩;symm;refine xt (s3 _ _ eR2) fun R3 hR3=>?_;have s4:Same H3 (upd H3 R3 (.lst (((ns.map numC).map tx).map V.str))):=(Lr H3).laid hR3;have s24:=(s2.trans s3).trans s4;exact nu F (s24 _ _ ha) (s24 _ _ hW) aj cl ns0 k0 ok fun r H5 s5 hr x=>q r H5 (s24.trans s5) (s24.free hr) x
 rw[aB];symm;rw[Hc]
 cases hn:numK k with
 | false=>
  rw[hn] at eR;have:=nz hn;subst this;symm;exact two s1 eR
 | true=>
  rw[hn] at eR;symm;refine⟨R,n,(if sgnK k then [numC m] else [])++ns.map numC,0,99,rfl,eR,by omega,?_,by omega,by omega,fun H3 s3=>?_⟩
  . intro v hv;rcases LR.mp hv with hv | hv
    . split at hv
      . rename_i hs
        have:=m0 hs;rw[LE.mp hv];exact xo (by omega)
      . cases hv
    . exact hns v hv
  symm;refine xt (s3 _ _ eR) fun R3 hR3=>?_;have s4:Same H3 (upd H3 R3 (.lst ((((if sgnK k then [numC m] else [])++ns.map numC).map tx).map V.str))):=(Lr H3).laid hR3;symm;exact two ((s1.trans s3).trans s4) aj
theorem zU(h:mK K c vs H Q E):mL K c (eD9 Q) (start ["floor","line","words","name","rest","amount","mark"] vs) H:=by
 obtain⟨k,p,h,w,g,n,m,ns,cs,rfl,ha,F,O,ok,q⟩:=h
 have hm:m<100:=by
  by_cases hs:sgnK k=true
  . have:=(O.m0 hs).2;have:=F.g1;omega
  . have:=O.mz (by simpa using hs);omega
 have hsp:Txt.split (tx (catL 32 (rowW k n m ns))) (tx [32])=(rowW k n m ns).map tx:=Fb (by simp[rowW]) (Ea (by have:=O.n0;omega) hm O.ns0);have hl:=Be (k:=k) (n:=n) (m:=m) O.len;have hl2:=vM _ hl.2;show mL K c _ [some (.ref p),some (.str (tx (catL 32 (rowW k n m ns)))),none,none,none,none,none] H;unfold mL;rw[ay,aB];symm;refine⟨Ci,?_⟩;rw[FV,hsp];refine⟨by rw[fk];decide,by rw[fk];exact Mj (MD hl2 (MD (Nat.mul_le_mul_left 101 hl.1) (by decide))),by rw[Lp];exact aW (by omega),fun W hW=>?_⟩;have s1:Same H (upd H W (.lst (((rowW k n m ns).map tx).map V.str))):=(Lr H).laid hW;exact vN F (s1 _ _ ha) aj O ok fun r H2 s2 hr x=>q r H2 (s1.trans s2) (s1.free hr) x
theorem yh{α β:Type}(f:α->β):∀(l:List α) (j:Nat),(l.map f).eraseIdx j=(l.eraseIdx j).map f
 | [],_=>rfl
 | _::_,0=>rfl
 | x::r,j+1=>by
  show f x::(r.map f).eraseIdx j=f x::(r.eraseIdx j).map f;rw[yh f r j]
theorem vO{α:Type}:∀(l:List α) (j:Nat) (h:j<l.length),(l[j]::l.eraseIdx j).Perm l
 | [],_,h=>absurd h (by simp)
 | x::r,0,_=>List.Perm.refl _
 | x::r,j+1,h=>by
  have hj:j<r.length:=by simpa using h
  have ih:=vO r j hj;show(r[j]::x::r.eraseIdx j).Perm (x::r);exact(List.Perm.swap x r[j] (r.eraseIdx j)).trans (List.Perm.cons x ih)
theorem rE{α β:Type}(f:α->β):∀{l:List α},(l.map f).Nodup->l.Nodup
 | [],_=>N1
 | a::r,h=>by
  rw[L3,MH] at h;rw[MH];exact⟨fun z=>h.1 (LK.mpr ⟨a,z,rfl⟩),rE f h.2⟩
theorem Eb(n:Int):(rngL 0 n).Nodup:=by
 unfold rngL;have e:(List.range (n-0).toNat).map (fun(k:Nat)=>0+(k:Int))=(List.range (n-0).toNat).map fun(k:Nat)=>(k:Int):=NT fun k _=>by omega
 rw[e];exact vL List.nodup_range
theorem BS{n x:Int}(h:x∈rngL 0 n):0<=x/\x<n:=by
 unfold rngL at h;obtain⟨k,hk,rfl⟩:=LK.mp h;have:=LL.mp hk;omega
def nv(K:Frag)(c:RCl RK):Sp:=d7 K c .Unlike
def jy(K:Frag)(c:RCl RK):TS:=
 (tSeq (tAsg (aJ c c.ok "signs_at" (fZ K c) (tVar 0) (tCons (tVar 1) tNil)) (gName 2))
  (tRet (tOp (cEq K) (tE (tVar 2)) (tCB kLen (tCons (tVar 2) tNil)))))
theorem vP(h:nv K c vs H Q E):jy K c (eD9 Q) (start ["self","filling","signs"] vs) H:=by
 obtain⟨r,p,f,ws,cs,xs,n,m,h,w,g,rfl,x,ha,F,hf,hC,hx,q⟩:=h;obtain⟨dx,W,C,h1,h2,h3⟩:=x.ex;show jy K c _ [some (.ref r),some (.ref f),none] H;unfold jy;symm;refine methE rfl x.ok h1 (by rfl) ?_;symm;refine⟨r,p,f,ws,cs,xs,n,m,rfl,x,hf,hC,fun l H1 s1 hl el=>?_⟩;have Lj:(sgAt xs cs).length<=100:=by unfold sgAt;rw[Lp];exact Lz hC.1 (by decide)
 symm;refine⟨l,_,rfl,el,by omega,?_⟩;symm;rw[aN el,Lp];symm;have q1:=q _ s1;unfold hoB at q1;dsimp only at q1
 have e:decide (((cntD (sgAt xs cs):Nat):Int)=((sgAt xs cs).length:Nat))=decide (cntD (sgAt xs cs)=(sgAt xs cs).length):=by
  rw[LV,Lw,Lw];omega
 rw[e];exact q1
theorem Bf(xs:List Int)(i:Nat)(y:Int):(xs.map V.int).set i (.int y)=(xs.set i y).map V.int:=by rw[List.map_set]
theorem tG(h:n<100):((n:Int)).natAbs.log2<1920:=by
 have t:((List.range 100).all fun n=>decide (n.log2<1920))=true:=by decide+kernel
 have:=LM.mp t n (LL.mpr h)
 simpa using this
theorem F4(h:n<100)(q:Q (.str (tx (numC n))) H):kStr [.int (n:Int)] H Q:=by
 refine⟨tG h,?_⟩;rw[tF h];exact q
theorem yi {C:Addr} {cs:List Nat} (hC:H C=some (.lst ((cs.map fun(n:Nat)=>(n:Int)).map V.int))) (hl:cs.length<=100) (hc:∀ c∈cs,c<100)
  (hd:∀ l H',H l=none->Same H H'->H' l=some (.lst (((cs.map numC).map tx).map V.str))->fin l H'):CompR (Itl K C) (gName 1) tTrue (tCB kStr (tCons (tVar 1) tNil)) fin [none,none] H:=by
 refine bU (xs:=(cs.map fun(n:Nat)=>(n:Int)).map V.int) (fun _=>true) (fun i=>.str (tx (numC (cs.getD i 0)))) (by simp;omega) (LH hC) ?_ ?_ ?_
 . intro i x H1 R hx s1 k1;exact k1 _ (Lr _)
 . intro i x H1 Q1 hx hb s1 k1;rw[Lu,Lu] at hx
   cases e:cs[i]? with
   | none=>rw[e] at hx;cases hx
   | some n=>
    rw[e] at hx;cases hx;show tCB kStr _ [none,some (.int (n:Int))] H1 Q1;symm;have q1:=k1 _ (Lr H1);have eg:cs.getD i 0=n:=by rw[List.getD,e];rfl
    rw[eg] at q1;have:=F4 (H:=H1) (Q:=Q1) (hc n (LB e)) q1;exact this
 . intro l H1 hl1 s1 el;refine hd l H1 hl1 s1 ?_;rw[el,a9,Lp,Lp,Mf,Mf]
   congr 2
   refine MB fun i=>?_;rw[Lu,Lu];by_cases h:i<cs.length
   . rw[Mv h,Lq h];simp[List.getD,h]
   . rw[LP (by simpa using h),LP (by omega)];rfl
theorem d8{c:Nat}{x:List Nat}:∀{rs:List (List Nat)},rs≠[]->catL c (x::rs)=x++c::catL c rs
 | [],h=>absurd rfl h
 | y::r,_=>by first | rfl | simp[catL]
section
variable{X:Cx}{a:Expr}{ta:TE}{pos p:Pos}{x:Str}{ws:List Str}
theorem vQ(G:GTup X.K X.mg x ws)(ha:PE X a ta)(hg:Gl X x)(hdb:(x==("__debug__":Str))=false:=by decide)(hm:behindInMarks .In (.Name x p)=false:=by with_unfolding_all rfl):PT X (.Compare a [.In] [.Name x p] pos) (tB (tInG ws false ta)):=by
 obtain⟨q,o,Lg,n,h1,h2⟩:=G.ex;have h0:=ai (pos:=pos) (G5 ⟨o,Lg,n,h2⟩) ha (dg (v:=V.ref q) hg h1 rfl hdb) hm;intro Lc s σ H Q I h;refine h0 Lc s σ H Q I ?_
 have e:(fun(x:V) (H1:Hp)=>∃ z,x=.str z/\∃ k,V.bl (if false=true then !decide (z∈ws) else decide (z∈ws))=.bl k/\Q k H1)=fun x H1=>∃ z,x=.str z/\(V.ref q=V.ref q)/\∃ k,V.bl (decide (z∈ws))=.bl k/\Q k H1:=by
  funext x H1;simp
 have h':ta σ H (fun(x:V) (H1:Hp)=>∃ z,x=.str z/\∃ k,V.bl (if false=true then !decide (z∈ws) else decide (z∈ws))=.bl k/\Q k H1):=h;rw[e] at h';exact h'
theorem BT(G:GTup X.K X.mg x ws)(ha:PE X a ta)(hg:Gl X x)(hdb:(x==("__debug__":Str))=false:=by decide)(hm:behindInMarks .NotIn (.Name x p)=false:=by with_unfolding_all rfl):PT X (.Compare a [.NotIn] [.Name x p] pos) (tB (tInG ws true ta)):=by
 obtain⟨q,o,Lg,n,h1,h2⟩:=G.ex;have h0:=ai (pos:=pos) (FX ⟨o,Lg,n,h2⟩) ha (dg (v:=V.ref q) hg h1 rfl hdb) hm;intro Lc s σ H Q I h;refine h0 Lc s σ H Q I ?_
 have e:(fun(x:V) (H1:Hp)=>∃ z,x=.str z/\∃ k,V.bl (if true=true then !decide (z∈ws) else decide (z∈ws))=.bl k/\Q k H1)=fun x H1=>∃ z,x=.str z/\(V.ref q=V.ref q)/\∃ k,V.bl (!decide (z∈ws))=.bl k/\Q k H1:=by
  funext x H1;simp
 have h':ta σ H (fun(x:V) (H1:Hp)=>∃ z,x=.str z/\∃ k,V.bl (if true=true then !decide (z∈ws) else decide (z∈ws))=.bl k/\Q k H1):=h;rw[e] at h';exact h'
end
inductive PzK where
 | Puzzle
 deriving DecidableEq
structure RR where
 k:RK
 n:Nat
 m:Nat
 ns:List Nat
 cs:List Int
def RR.ws(r:RR):List (List Nat):=rowW r.k r.n r.m r.ns
def RR.txt(r:RR):Str:=tx (catL 32 r.ws)
def RR.Ok(r:RR)(h w g:Int):Prop:=zT r.k h w g r.n r.m r.ns r.cs
structure IsRules(H:Hp)(c:RCl RK)(p L:Addr)(rs:List Addr)(Ld:List RR):Prop where
 top:H L=some (.lst (rs.map V.ref))
 len:rs.length=Ld.length
 at_:∀(i:Nat) (r:Addr) (x:RR),rs[i]? =some r->Ld[i]? =some x->IsRule H c x.k r p x.ws x.cs x.n x.m
variable{H:Hp}{c:RCl RK}{p:Addr}{rs:List Addr}{Ld:List RR}
theorem IsRules.same{H':Hp}{L:Addr}(x:IsRules H c p L rs Ld)(s:Same H H'):IsRules H' c p L rs Ld:=
 ⟨s _ _ x.top,x.len,fun i r y h1 h2=>(x.at_ i r y h1 h2).same s⟩
variable{cs:List Int}{o:HO}
theorem IsRule.lst{k:RK}{r a:Addr}{ws:List (List Nat)}{n m:Int}{xs:List V}(x:IsRule H c k r p ws cs n m)(ha:H a=some (.lst xs)):IsRule (upd H a o) c k r p ws cs n m:=by
 obtain⟨dx,W,C,h1,h2,h3⟩:=x.ex;refine⟨x.ok,dx,W,C,?_,?_,?_⟩
 . rw[ao (fun e=>by rw[e,ha] at h1;cases h1)];exact h1
 . rw[ao (fun e=>by rw[e,ha] at h2;cases h2)];exact h2
 . rw[ao (fun e=>by rw[e,ha] at h3;cases h3)];exact h3
def pFs(p L G:Addr):List (Str × V):=[("floor",.ref p),("laws",.ref L),("given",.ref G)]
structure vR(c:RCl RK)(h w g:Int)(Ld:List RR):Prop where
 F:FlOk h w g
 n:Ld.length<=12
 ok:∀ r∈Ld,r.Ok h w g
 c:∀ r∈Ld,c.ok r.k=true
structure CluesOk(h w g:Int)(cl:List Int):Prop where
 len:cl.length=(h*w).toNat
 ok:∀ x∈cl,0<=x/\x<=g
structure IsPz(H:Hp)(c:RCl RK)(d:RCl PzK)(P L G:Addr)(h w g:Int)(Ld:List RR)(cl:List Int):Prop where
 ok:d.ok .Puzzle=true
 R:vR c h w g Ld
 C:CluesOk h w g cl
 gv:H G=some (.lst (cl.map V.int))
 ex:∃ dx p rs,H P=some (.ins (d.A .Puzzle) dx (pFs p L G))/\IsFl H p h w g/\IsRules H c p L rs Ld
variable{d:RCl PzK}{cl:List Int}
theorem IsPz.same{H':Hp}{P L G:Addr}{h w g:Int}(x:IsPz H c d P L G h w g Ld cl)(s:Same H H'):IsPz H' c d P L G h w g Ld cl:=by
 obtain⟨dx,p,rs,h1,h2,h3⟩:=x.ex;exact⟨x.ok,x.R,x.C,s _ _ x.gv,dx,p,rs,s _ _ h1,s _ _ h2,h3.same s⟩
def d9(K:Frag):Sp:=fun vs H Q _=>∃ i:Int,vs=[.int i]/\Q (.bl true) H
def ox(K:Frag):TS:=
 (tRet (tAndV (tCB kIsi (tCons (tVar 0) (tCons (tC (.ty "int")) tNil))) (tNotV (tCB kIsi (tCons (tVar 0) (tCons (tC (.ty "bool")) tNil))))))
variable{K:Frag}{vs:List V}{Q:VK}{E:XK}
theorem Bg(h:d9 K vs H Q E):ox K (eD9 Q) (start ["value"] vs) H:=by
 obtain⟨i,rfl,q⟩:=h;show ox K _ [some (.int i)] H;unfold ox;symm;exact q
def b8(K:Frag):Sp:=fun vs H Q _=>∃ i m:Int,vs=[.int i,.int m]/\Q (.bl (decide (1<=i)&&decide (i<=m))) H
def hX(K:Frag):TS:=
 (tRet (tAndV (tCall (d9 K) [] E0 (tCons (tVar 0) tNil)) (tAndV (tOp (cCmp fun i j=>decide (i<=j)) (tC (.int 1)) (tVar 0)) (tOp (cCmp fun i j=>decide (i<=j)) (tVar 0) (tVar 1)))))
theorem tJ(h:b8 K vs H Q E):hX K (eD9 Q) (start ["value","most"] vs) H:=by
 obtain⟨i,m,rfl,q⟩:=h;show hX K _ [some (.int i),some (.int m)] H;unfold hX;symm;refine⟨i,rfl,⟨true,rfl,iteT ?_⟩⟩;symm
 cases hb:decide (1<=i) with
 | false=>
  rw[hb,LA] at q;exact iteF q
 | true=>
  rw[hb,LD] at q;exact iteT q
def oy(K:Frag):Sp:=fun vs H Q _=>∃ h w g:Int,vs=[.int h,.int w,.int g]/\FlOk h w g/\∀ p,H p=none->Q (.ref p) (upd H p (.tup [.int h,.int w,.int g]))
def oz(K:Frag):TS:=
 (tSeq (tIfS (tNot (tB (tCall (b8 K) [] E0 (tCons (tVar 0) (tCons (tC (.int 6)) tNil))))) cu tNext)
  (tSeq (tIfS (tNot (tB (tCall (b8 K) [] E0 (tCons (tVar 1) (tCons (tC (.int 6)) tNil))))) cu tNext)
  (tSeq (tIfS (tTest (tOp (cCmp fun i j=>decide (j<i)) (tOp cMul (tVar 0) (tVar 1)) (tC (.int 16)))) cu tNext)
  (tSeq (tIfS (tNot (tB (tCall (b8 K) [] E0 (tCons (tVar 2) (tCons (tC (.int 6)) tNil))))) cu tNext)
  (tRet (tTup (tCons (tVar 0) (tCons (tVar 1) (tCons (tVar 2) tNil)))))))))
theorem Bh(h:oy K vs H Q E):oz K (eD9 Q) (start ["high","wide","signs"] vs) H:=by
 obtain⟨h,w,g,rfl,F,q⟩:=h;obtain⟨h0,h1,w0,w1,m16,g0,g1⟩:=id F;show oz K _ [some (.int h),some (.int w),some (.int g)] H;unfold oz;rw[ay,aB];symm;refine⟨h,6,rfl,⟨_,rfl,?_⟩⟩;rw[Lv h0,Lv h1,OH];refine iteF ?_;rw[aB];symm;refine⟨w,6,rfl,⟨_,rfl,?_⟩⟩;rw[Lv w0,Lv w1,OH];refine iteF ?_;rw[aB];symm;refine⟨nq h0 h1,?_⟩;rw[Ls (show ¬ (16:Int)<h*w by omega)];refine iteF ?_;rw[aB];symm;refine⟨g,6,rfl,⟨_,rfl,?_⟩⟩;rw[Lv g0,Lv g1,OH];refine iteF ?_;symm;exact⟨lnR rfl,q⟩
def iQ(K:Frag):Sp:=fun vs H Q _=>∃ p h w g,vs=[.ref p]/\IsFl H p h w g/\FlOk h w g/\∀ p,H p=none->Q (.ref p) (upd H p (.tup [.int h,.int w,.int g]))
def iR(K:Frag):TS:=
 (tSeq (tIfS (tOr (tNot (tB (tCB kIsi (tCons (tVar 0) (tCons (tC (.ty "tuple")) tNil))))) (tTest (tOp (cNe K) (tCB kLen (tCons (tVar 0) tNil)) (tC (.int 3))))) cu tNext)
  (tRet (tCall (oy K) [] E0 (tCons (tOp cIx (tVar 0) (tC (.int 0))) (tCons (tOp cIx (tVar 0) (tC (.int 1))) (tCons (tOp cIx (tVar 0) (tC (.int 2))) tNil))))))
theorem uR(h:iQ K vs H Q E):iR K (eD9 Q) (start ["floor"] vs) H:=by
 obtain⟨p,h,w,g,rfl,hp,F,q⟩:=h;show iR K _ [some (.ref p)] H;unfold iR;rw[ay,aB];symm;refine zH hp ?_;symm;rw[zA hp,show(([V.int h,V.int w,V.int g]:List V).length:Int)=3 from rfl];symm;refine ixT hp (v:=V.int h) rfl ?_;symm;refine ixT hp (v:=V.int w) rfl ?_;symm;refine ixT hp (v:=V.int g) rfl ?_;symm;exact⟨h,w,g,rfl,F,q⟩
def lE(K:Frag)(c:RCl RK):Sp:=fun vs H Q _=>∃ p a h w g Ld,vs=[.ref p,.ref a]/\IsFl H p h w g/\H a=some (.lst ((Ld.map RR.txt).map V.str))/\vR c h w g Ld/\
 ∀ l rs H',Same H H'->H l=none->IsRules H' c p l rs Ld->Q (.ref l) H'
def lF(K:Frag)(c:RCl RK):TS:=
 (tSeq (tIfS (tTest (tOp (cCmp fun i j=>decide (j<i)) (tCB kLen (tCons (tVar 1) tNil)) (tC (.int 12)))) cu tNext)
  (tRet (tComp [none,none,some 0] (iList K (tVar 1)) (gName 1) tTrue (tCall (mK K c) [] E0 (tCons (tVar 2) (tCons (tVar 1) tNil))))))
theorem yK(h:lE K c vs H Q E):lF K c (eD9 Q) (start ["floor","lines"] vs) H:=by
 obtain⟨p,a,h,w,g,Ld,rfl,hp,ha,O,q⟩:=h;have hn:=O.n;show lF K c _ [some (.ref p),some (.ref a)] H;unfold lF;rw[ay,aB];symm;rw[aN ha,Lp,Lp];symm;rw[Ls (show ¬ (12:Int) < (Ld.length:Nat) by omega)];refine iteF ?_;symm;refine⟨⟨_,LH ha⟩,?_⟩
 refine rj (xs:=(Ld.map RR.txt).map V.str) (fun l i σ H'=>(∃ cv,σ=[none,cv,some (.ref p)])/\Same H H'/\∃ rs:List Addr,H' l=some (.lst (rs.map V.ref))/\rs.length=i/\∀(j:Nat) (r:Addr) (x:RR),rs[j]? =some r->Ld[j]? =some x->IsRule H' c x.k r p x.ws x.cs x.n x.m)
  (fun l hl=>⟨⟨none,rfl⟩,(Lr H).laid hl,[],by rw[aj];rfl,rfl,fun j r x e=>by simp at e⟩) (fun l i σ H' _ _ x=>x.2.1.seq (LH ha)) ?_ ?_
 . rintro l i x σ H1 hl hx ⟨⟨cv,rfl⟩,s1,rs,el,Lj,hat⟩;rw[Lu,Lu] at hx
   cases e:Ld[i]? with
   | none=>rw[e] at hx;cases hx
   | some y=>
    rw[e] at hx;cases hx;have hi:=(Lx.mp e).1;have hm:=LB e;rw[aR];show tTrue [none,some (.str y.txt),some (.ref p)] H1 _;symm;refine⟨y.k,p,h,w,g,y.n,y.m,y.ns,y.cs,rfl,s1 _ _ hp,O.F,O.ok y hm,O.c y hm,fun r H2 s2 hr xr=>?_⟩;have nrl:r≠l:=fun z=>by rw[z,el] at hr;cases hr
    refine⟨_,s2 _ _ el,by rw[Lp];exact aH (by omega),⟨_,rfl⟩,(s1.trans s2).own hl,rs++[r],by rw[aj];simp,by simp[Lj],fun j r' x' h1 h2=>?_⟩;by_cases hj:j<rs.length
    . rw[LT hj] at h1;exact((hat j r' x' h1 h2).same s2).lst (s2 _ _ el)
    . rw[L6 (by omega)] at h1
      have hj0:j-rs.length=0:=by
       have:=(Lx.mp h1).1;simp at this;omega
      rw[hj0] at h1;have:j=i:=by omega
      subst this;rw[e] at h2;simp at h1;cases h2;subst h1;exact xr.lst (s2 _ _ el)
 . rintro l σ H1 hl ⟨_,s1,rs,el,Lj,hat⟩;exact q l rs H1 s1 hl ⟨el,by rw[Lj];simp,hat⟩
def filB(least g:Int)(n:Nat)(xs:List Int):Bool:=decide (xs.length=n)&&xs.all fun x=>decide (least<=x)&&decide (x<=g)
def lG(K:Frag):Sp:=fun vs H Q _=>∃ p a h w g least xs,vs=[.ref p,.ref a,.int least]/\IsFl H p h w g/\FlOk h w g/\H a=some (.lst (xs.map V.int))/\xs.length<=100/\∀ H',Same H H'->Q (.bl (filB least g (h*w).toNat xs)) H'
def lH(K:Frag):TS:=
 (tSeq (tIfS (tOr (tNot (tB (tCB kIsi (tCons (tVar 1) (tCons (tC (.ty "list")) tNil))))) (tTest (tOp (cNe K) (tCB kLen (tCons (tVar 1) tNil)) (tCall (b9 K) [] E0 (tCons (tVar 0) tNil))))) (tRet (tC (.bl false))) tNext)
  (tRet (tCB kAll (tCons (tComp [none,none,some 0,some 2] (iList K (tVar 1)) (gName 1) tTrue (tAndV (tCall (d9 K) [] E0 (tCons (tVar 1) tNil)) (tAndV (tOp (cCmp fun i j=>decide (i<=j)) (tVar 3) (tVar 1)) (tOp (cCmp fun i j=>decide (i<=j)) (tVar 1) (tOp cIx (tVar 2) (tC (.int 2))))))) tNil))))
theorem yL(h:lG K vs H Q E):lH K (eD9 Q) (start ["floor","filling","least"] vs) H:=by
 obtain⟨p,a,h,w,g,least,xs,rfl,hp,F,ha,hn,q⟩:=h;obtain⟨h0,h1,w0,w1,m16,g0,g1⟩:=id F;have mpos:0<=h*w:=M8 (by omega) (by omega);show lH K _ [some (.ref p),some (.ref a),some (.int least)] H;unfold lH;rw[ay,aB];symm;refine zG ha ?_;symm;rw[aN ha,Lp];symm;refine⟨p,h,w,g,rfl,hp,h0,h1,?_⟩;symm;unfold filB at q;by_cases hl:xs.length=(h*w).toNat
 . rw[Lv (show(xs.length:Int)=h*w by omega)];rw[Lv hl] at q;symm;refine⟨⟨_,LH ha⟩,?_⟩;refine bU (xs:=xs.map V.int) (fun _=>true) (fun i=>.bl (decide (least<=xs.getD i 0)&&decide (xs.getD i 0<=g))) (by rw[Lp];omega) (LH ha) ?_ ?_ ?_
   . intro i x H1 R hx s1 k1;exact k1 _ (Lr _)
   . intro i x H1 Q1 hx hb s1 k1;obtain⟨z,hz,rfl⟩:=ba hx;have q1:=k1 _ (Lr H1);rw[jf hz] at q1;show tAndV _ _ [none,some (.int z),some (.ref p),some (.int least)] H1 Q1;symm;refine⟨z,rfl,⟨true,rfl,iteT ?_⟩⟩;symm
     cases hb:decide (least<=z) with
     | false=>
      rw[hb,LA] at q1;exact iteF q1
     | true=>
      rw[hb,LD] at q1;refine iteT ?_;symm;refine ixT (s1 _ _ hp) (v:=V.int g) rfl ?_;symm;exact q1
   . intro l H1 hl1 s1 el
     have eb:((List.range (xs.map V.int).length).filter fun _=>true).map (fun i=>V.bl (decide (least<=xs.getD i 0)&&decide (xs.getD i 0<=g)))=(xs.map fun x=>decide (least<=x)&&decide (x<=g)).map V.bl:=by
      rw[a9,Lp];refine MB fun i=>?_;rw[Lu,Lu,Lu];by_cases h:i<xs.length
      . rw[Mv h,Lq h];simp[List.getD,h]
      . rw[LP (by simpa using h),LP (by omega)];rfl
     rw[eb] at el;refine lW el ?_;have ea:(xs.map fun x=>decide (least<=x)&&decide (x<=g)).all id=xs.all fun x=>decide (least<=x)&&decide (x<=g):=by rw[Na];rfl
     rw[ea];exact q _ s1
 . rw[Ls (show ¬ (xs.length:Int)=h*w by omega)];rw[Ls hl] at q;symm;exact q _ (Lr _)
def iS(K:Frag):Sp:=fun vs H Q _=>∃ p a h w g xs,vs=[.ref p,.ref a]/\IsFl H p h w g/\FlOk h w g/\H a=some (.lst (xs.map V.int))/\CluesOk h w g xs/\∀ l H',Same H H'->H l=none->H' l=some (.lst (xs.map V.int))->Q (.ref l) H'
def iT(K:Frag):TS:=
 (tSeq (tIfS (tNot (tB (tCall (lG K) [] E0 (tCons (tVar 0) (tCons (tVar 1) (tCons (tC (.int 0)) tNil)))))) cu tNext)
  (tRet (tCB kList (tCons (tVar 1) tNil))))
theorem CluesOk.fil{h w g:Int}{xs:List Int}(C:CluesOk h w g xs):filB 0 g (h*w).toNat xs=true:=by
 unfold filB;rw[Lv C.len,LD,LM];intro x hx;have:=C.ok x hx;simp[this.1,this.2]
theorem uS(h:iS K vs H Q E):iT K (eD9 Q) (start ["floor","clues"] vs) H:=by
 obtain⟨p,a,h,w,g,xs,rfl,hp,F,ha,C,q⟩:=h;obtain⟨h0,h1,w0,w1,m16,g0,g1⟩:=id F;show iT K _ [some (.ref p),some (.ref a)] H;unfold iT;rw[ay,aB];symm;refine⟨p,a,h,w,g,0,xs,rfl,hp,F,ha,by have:=C.len;omega,fun H1 s1=>?_⟩;rw[C.fil];refine⟨true,rfl,iteF ?_⟩;symm;refine lg (s1 _ _ ha) fun l hl=>?_;exact q l _ (s1.laid hl) (s1.free hl) aj
theorem IsRule.ins{k:RK}{r a:Addr}{ws:List (List Nat)}{n m:Int}{C dx:Addr}{fs:List (Str × V)}(x:IsRule H c k r p ws cs n m)(ha:H a=some (.ins C dx fs))(hf:fs.length≠5):IsRule (upd H a o) c k r p ws cs n m:=by
 obtain⟨dx',W,C',h1,h2,h3⟩:=x.ex;refine⟨x.ok,dx',W,C',?_,?_,?_⟩
 . rw[ao (fun e=>by rw[e,ha] at h1;cases h1;exact hf rfl)];exact h1
 . rw[ao (fun e=>by rw[e,ha] at h2;cases h2)];exact h2
 . rw[ao (fun e=>by rw[e,ha] at h3;cases h3)];exact h3
theorem IsRules.ins{L a:Addr}{C dx:Addr}{fs:List (Str × V)}(x:IsRules H c p L rs Ld)(ha:H a=some (.ins C dx fs))(hf:fs.length≠5):IsRules (upd H a o) c p L rs Ld:=
 ⟨by rw[ao (fun e=>by have:=x.top;rw[e,ha] at this;cases this)];exact x.top,x.len,fun i r y h1 h2=>(x.at_ i r y h1 h2).ins ha hf⟩
def cP(K:Frag)(c:RCl RK)(d:RCl PzK):Sp:=fun vs H Q _=>∃ x dx p a b h w g Ld cl,vs=[.ref x,.ref p,.ref a,.ref b]/\d.ok .Puzzle=true/\H x=some (.ins (d.A .Puzzle) dx [])/\IsFl H p h w g/\H a=some (.lst ((Ld.map RR.txt).map V.str))/\H b=some (.lst (cl.map V.int))/\vR c h w g Ld/\CluesOk h w g cl/\
 ∀ L G H',(∀ y o,y≠x->H y=some o->H' y=some o)->H L=none->H G=none->IsPz H' c d x L G h w g Ld cl->Q .non H'
def gF(K:Frag)(c:RCl RK)(d:RCl PzK):TS:=
 (tSeq (sFldK d (tVar 0) (tCall (iQ K) [] E0 (tCons (tVar 1) tNil)) "floor")
  (tSeq (sFldK d (tVar 0) (tCall (lE K c) [] E0 (tCons (tFldK d (tVar 0) "floor") (tCons (tVar 2) tNil))) "laws")
  (sFldK d (tVar 0) (tCall (iS K) [] E0 (tCons (tFldK d (tVar 0) "floor") (tCons (tVar 3) tNil))) "given")))
theorem rF(h:cP K c d vs H Q E):gF K c d (eD9 Q) (start ["self","floor","lines","clues"] vs) H:=by
 obtain⟨x,dx,p,a,b,h,w,g,Ld,cl,rfl,ok,hx,hp,ha,hb,R,C,q⟩:=h;show gF K c d _ [some (.ref x),some (.ref p),some (.ref a),some (.ref b)] H;unfold gF sFldK;symm;refine⟨p,h,w,g,rfl,hp,R.F,fun p1 hp1=>?_⟩;have nxp:x≠p1:=aD hx hp1;refine⟨x,.Puzzle,dx,[],rfl,ok,by rw[ao nxp];exact hx,by show(0:Nat)<1000;decide,?_⟩
 have f1:∀ y o,y≠x->H y=some o->(upd (upd H p1 (.tup [.int h,.int w,.int g])) x (.ins (d.A .Puzzle) dx (putF "floor" (.ref p1) []))) y=some o:=fun y o ny e=>by
  rw[ao ny,ao (aD e hp1)];exact e
 have hx1:(upd (upd H p1 (.tup [.int h,.int w,.int g])) x (.ins (d.A .Puzzle) dx (putF "floor" (.ref p1) []))) x=some (.ins (d.A .Puzzle) dx [("floor",.ref p1)]):=aj
 have hp1':IsFl (upd (upd H p1 (.tup [.int h,.int w,.int g])) x (.ins (d.A .Puzzle) dx (putF "floor" (.ref p1) []))) p1 h w g:=by
  show(upd (upd H p1 (.tup [.int h,.int w,.int g])) x _) p1=_;rw[ao nxp.symm,aj]
 have fr1:∀ l,(upd (upd H p1 (.tup [.int h,.int w,.int g])) x (.ins (d.A .Puzzle) dx (putF "floor" (.ref p1) []))) l=none->H l=none:=fun l e=>by
  have n1:l≠x:=fun z=>by rw[z,aj] at e;cases e
  rw[ao n1] at e;have n2:l≠p1:=fun z=>by rw[z,aj] at e;cases e
  rw[ao n2] at e;exact e
 have nax:a≠x:=fun z=>by rw[z,hx] at ha;cases ha
 have nbx:b≠x:=fun z=>by rw[z,hx] at hb;cases hb
 generalize upd (upd H p1 (.tup [.int h,.int w,.int g])) x (.ins (d.A .Puzzle) dx (putF "floor" (.ref p1) []))=H1 at*;refine fldE (c:=d) (k:=.Puzzle) rfl ok hx1 (v:=.ref p1) (by rfl) ?_;symm;refine⟨p1,a,h,w,g,Ld,rfl,hp1',f1 a _ nax ha,R,fun L rs H2 s2 hL X=>?_⟩;refine⟨x,.Puzzle,dx,_,rfl,ok,s2 _ _ hx1,by show(1:Nat)<1000;decide,?_⟩;have nxL:L≠x:=fun z=>by rw[z,hx1] at hL;cases hL
 have X3:=X.ins (o:=.ins (d.A .Puzzle) dx (putF "laws" (.ref L) [("floor",.ref p1)])) (s2 _ _ hx1) (by show(1:Nat)≠5;decide)
 have f2:∀ y o,y≠x->H y=some o->(upd H2 x (.ins (d.A .Puzzle) dx (putF "laws" (.ref L) [("floor",.ref p1)]))) y=some o:=fun y o ny e=>by
  rw[ao ny];exact s2 _ _ (f1 y o ny e)
 have hx3:(upd H2 x (.ins (d.A .Puzzle) dx (putF "laws" (.ref L) [("floor",.ref p1)]))) x=some (.ins (d.A .Puzzle) dx [("floor",.ref p1),("laws",.ref L)]):=aj
 have hp3:IsFl (upd H2 x (.ins (d.A .Puzzle) dx (putF "laws" (.ref L) [("floor",.ref p1)]))) p1 h w g:=by
  show(upd H2 x _) p1=_;rw[ao nxp.symm];exact s2 _ _ hp1'
 have fr3:∀ l,(upd H2 x (.ins (d.A .Puzzle) dx (putF "laws" (.ref L) [("floor",.ref p1)]))) l=none->H1 l=none:=fun l e=>by
  have n1:l≠x:=fun z=>by rw[z,aj] at e;cases e
  rw[ao n1] at e;exact s2.free e
 generalize upd H2 x (.ins (d.A .Puzzle) dx (putF "laws" (.ref L) [("floor",.ref p1)]))=H3 at*;refine fldE (c:=d) (k:=.Puzzle) rfl ok hx3 (v:=.ref p1) (by rfl) ?_;symm;refine⟨p1,b,h,w,g,cl,rfl,hp3,R.F,f2 b _ nbx hb,C,fun G H4 s4 hG eG=>?_⟩;refine⟨x,.Puzzle,dx,_,rfl,ok,s4 _ _ hx3,by show(2:Nat)<1000;decide,?_⟩;have nxG:G≠x:=fun z=>by rw[z,hx3] at hG;cases hG
 refine q L G _ (fun y o ny e=>?_) (fr1 L hL) (fr1 G (fr3 G hG)) ⟨ok,R,C,?_,dx,p1,rs,?_,?_,?_⟩
 . rw[ao ny];exact s4 _ _ (f2 y o ny e)
 . rw[ao nxG];exact eG
 . rw[aj];rfl
 . show(upd H4 x _) p1=_;rw[ao nxp.symm];exact s4 _ _ hp3
 . exact(X3.same s4).ins (s4 _ _ hx3) (by show(2:Nat)≠5;decide)
theorem He {Z:Addr->Hp->Prop} {a b:Addr} {h w g:Int} (ok:d.ok .Puzzle=true) (hp:IsFl H p h w g) (ha:H a=some (.lst ((Ld.map RR.txt).map V.str))) (hb:H b=some (.lst (cl.map V.int))) (R:vR c h w g Ld) (C:CluesOk h w g cl)
  (q:∀ P L G H',Same H H'->H P=none->H L=none->H G=none->IsPz H' c d P L G h w g Ld cl->Z P H'):
  ∀ x dx,H x=none->H dx=none->dx≠x->cP K c d (.ref x::([.ref p,.ref a,.ref b]++[])) (upd (upd H dx (.own x)) x (.ins (d.A .Puzzle) dx [])) (fun v H2=>v=.non/\Z x H2) E0:=by
 intro x dx hx hd ne;have k:∀ y o,H y=some o->(upd (upd H dx (.own x)) x (.ins (d.A .Puzzle) dx [])) y=some o:=fun y o e=>by rw[ao (aD e hx),ao (aD e hd)];exact e
 have fr:∀ y,(upd (upd H dx (.own x)) x (.ins (d.A .Puzzle) dx [])) y=none->H y=none:=fun y e=>by
  have n1:y≠x:=fun z=>by rw[z,aj] at e;cases e
  rw[ao n1] at e;have n2:y≠dx:=fun z=>by rw[z,aj] at e;cases e
  rw[ao n2] at e;exact e
 exact⟨x,dx,p,a,b,h,w,g,Ld,cl,rfl,ok,aj,k _ _ hp,k _ _ ha,k _ _ hb,R,C,fun L G H' hs hL hG X=>⟨rfl,q x L G H' (fun y o e=>hs y o (aD e hx) (k _ _ e)) hx (fr L hL) (fr G hG) X⟩⟩
def iV(K:Frag)(c:RCl RK)(d:RCl PzK)(_:PzK):Sp:=fun vs H Q _=>∃(P L G:Addr) (h w g:Int) (Ld:List RR) (cl:List Int),vs=[.ref P]/\IsPz H c d P L G h w g Ld cl/\∀ p,IsFl H p h w g->Q (.ref p) H
def nA(K:Frag)(c:RCl RK)(d:RCl PzK):Sp:=iV K c d .Puzzle
def jz(K:Frag)(c:RCl RK)(d:RCl PzK):TS:=
 (tRet (tFldK d (tVar 0) "floor"))
theorem vS(h:nA K c d vs H Q E):jz K c d (eD9 Q) (start ["self"] vs) H:=by
 obtain⟨P,L,G,h,w,g,Ld,cl,rfl,x,q⟩:=h;obtain⟨dx,p,rs,h1,h2,h3⟩:=x.ex;show jz K c d _ [some (.ref P)] H;unfold jz;symm;exact fldE (k:=.Puzzle) rfl x.ok h1 (v:=.ref p) (by rfl) (q p h2)
def uT(K:Frag)(c:RCl RK)(d:RCl PzK)(_:PzK):Sp:=fun vs H Q _=>∃(P L G:Addr) (h w g:Int) (Ld:List RR) (cl:List Int),vs=[.ref P]/\IsPz H c d P L G h w g Ld cl/\∀ l,H l=none->Q (.ref l) (upd H l (.lst (cl.map V.int)))
def nB(K:Frag)(c:RCl RK)(d:RCl PzK):Sp:=uT K c d .Puzzle
def jA(K:Frag)(c:RCl RK)(d:RCl PzK):TS:=
 (tRet (tCB kList (tCons (tFldK d (tVar 0) "given") tNil)))
theorem vT(h:nB K c d vs H Q E):jA K c d (eD9 Q) (start ["self"] vs) H:=by
 obtain⟨P,L,G,h,w,g,Ld,cl,rfl,x,q⟩:=h;obtain⟨dx,p,rs,h1,h2,h3⟩:=x.ex;show jA K c d _ [some (.ref P)] H;unfold jA;symm;refine fldE (k:=.Puzzle) rfl x.ok h1 (v:=.ref G) (by rfl) ?_;symm;exact lg x.gv q
def kC(K:Frag)(c:RCl RK)(d:RCl PzK)(_:PzK):Sp:=fun vs H Q _=>∃(P L G:Addr) (h w g:Int) (Ld:List RR) (cl:List Int),vs=[.ref P]/\IsPz H c d P L G h w g Ld cl/\∀ l p rs,H l=none->IsFl (upd H l (.lst (rs.map V.ref))) p h w g->IsRules (upd H l (.lst (rs.map V.ref))) c p l rs Ld->Q (.ref l) (upd H l (.lst (rs.map V.ref)))
def nE(K:Frag)(c:RCl RK)(d:RCl PzK):Sp:=kC K c d .Puzzle
def jB(K:Frag)(c:RCl RK)(d:RCl PzK):TS:=
 (tRet (tCB kList (tCons (tFldK d (tVar 0) "laws") tNil)))
theorem vU(h:nE K c d vs H Q E):jB K c d (eD9 Q) (start ["self"] vs) H:=by
 obtain⟨P,L,G,h,w,g,Ld,cl,rfl,x,q⟩:=h;obtain⟨dx,p,rs,h1,h2,h3⟩:=x.ex;show jB K c d _ [some (.ref P)] H;unfold jB;symm;refine fldE (k:=.Puzzle) rfl x.ok h1 (v:=.ref L) (by rfl) ?_;symm;refine lg h3.top fun l hl=>?_;have s1:Same H (upd H l (.lst (rs.map V.ref))):=(Lr H).laid hl;exact q l p rs hl (s1 _ _ h2) ⟨aj,h3.len,fun i r y e1 e2=>(h3.at_ i r y e1 e2).same s1⟩
inductive DRows(w:World)(K:Frag):List DictEntry->List (Str × List Str)->Prop
 | nil:DRows w K [] []
 | cons {hsh:Int} {k:Str} {t:Tok} {q:Addr} {o:Obj} {Lg:Array Value} {n:Nat} {ws:List Str} {es:List DictEntry} {D:List (Str × List Str)}:hsh=hashStr w k->K.lookup q=some o->o.cls=.type "tuple"->o.data=.seq Lg n->Lg.size<=sizeLine->Vals (ws.map V.str) Lg.toList->DRows w K es D->DRows w K (⟨hsh,.str k t,.ref q⟩::es) ((k,ws)::D)
structure GDict(w:World)(K:Frag)(mg:Str->Option Value)(x:Str)(D:List (Str × List Str)):Prop where
 ex:∃(p:Addr) (o:Obj) (es:Array DictEntry) (ep:Nat),mg x=some (.ref p)/\K.lookup p=some o/\o.ExactDict/\o.data=.dict es ep/\DRows w K es.toList D/\(D.map fun x=>x.1).Nodup
theorem DRows.of{P:Program}{w:World}{K:Frag}{es:List DictEntry}{D:List (Str × List Str)}(h:DRows w K es D):
  ∃ Lf:List (Str × Value),Pairs (strKind P w) es Lf/\Lf.map (fun x=>x.1)=D.map (fun x=>x.1)/\(∀ e∈es,∃ k,(strKind P w).is k e.key=true/\e.hash=(strKind P w).hash k)/\
   ∀ k ws,D.lookup k=some ws->∃ q,valueAt Lf k=some (.ref q)/\∃(o:Obj) (Lg:Array Value) (n:Nat),K.lookup q=some o/\o.cls=.type "tuple"/\o.data=.seq Lg n/\Lg.size<=sizeLine/\Vals (ws.map V.str) Lg.toList:=by
 induction h with
 | nil=>exact⟨[],.nil,rfl,fun e he=>(by cases he),fun k ws e=>(by cases e)⟩
 | @cons hsh k t q o Lg n ws es D h1 h2 h3 h4 h5 h6 _ ih=>
  obtain⟨Lf,p1,p2,p3,p4⟩:=ih;have hk:(strKind P w).is k (.str k t)=true:=by show(k==k)=true;simp
  refine⟨(k,.ref q)::Lf,.cons hk rfl p1,by rw[L3,L3,p2],fun e he=>?_,fun k' ws' e=>?_⟩
  . rcases LW.mp he with rfl | he
    . exact⟨k,hk,h1⟩
    . exact p3 e he
  . rw[Mw] at e;unfold valueAt;rw[MU];by_cases hkk:k'=k
    . subst hkk;simp at e;subst e;refine⟨q,by simp,o,Lg,n,h2,h3,h4,h5,h6⟩
    . have hb:(k'==k)=false:=by simpa using hkk
      rw[hb] at e;have hd:decide (k=k')=false:=Ls (fun z=>hkk z.symm);dsimp only;rw[hd];exact p4 k' ws' e
def tIxG(K:Frag)(D:List (Str × List Str))(te:TE):TE:=fun σ H Q=>te σ H fun y H1=>∃ k ws,y=.str k/\D.lookup k=some ws/\∀ q,SqT K H1 q (ws.map V.str)->Q (.ref q) H1
def rInS(K:Frag):R2:=fun x y H Q=>∃(z:Str) (q:Addr) (ws:List Str),x=.str z/\y=.ref q/\SqT K H q (ws.map V.str)/\Q (.bl (decide (z∈ws))) H
section
variable{X:Cx}{a b:Expr}{ta tb:TE}{pos p:Pos}{x:Str}{D:List (Str × List Str)}
theorem Hf(G:GDict X.w X.K X.mg x D)(hb:PE X b tb)(hg:Gl X x)(hpi:xf b)(hdb:(x==("__debug__":Str))=false:=by decide):PE X (.Subscript (.Name x p) b pos) (tIxG X.K D tb):=by
 obtain⟨pd,o,es,ep,h1,h2,h3,h4,h5,h6⟩:=G.ex;obtain⟨Lf,p1,p2,p3,p4⟩:=h5.of (P:=X.prog)
 have ir:IxR X (fun x y H Q=>x=.ref pd/\∃ k ws,y=.str k/\D.lookup k=some ws/\∀ q,SqT X.K H q (ws.map V.str)->Q (.ref q) H):=by
  intro value slice Lc s σ H x y v u Q I rx ry h hs;obtain⟨rfl,k,ws,rfl,hl,q⟩:=h;cases (show v=Value.ref pd from rx);have hget:s.heap.get? pd=some o:=I.kIn pd o h2;have dd:Heap.DictOf (strKind X.prog X.w) s.heap pd Lf:=⟨o,es,ep,hget,h3,h4,fun e he=>p3 e (Array.mem_toList_iff.mpr he),p1,by rw[p2];exact h6⟩;obtain⟨qa,hv,o2,Lg,n,g1,g2,g3,g4,g5⟩:=p4 k ws hl;obtain⟨t,rfl⟩:∃ t,u=Value.str k t:=ry;have hk:(strKind X.prog X.w).is k (.str k t)=true:=by show(k==k)=true;simp
  refine tail_any dd.typeIs N4.lookup (wpAny_getItem_of hk dd.mapOf hv ?_) hs;exact⟨.ref qa,H,I.tok _,rfl,q qa (.inr ⟨o2,Lg,n,g1,g2,g3,g4,g5⟩)⟩
 have h0:=vp (pos:=pos) ir (dg (pos:=p) (v:=V.ref pd) hg h1 rfl hdb) hb hpi;intro Lc s σ H Q I h;refine h0 Lc s σ H Q I ?_
 have e:(fun(y:V) (H1:Hp)=>∃ k ws,y=.str k/\D.lookup k=some ws/\∀ q,SqT X.K H1 q (ws.map V.str)->Q (.ref q) H1)=fun y H1=>(V.ref pd=V.ref pd)/\∃ k ws,y=.str k/\D.lookup k=some ws/\∀ q,SqT X.K H1 q (ws.map V.str)->Q (.ref q) H1:=by
  funext y H1;simp
 have h':tb σ H (fun(y:V) (H1:Hp)=>∃ k ws,y=.str k/\D.lookup k=some ws/\∀ q,SqT X.K H1 q (ws.map V.str)->Q (.ref q) H1):=h;rw[e] at h';exact h'
theorem Hg:OpR X (compareOp .In) (rInS X.K):=by
 intro Lc s σ H x y v u Q I rx ry h;obtain⟨z,q,ws,rfl,rfl,hq,h⟩:=h;refine rb Lc s σ H _ _ v u Q I rx ry ⟨q,ws.map V.str,rfl,.inr hq,rfl,nr ws,?_⟩;rw[p7];exact h
end
section
variable{K:Frag}{σ:St}{H:Hp}{Q:VK}{te:TE}{D:List (Str × List Str)}
theorem HQ:tIxG K D te σ H Q=te σ H fun y H1=>∃ k ws,y=.str k/\D.lookup k=some ws/\∀ q,SqT K H1 q (ws.map V.str)->Q (.ref q) H1:=rfl
end
def ws5:String:="ay if_true if_false Bool.false_eq_true decide_true decide_false cV cW gk bV bB cT dX cU bT dU dW bS gi bW bX bZ b5 b6 b7 bY dY dZ d2 dR gj Bool.not_true Bool.not_false ay "++ws1
local macro_rules|`(tactic|walk_at "w")=>wk9 ws5
def stB(m s:Int):Bool:=decide (1<=s)&&(decide (s<=((Builtin.Int.intBits m:Nat):Int))&&decide (m/2^(s-1).toNat%2=1))
def gG(K:Frag):Sp:=fun vs H Q _=>∃ m s:Int,vs=[.int m,.int s]/\Q (.bl (stB m s)) H
def rG(K:Frag):TS:=
 (tRet (tAndV (tOp (cCmp fun i j=>decide (i<=j)) (tC (.int 1)) (tVar 1)) (tAndV (tOp (cCmp fun i j=>decide (i<=j)) (tVar 1) (zq K "int" o3 (tVar 0))) (tOp (cEq K) (tOp cMod (tOp cShr (tVar 0) (tOp cSub (tVar 1) (tC (.int 1)))) (tC (.int 2))) (tC (.int 1))))))
variable{K:Frag}{vs:List V}{H:Hp}{Q:VK}{E:XK}
theorem Ec(h:gG K vs H Q E):rG K (eD9 Q) (start ["mask","sign"] vs) H:=by
 obtain⟨m,s,rfl,q⟩:=h;show rG K _ [some (.int m),some (.int s)] H;unfold rG;symm;unfold stB at q
 cases h1:decide (1<=s) with
 | false=>rw[h1,LA] at q;exact iteF q
 | true=>
  refine iteT ⟨rfl,?_⟩;symm;rw[h1,LD] at q
  cases h2:decide (s<=((Builtin.Int.intBits m:Nat):Int)) with
  | false=>rw[h2,LA] at q;exact iteF q
  | true=>
   rw[h2,LD] at q;exact iteT ⟨by have:=L9 h1;omega,by decide,q⟩
def nF(K:Frag):Sp:=fun vs H Q _=>∃ s:Int,vs=[.int s]/\1<=s/\s<=100000/\Q (.int (2^(s-1).toNat)) H
def rH(K:Frag):TS:=
 (tSeq (tAsg (tC (.int 1)) (gName 1))
  (tSeq (tFor (fD (tCons (tOp cSub (tVar 0) (tC (.int 1))) tNil)) (gName 2)
  (tAsg (tOp cMul (tVar 1) (tC (.int 2))) (gName 1)))
  (tRet (tVar 1))))
theorem Ed(h:nF K vs H Q E):rH K (eD9 Q) (start ["sign","bit","step"] vs) H:=by
 obtain⟨s,rfl,h1,h2,q⟩:=h;show rH K _ [some (.int s),none,none] H;unfold rH;symm;refine⟨s-1,rfl,by omega,by omega,?_⟩;refine qX (fun i σ H'=>∃ sv:Option V,σ=[some (.int s),some (.int (2^i)),sv]/\H'=H) ⟨none,rfl,rfl⟩ ?_ ?_
 . rintro i σ H' hi ⟨sv,rfl,rfl⟩;symm;refine⟨.inr ⟨by decide,by decide⟩,?_⟩;simp[Int.pow_succ]
 . rintro σ H' ⟨sv,rfl,rfl⟩;symm;exact q
def woI(m s:Int):Int:=if stB m s=true then m-2^(s-1).toNat else m
def l0(K:Frag):Sp:=fun vs H Q _=>∃ m s:Int,vs=[.int m,.int s]/\s<=100000/\Q (.int (woI m s)) H
def qd(K:Frag):TS:=
 (tRet (tIf (tB (tCall (gG K) [] E0 (tCons (tVar 0) (tCons (tVar 1) tNil)))) (tOp cSub (tVar 0) (tCall (nF K) [] E0 (tCons (tVar 1) tNil))) (tVar 0)))
theorem Cr(h:l0 K vs H Q E):qd K (eD9 Q) (start ["mask","sign"] vs) H:=by
 obtain⟨m,s,rfl,h2,q⟩:=h;show qd K _ [some (.int m),some (.int s)] H;unfold qd;symm;refine⟨m,s,rfl,_,rfl,?_⟩;unfold woI at q
 cases hb:stB m s with
 | false=>
  rw[hb,LU Ly] at q;exact iteF q
 | true=>
  rw[hb,LX rfl] at q;refine iteT ⟨s,rfl,?_,h2,?_⟩
  . unfold stB at hb;rw[Ma,Lw] at hb;exact hb.1
  . symm;exact q
def f6(K:Frag):Sp:=fun vs H Q _=>∃ m s:Int,vs=[.int m,.int s]/\s<=100000/\Q (.bl (decide (woI m s=0))) H
def oA(K:Frag):TS:=
 (tRet (tOp (cEq K) (tCall (l0 K) [] E0 (tCons (tVar 0) (tCons (tVar 1) tNil))) (tC (.int 0))))
theorem Bi(h:f6 K vs H Q E):oA K (eD9 Q) (start ["mask","sign"] vs) H:=by
 obtain⟨m,s,rfl,h2,q⟩:=h;show oA K _ [some (.int m),some (.int s)] H;unfold oA;symm;refine⟨m,s,rfl,h2,?_⟩;symm;exact q
def sgL(m:Int):List Int:=((List.range (Builtin.Int.intBits m)).filter fun(i:Nat)=>stB m (1+(i:Int))).map fun(i:Nat)=>1+(i:Int)
def cq(K:Frag):Sp:=fun vs H Q _=>∃ m:Int,vs=[.int m]/\Builtin.Int.intBits m<=900/\∀ l H',Same H H'->H l=none->H' l=some (.lst ((sgL m).map V.int))->Q (.ref l) H'
def oB(K:Frag):TS:=
 (tRet (tComp [none,none,some 0] (sW (tCons (tC (.int 1)) (tCons (tOp cAdd (zq K "int" o3 (tVar 0)) (tC (.int 1))) tNil))) (gName 1) (tB (tCall (gG K) [] E0 (tCons (tVar 2) (tCons (tVar 1) tNil)))) (tVar 1)))
theorem Bj(h:cq K vs H Q E):oB K (eD9 Q) (start ["mask"] vs) H:=by
 obtain⟨m,rfl,hb,k⟩:=h;show oB K _ [some (.int m)] H;unfold oB;symm;refine⟨rfl,1,_,rfl,by omega,?_⟩;have en:(((Builtin.Int.intBits m:Nat):Int)+1-1).toNat=Builtin.Int.intBits m:=by omega
 rw[en];refine d6 (fun(i:Nat)=>stB m (1+(i:Int))) (fun(i:Nat)=>1+(i:Int)) hb ?_ ?_ ?_
 . intro i H1 R hi s1 k1;show tB _ [none,some (.int (1+(i:Int))),some (.int m)] H1 R;symm;exact⟨m,_,rfl,_,rfl,k1 _ (Lr _)⟩
 . intro i H1 Q1 hi hb s1 k1;exact k1 _ (Lr _)
 . intro l H1 hl s1 el;exact k l H1 s1 hl el
local macro_rules|`(tactic|walk_at "w")=>wk9 ws4
inductive TK where
 | clue | only | place | count | step | sum | square | reach | turn | pair | ways
 deriving DecidableEq
def tkC:TK->List Nat
 | .clue=>[99,108,117,101]
 | .only=>[111,110,108,121]
 | .place=>[112,108,97,99,101]
 | .count=>[99,111,117,110,116]
 | .step=>[115,116,101,112]
 | .sum=>[115,117,109]
 | .square=>[115,113,117,97,114,101]
 | .reach=>[114,101,97,99,104]
 | .turn=>[116,117,114,110]
 | .pair=>[112,97,105,114]
 | .ways=>[119,97,121,115]
def qe:List Str:=[tx [99,108,117,101],tx [111,110,108,121],tx [112,108,97,99,101],tx [99,111,117,110,116],tx [115,116,101,112],tx [115,117,109],tx [115,113,117,97,114,101],tx [114,101,97,99,104],tx [116,117,114,110],tx [112,97,105,114],tx [119,97,121,115]]
def iJ:List Str:=[tx [99,108,117,101],tx [111,110,108,121],tx [112,108,97,99,101],tx [115,116,101,112],tx [112,97,105,114]]
def gn:List Str:=[tx [99,111,117,110,116],tx [115,117,109],tx [119,97,121,115]]
def gd_RULES_OF_KIND:List (Str × List Str):=[(tx [111,110,108,121],[tx [117,110,108,105,107,101]]),(tx [112,108,97,99,101],[tx [117,110,108,105,107,101]]),(tx [99,111,117,110,116],[tx [99,111,117,110,116]]),(tx [115,116,101,112],[tx [114,105,115,105,110,103]]),(tx [115,117,109],[tx [115,117,109]]),(tx [115,113,117,97,114,101],[tx [110,111,115,113,117,97,114,101]]),(tx [114,101,97,99,104],[tx [106,111,105,110,101,100],tx [114,105,110,103]]),(tx [116,117,114,110],[tx [114,105,110,103]]),(tx [112,97,105,114],[tx [117,110,108,105,107,101]])]
def wsOf:TK->List Str
 | .only=>[tx [117,110,108,105,107,101]]
 | .place=>[tx [117,110,108,105,107,101]]
 | .count=>[tx [99,111,117,110,116]]
 | .step=>[tx [114,105,115,105,110,103]]
 | .sum=>[tx [115,117,109]]
 | .square=>[tx [110,111,115,113,117,97,114,101]]
 | .reach=>[tx [106,111,105,110,101,100],tx [114,105,110,103]]
 | .turn=>[tx [114,105,110,103]]
 | .pair=>[tx [117,110,108,105,107,101]]
 | _=>[]
def goesB:TK->RK->Bool
 | .ways,_=>true
 | .only,.Unlike=>true
 | .place,.Unlike=>true
 | .count,.Count=>true
 | .step,.Rising=>true
 | .sum,.Sum=>true
 | .square,.NoSquare=>true
 | .reach,.Joined=>true
 | .reach,.Ring=>true
 | .turn,.Ring=>true
 | .pair,.Unlike=>true
 | _,_=>false
def lineK:TK->Bool
 | .clue=>true
 | .only=>true
 | .place=>true
 | .step=>true
 | .pair=>true
 | _=>false
def nbrK:TK->Bool
 | .count=>true
 | .sum=>true
 | .ways=>true
 | _=>false
theorem Fi(t:TK):decide (tx (tkC t)∈qe)=true:=by cases t <;> decide+kernel
theorem F5(t:TK):decide (tx (tkC t)∈iJ)=lineK t:=by cases t <;> decide+kernel
theorem Hh(t:TK):decide (tx (tkC t)∈gn)=nbrK t:=by cases t <;> decide+kernel
variable{t:TK}
theorem HR(h1:t≠.clue)(h2:t≠.ways):gd_RULES_OF_KIND.lookup (tx (tkC t))=some (wsOf t):=by
 cases t <;> first | exact absurd rfl h1 | exact absurd rfl h2 | decide+kernel
theorem F6(h2:t≠.ways)(k:RK):decide (tx (nmC k)∈wsOf t)=goesB t k:=by
 cases t <;> first | exact absurd rfl h2 | (cases k <;> decide+kernel)
theorem F7(t:TK):decide (tkC t=[119,97,121,115])=decide (t=.ways):=by cases t <;> decide
theorem BU(t:TK):decide (tkC t=[99,108,117,101])=decide (t=.clue):=by cases t <;> decide
theorem F8(t:TK):decide (tkC t=[111,110,108,121])=decide (t=.only):=by cases t <;> decide
def jC(K:Frag):Sp:=fun vs H Q _=>∃ p h w g i,vs=[.ref p,.int i]/\IsFl H p h w g/\FlOk h w g/\Q (.bl (decide (0<=i)&&decide (i<h*w))) H
def qf(K:Frag):TS:=
 (tRet (tAndV (tCall (d9 K) [] E0 (tCons (tVar 1) tNil)) (tAndV (tOp (cCmp fun i j=>decide (i<=j)) (tC (.int 0)) (tVar 1)) (tOp (cCmp fun i j=>decide (i<j)) (tVar 1) (tCall (b9 K) [] E0 (tCons (tVar 0) tNil))))))
variable{K:Frag}{vs:List V}{H:Hp}{Q:VK}{E:XK}
theorem Ct(h:jC K vs H Q E):qf K (eD9 Q) (start ["floor","value"] vs) H:=by
 obtain⟨p,h,w,g,i,rfl,hp,F,q⟩:=h;show qf K _ [some (.ref p),some (.int i)] H;unfold qf;symm;refine⟨i,rfl,⟨true,rfl,iteT ?_⟩⟩;symm
 cases hb:decide (0<=i) with
 | false=>
  rw[hb,LA] at q;exact iteF q
 | true=>
  rw[hb,LD] at q;refine iteT ?_;symm;refine⟨p,h,w,g,rfl,hp,F.h0,F.h1,?_⟩;symm;exact q
def jD(K:Frag):Sp:=fun vs H Q _=>∃ p h w g i,vs=[.ref p,.int i]/\IsFl H p h w g/\Q (.bl (decide (1<=i)&&decide (i<=g))) H
def qg(K:Frag):TS:=
 (tRet (tCall (b8 K) [] E0 (tCons (tVar 1) (tCons (tOp cIx (tVar 0) (tC (.int 2))) tNil))))
theorem Cu(h:jD K vs H Q E):qg K (eD9 Q) (start ["floor","value"] vs) H:=by
 obtain⟨p,h,w,g,i,rfl,hp,q⟩:=h;show qg K _ [some (.ref p),some (.int i)] H;unfold qg;symm;refine ixT hp (v:=V.int g) rfl ?_;symm;exact⟨i,g,rfl,q⟩
def qh(K:Frag)(c:RCl RK):Sp:=fun vs H Q _=>∃ t k r p ws cs n m,vs=[.str (tx (tkC t)),.ref r]/\t≠.clue/\IsRule H c k r p (nmC k::ws) cs n m/\Q (.bl (goesB t k)) H
def qi(K:Frag)(c:RCl RK):TS:=
 (tRet (tOrV (tOp (cEq K) (tVar 0) (tC (.str (tx [119,97,121,115])))) (tOp (rInS K) (aJ c c.ok "name" (xk K c) (tVar 1) tNil) (tIxG K gd_RULES_OF_KIND (tVar 0)))))
variable{c:RCl RK}
theorem Cv(h:qh K c vs H Q E):qi K c (eD9 Q) (start ["kind","rule"] vs) H:=by
 obtain⟨t,k,r,p,ws,cs,n,m,rfl,t0,x,q⟩:=h;obtain⟨dx,W,C,h1,h2,h3⟩:=x.ex;show qi K c _ [some (.str (tx (tkC t))),some (.ref r)] H;unfold qi;symm;rw[c6,F7];by_cases hw:t=.ways
 . subst hw;rw[Lv rfl];exact iteT q
 . rw[Ls hw];refine iteF ?_;refine methE (k:=k) rfl x.ok h1 (by rfl) ?_;symm;refine⟨r,p,nmC k,ws,cs,n,m,rfl,x,?_⟩;dsimp only;rw[HQ];symm;refine⟨_,_,rfl,HR t0 hw,fun qa hq=>?_⟩;refine⟨_,qa,_,rfl,rfl,hq,?_⟩;rw[F6 hw];exact q
def d4(K:Frag)(c:RCl RK):Sp:=fun vs H Q _=>∃ k r p ws cs n m z,vs=[.ref r,.int z]/\IsRule H c k r p ws cs n m/\cs.length<=63/\∀ l H',Same H H'->H l=none->H' l=some (.lst ((cs.filter fun x=>!decide (x=z)).map V.int))->Q (.ref l) H'
def rJ(K:Frag)(c:RCl RK):TS:=
 (tRet (tComp [none,none,some 1] (iList K (aJ c c.ok "spots" (iL K c) (tVar 0) tNil)) (gName 1) (tTest (tOp (cNe K) (tVar 1) (tVar 2))) (tVar 1)))
theorem Ee(h:d4 K c vs H Q E):rJ K c (eD9 Q) (start ["rule","cell"] vs) H:=by
 obtain⟨k,r,p,ws,cs,n,m,z,rfl,x,hn,q⟩:=h;obtain⟨dx,W,C,h1,h2,h3⟩:=x.ex;show rJ K c _ [some (.ref r),some (.int z)] H;unfold rJ;rw[ca,br];refine methE (k:=k) rfl x.ok h1 (by rfl) ?_;symm;refine⟨r,p,ws,cs,n,m,rfl,x,fun l hl=>?_⟩;obtain⟨H1,z9,s1,el⟩:=aS (.lst (cs.map V.int)) hl;rw[z9];refine⟨l,rfl,⟨_,LH el⟩,?_⟩;refine aT (xs:=cs) (fun x=>!decide (x=z)) (fun x=>x) (by omega) (LH el) ?_ ?_ ?_
 . intro y H2 R hy s2 k2;show tTest _ [none,some (.int y),some (.int z)] H2 R;symm;exact k2 _ (Lr _)
 . intro y H2 Q2 hy hb s2 k2;show tVar 1 [none,some (.int y),some (.int z)] H2 Q2;symm;exact k2 _ (Lr _)
 . intro T H2 hT s2 eT;rw[MM] at eT;exact q T H2 (s1.trans s2) (s1.free hT) eT
def hitB(t:TK)(Ld:List RR)(r z:Int):Bool:=if r<0 then false else if t=.clue then decide (r=0) else match Ld[r.toNat]? with
 | none=>false
 | some x=>goesB t x.k&&decide (z∈x.cs)
def jE(K:Frag)(c:RCl RK)(d:RCl PzK):Sp:=fun vs H Q _=>∃ t P L G h w g r z Ld cl,vs=[.ref P,.str (tx (tkC t)),.int r,.int z]/\IsPz H c d P L G h w g Ld cl/\∀ H',Same H H'->Q (.bl (hitB t Ld r z)) H'
def jF(K:Frag)(c:RCl RK)(d:RCl PzK):TS:=
 (tSeq (tIfS (tOr (tNot (tB (tCall (d9 K) [] E0 (tCons (tVar 2) tNil)))) (tTest (tOp (cCmp fun i j=>decide (i<j)) (tVar 2) (tC (.int 0))))) (tRet (tC (.bl false))) tNext)
  (tSeq (tIfS (tTest (tOp (cEq K) (tVar 1) (tC (.str (tx [99,108,117,101]))))) (tRet (tOp (cEq K) (tVar 2) (tC (.int 0)))) tNext)
  (tSeq (tAsg (aJ d d.ok "rules" (kC K c d) (tVar 0) tNil) (gName 4))
  (tSeq (tIfS (tTest (tOp (cCmp fun i j=>decide (j<=i)) (tVar 2) (tCB kLen (tCons (tVar 4) tNil)))) (tRet (tC (.bl false))) tNext)
  (tRet (tAndV (tCall (qh K c) [] E0 (tCons (tVar 1) (tCons (tOp cIx (tVar 4) (tVar 2)) tNil))) (tOp (cIn K false) (tVar 3) (aJ c c.ok "spots" (iL K c) (tOp cIx (tVar 4) (tVar 2)) tNil))))))))
theorem RR.ws_cons(r:RR):∃ t,r.ws=nmC r.k::t:=⟨_,rfl⟩
variable{d:RCl PzK}
theorem vV(h:jE K c d vs H Q E):jF K c d (eD9 Q) (start ["puzzle","kind","number","cell","rules"] vs) H:=by
 obtain⟨t,P,L,G,h,w,g,r,z,Ld,cl,rfl,x,q⟩:=h;obtain⟨dx,p,rs,h1,h2,h3⟩:=x.ex;have hN:=x.R.F.m;show jF K c d _ [some (.ref P),some (.str (tx (tkC t))),some (.int r),some (.int z),none] H;unfold jF;rw[ay,aB];symm;refine⟨r,rfl,⟨true,rfl,iteF ?_⟩⟩;symm;unfold hitB at q;by_cases hr:r<0
 . rw[LX hr] at q;rw[Lv hr];exact iteT (q _ (Lr _))
 rw[LU hr] at q;rw[Ls hr];refine iteF ?_;rw[aB];symm;rw[c6,BU];by_cases ht:t=.clue
 . rw[LX ht] at q;rw[Lv ht];exact iteT (q _ (Lr _))
 rw[LU ht] at q;rw[Ls ht];refine iteF ?_;refine methE (k:=.Puzzle) rfl x.ok h1 (by rfl) ?_;symm;refine⟨P,L,G,h,w,g,Ld,cl,rfl,x,fun l p2 rs2 hl hp2 X=>?_⟩;have s1:Same H (upd H l (.lst (rs2.map V.ref))):=(Lr H).laid hl;generalize upd H l (.lst (rs2.map V.ref))=H1 at*;have Lj:=X.len;symm;rw[aB];symm;rw[aN X.top,Lp,Lj];symm;by_cases hge:(Ld.length:Int)<=r
 . rw[Lv hge];have e:Ld[r.toNat]? =none:=LP (by omega);rw[e] at q;exact iteT (q _ s1)
 rw[Ls hge];have hlt:r.toNat<Ld.length:=by omega
 have er:Ld[r.toNat]? =some Ld[r.toNat]:=Lq hlt;rw[er] at q;have ea:rs2[r.toNat]? =some rs2[r.toNat]:=Lq (by omega);have X1:=X.at_ _ _ _ ea er;obtain⟨ws,ews⟩:=RR.ws_cons Ld[r.toNat];rw[ews] at X1;have eix:atI (rs2.map V.ref) r=some (V.ref rs2[r.toNat]):=p0 (by omega) ea;refine iteF ?_;refine ixL X.top eix ?_;symm;refine⟨t,_,_,p2,ws,_,_,_,rfl,ht,X1,?_⟩;dsimp only at q
 cases hg:goesB t Ld[r.toNat].k with
 | false=>
  rw[hg,LA] at q;exact⟨false,rfl,iteF (q _ s1)⟩
 | true=>
  rw[hg,LD] at q;refine⟨true,rfl,iteT ?_⟩;unfold aJ;symm;obtain⟨dx1,W1,C1,g1,g2,g3⟩:=X1.ex;refine ixL X.top eix ?_;refine⟨_,Ld[r.toNat].k,dx1,_,rfl,X1.ok,g1,by rfl,?_⟩;refine⟨_,p2,_,_,_,_,rfl,X1,fun S hS=>?_⟩;have s2:Same H1 (upd H1 S (.lst (Ld[r.toNat].cs.map V.int))):=(Lr H1).laid hS;have eS:(upd H1 S (.lst (Ld[r.toNat].cs.map V.int))) S=some (.lst (Ld[r.toNat].cs.map V.int)):=aj;dsimp only;rw[pW eS];exact q _ (s1.trans s2)
structure IsTh(H:Hp)(T M:Addr)(t:TK)(r z s:Int)(ms:List Int):Prop where
 T:H T=some (.tup [.str (tx (tkC t)),.int r,.int z,.int s,.ref M])
 M:H M=some (.lst (ms.map V.int))
 n:ms.length<=100
variable{r z s:Int}{ms:List Int}
theorem IsTh.same{H':Hp}{T M:Addr}(x:IsTh H T M t r z s ms)(s':Same H H'):IsTh H' T M t r z s ms:=⟨s' _ _ x.T,s' _ _ x.M,x.n⟩
def formB(h w g:Int)(Ld:List RR)(t:TK)(r z s:Int):Bool:=(decide (0<=z)&&decide (z<h*w))&&((decide (1<=s)&&decide (s<=g))&&hitB t Ld r z)
def mM(K:Frag)(c:RCl RK)(d:RCl PzK):Sp:=fun vs H Q _=>∃ t P L G T M h w g r z s Ld cl ms,vs=[.ref P,.ref T]/\IsPz H c d P L G h w g Ld cl/\IsTh H T M t r z s ms/\∀ H',Same H H'->Q (.bl (formB h w g Ld t r z s)) H'
def jG(K:Frag)(c:RCl RK)(d:RCl PzK):TS:=
 (tRet (tAndV (tCB kIsi (tCons (tOp cIx (tVar 1) (tC (.int 4))) (tCons (tC (.ty "list")) tNil))) (tCB kAll (tCons (tComp [none,none] (iList K (tOp cIx (tVar 1) (tC (.int 4)))) (gName 1) tTrue (tCall (d9 K) [] E0 (tCons (tVar 1) tNil))) tNil))))
def mN(K:Frag)(c:RCl RK)(d:RCl PzK):TS:=
 (tSeq (tIfS (tOr (tNot (tB (tCB kIsi (tCons (tVar 1) (tCons (tC (.ty "tuple")) tNil))))) (tOr (tTest (tOp (cNe K) (tCB kLen (tCons (tVar 1) tNil)) (tC (.int 5)))) (tB (tInG qe true (tOp cIx (tVar 1) (tC (.int 0))))))) (tRet (tC (.bl false))) tNext)
  (tSeq (tAsg (aJ d d.ok "place" (iV K c d) (tVar 0) tNil) (gName 2))
  (tSeq (tIfS (tOr (tNot (tB (tCall (jC K) [] E0 (tCons (tVar 2) (tCons (tOp cIx (tVar 1) (tC (.int 2))) tNil))))) (tNot (tB (tCall (jD K) [] E0 (tCons (tVar 2) (tCons (tOp cIx (tVar 1) (tC (.int 3))) tNil)))))) (tRet (tC (.bl false))) tNext)
  (tSeq (tIfS (tNot (tB (tCall (jE K c d) [] E0 (tCons (tVar 0) (tCons (tOp cIx (tVar 1) (tC (.int 0))) (tCons (tOp cIx (tVar 1) (tC (.int 1))) (tCons (tOp cIx (tVar 1) (tC (.int 2))) tNil))))))) (tRet (tC (.bl false))) tNext)
  (jG K c d)))))
theorem vW{P T M:Addr}{v2:Option V}(x:IsTh H T M t r z s ms)(q:∀ H',Same H H'->Q (.bl true) H'):
  jG K c d (eD9 Q) [some (.ref P),some (.ref T),v2] H:=by
 have hn:=x.n;unfold jG;symm;refine ixT x.T (v:=V.ref M) rfl ?_;symm;refine zG x.M ?_;symm;refine ixT x.T (v:=V.ref M) rfl ?_;symm;refine⟨⟨_,LH x.M⟩,?_⟩;refine bU (xs:=ms.map V.int) (fun _=>true) (fun _=>.bl true) (by rw[Lp];omega) (LH x.M) ?_ ?_ ?_
 . intro i y H1 R hy s1 k1;exact k1 _ (Lr _)
 . intro i y H1 Q1 hy hb s1 k1;obtain⟨v,hv,rfl⟩:=ba hy;show tCall _ _ _ _ [none,some (.int v)] H1 Q1;symm;exact⟨v,rfl,k1 _ (Lr _)⟩
 . intro l H1 hl s1 el
   have eb:((List.range (ms.map V.int).length).filter fun _=>true).map (fun _=>V.bl true)=(List.replicate (ms.map V.int).length true).map V.bl:=by
    rw[a9,List.map_const',Mp,N2]
   rw[eb] at el;refine lW el ?_
   have ea:(List.replicate (ms.map V.int).length true).all id=true:=by
    rw[LM];intro b hb;exact(Nt.mp hb).2
   rw[ea];exact q _ s1
theorem zV(h:mM K c d vs H Q E):mN K c d (eD9 Q) (start ["puzzle","thought","floor"] vs) H:=by
 obtain⟨t,P,L,G,T,M,h,w,g,r,z,s,Ld,cl,ms,rfl,x,y,q⟩:=h;obtain⟨dx,p,rs,h1,h2,h3⟩:=x.ex;show mN K c d _ [some (.ref P),some (.ref T),none] H;unfold mN;rw[ay,aB];symm;refine zH y.T ?_;symm;rw[zA y.T,show(([.str (tx (tkC t)),.int r,.int z,.int s,.ref M]:List V).length:Int)=5 from rfl];symm;refine ixT y.T (v:=V.str (tx (tkC t))) rfl ?_;symm;rw[Fi];symm;refine methE (k:=.Puzzle) rfl x.ok h1 (by rfl) ?_;symm;refine⟨P,L,G,h,w,g,Ld,cl,rfl,x,fun p1 hp1=>?_⟩;symm;rw[aB];symm;refine ixT y.T (v:=V.int z) rfl ?_;symm;refine⟨p1,h,w,g,z,rfl,hp1,x.R.F,?_⟩;unfold formB at q
 cases hb:(decide (0<=z)&&decide (z<h*w)) with
 | false=>
  rw[hb,LA] at q;exact⟨false,rfl,iteT (q _ (Lr _))⟩
 | true=>
  rw[hb,LD] at q;refine⟨true,rfl,iteF ?_⟩;refine ixT y.T (v:=V.int s) rfl ?_;symm;refine⟨p1,h,w,g,s,rfl,hp1,?_⟩
  cases hb2:(decide (1<=s)&&decide (s<=g)) with
  | false=>
   rw[hb2,LA] at q;exact⟨false,rfl,iteT (q _ (Lr _))⟩
  | true=>
   rw[hb2,LD] at q;refine⟨true,rfl,iteF ?_⟩;rw[aB];symm;refine ixT y.T (v:=V.str (tx (tkC t))) rfl ?_;symm;refine ixT y.T (v:=V.int r) rfl ?_;symm;refine ixT y.T (v:=V.int z) rfl ?_;symm;refine⟨t,P,L,G,h,w,g,r,z,Ld,cl,rfl,x,fun H1 s1=>?_⟩
   cases hb3:hitB t Ld r z with
   | false=>
    rw[hb3] at q;exact⟨false,rfl,iteT (q _ s1)⟩
   | true=>
    rw[hb3] at q;refine⟨true,rfl,iteF ?_⟩;exact vW (y.same s1) fun H' s2=>q H' (s1.trans s2)
theorem Ef{k:RK}{h w g:Int}{m:Nat}(hk:allK k=true)(k0:k≠.Rule)(hn:numK k=false)(hs:sgnK k=true)(m0:1<=(m:Int))(m1:(m:Int)<=g):RR.Ok ⟨k,0,m,[],rngL 0 (h*w)⟩ h w g:=by
 refine⟨k0,Ml _,fun _=>rfl,fun _=>⟨m0,m1⟩,fun e=>?_,⟨fun e=>?_,fun _=>⟨rfl,rfl⟩⟩,fun x hx=>(by cases hx),Ml _⟩
 . rw[show sgnK k=false from e] at hs;cases hs
 . rw[show allK k=false from e] at hk;cases hk
def jj:TE:=fun _ _ _=>False
theorem gH{X:Cx}{e:Expr}:PE X e jj:=fun _ _ _ _ _ _ h=>h.elim
def clueB(cl:List Int)(z s:Int)(ms:List Int):Bool:=decide (ms=[])&&(!decide (cl.getD z.toNat 0=0)&&!decide (cl.getD z.toNat 0=s))
def jH(K:Frag):Sp:=fun vs H Q _=>∃ C M z s cl ms,vs=[.ref C,.int z,.int s,.ref M]/\H C=some (.lst (cl.map V.int))/\0<=z/\z<cl.length/\H M=some (.lst (ms.map V.int))/\∀ H',Same H H'->Q (.bl (clueB cl z s ms)) H'
def jI(K:Frag):TS:=
 (tRet (tAndV (tOp (cEq K) (tVar 3) (tLst tNil)) (tAndV (tOp (cNe K) (tOp cIx (tVar 0) (tVar 1)) (tC (.int 0))) (tOp (cNe K) (tOp cIx (tVar 0) (tVar 1)) (tVar 2)))))
theorem vX(h:jH K vs H Q E):jI K (eD9 Q) (start ["clues","cell","sign","more"] vs) H:=by
 obtain⟨C,M,z,s,cl,ms,rfl,hC,z0,z1,hM,q⟩:=h;show jI K _ [some (.ref C),some (.int z),some (.int s),some (.ref M)] H;unfold jI;symm;refine⟨aW (by decide),fun l hl=>?_⟩;obtain⟨H1,z9,s1,el⟩:∃ z,upd H l (.lst [])=z/\Same H z/\z l=some (.lst (([]:List Int).map V.int)):=aS _ hl;rw[z9];refine lU (s1 _ _ hM) el ?_;have q1:=q _ s1;unfold clueB at q1
 cases hb:decide (ms=[]) with
 | false=>
  rw[hb,LA] at q1;exact⟨false,rfl,iteF q1⟩
 | true=>
  rw[hb,LD] at q1;refine⟨true,rfl,iteT ?_⟩;symm;refine ixI (s1 _ _ hC) z0 z1 ?_;symm
  cases hb2:decide (cl.getD z.toNat 0=0) with
  | true=>
   rw[hb2,Nf,LA] at q1;exact iteF q1
  | false=>
   rw[hb2,Nk,LD] at q1;refine iteT ?_;refine ixI (s1 _ _ hC) z0 z1 ?_;symm;exact q1
def onlyB(cs Lb:List Int)(z s:Int)(ms:List Int):Bool:=decide (ms.length=1)&&(decide (ms.getD 0 0∈cs.filter fun x=>!decide (x=z))&&decide (woI (Lb.getD (ms.getD 0 0).toNat 0) s=0))
def jJ(K:Frag)(c:RCl RK):Sp:=fun vs H Q _=>∃ k r p A M ws cs Lb ms n m z s,vs=[.ref r,.ref A,.int z,.int s,.ref M]/\IsRule H c k r p ws cs n m/\aP cs Lb.length/\H A=some (.lst (Lb.map V.int))/\H M=some (.lst (ms.map V.int))/\s<=1000/\∀ H',Same H H'->Q (.bl (onlyB cs Lb z s ms)) H'
def jK(K:Frag)(c:RCl RK):TS:=
 (tRet (tAndV (tOp (cEq K) (tCB kLen (tCons (tVar 4) tNil)) (tC (.int 1))) (tAndV (tOp (cIn K false) (tOp cIx (tVar 4) (tC (.int 0))) (tCall (d4 K c) [] E0 (tCons (tVar 0) (tCons (tVar 2) tNil)))) (tCall (f6 K) [] E0 (tCons (tOp cIx (tVar 1) (tOp cIx (tVar 4) (tC (.int 0)))) (tCons (tVar 3) tNil))))))
theorem vY(h:jJ K c vs H Q E):jK K c (eD9 Q) (start ["rule","masks","cell","sign","more"] vs) H:=by
 obtain⟨k,r,p,A,M,ws,cs,Lb,ms,n,m,z,s,rfl,x,hC,hA,hM,hs,q⟩:=h;show jK K c _ [some (.ref r),some (.ref A),some (.int z),some (.int s),some (.ref M)] H;unfold jK;symm;rw[aN hM,Lp];symm;unfold onlyB at q
 have e1:decide ((ms.length:Int)=1)=decide (ms.length=1):=by
  rw[LV,Lw,Lw];omega
 rw[e1]
 cases hb:decide (ms.length=1) with
 | false=>
  rw[hb,LA] at q;exact iteF (q _ (Lr _))
 | true=>
  rw[hb,LD] at q;have hl:=L9 hb;refine iteT ?_;refine ixI hM (by decide) (by omega) ?_;rw[show(0:Int).toNat=0 from rfl];symm;refine⟨k,r,p,ws,cs,n,m,z,rfl,x,hC.1,fun l H1 s1 hl1 el=>?_⟩;dsimp only;rw[pW el]
  cases hb2:decide (ms.getD 0 0∈cs.filter fun x=>!decide (x=z)) with
  | false=>
   rw[hb2,LA] at q;exact⟨false,rfl,iteF (q _ s1)⟩
  | true=>
   rw[hb2,LD] at q;have hm:=L4.mp (L9 hb2);have hc:=hC.2 _ hm.1;refine⟨true,rfl,iteT ?_⟩;symm;refine ixI (s1 _ _ hM) (by decide) (by omega) ?_;rw[show(0:Int).toNat=0 from rfl];symm;refine ixI (s1 _ _ hA) hc.1 hc.2 ?_;symm;exact⟨_,s,rfl,by omega,q _ s1⟩
theorem RR.cin22{r:RR}{h w g:Int}(O:r.Ok h w g)(F:FlOk h w g):aP r.cs (h*w).toNat:=by
 obtain⟨h0,h1,w0,w1,m16,g0,g1⟩:=id F;have mpos:0<=h*w:=M8 (by omega) (by omega)
 cases hk:allK r.k with
 | false=>
  obtain⟨c1,c2,c3,c4,e⟩:=O.cl.told hk;rw[e];refine⟨by rw[Lp];omega,fun c hc=>?_⟩;obtain⟨n,hn,rfl⟩:=LK.mp hc;have:=c3 n hn;omega
 | true=>
  obtain⟨_,e⟩:=O.cl.all hk;rw[e];refine⟨by rw[kz];omega,fun c hc=>?_⟩;have:=BS hc;omega
structure Asks(H:Hp)(c:RCl RK)(d:RCl PzK)(P L G A T M:Addr)(h w g:Int)(Ld:List RR)(cl Lb:List Int)(t:TK)(r z s:Int)(ms:List Int):Prop where
 P:IsPz H c d P L G h w g Ld cl
 T:IsTh H T M t r z s ms
 A:H A=some (.lst (Lb.map V.int))
 n:Lb.length=(h*w).toNat
variable{Ld:List RR}
theorem Asks.same{H':Hp}{P L G A T M:Addr}{h w g:Int}{cl Lb:List Int}(x:Asks H c d P L G A T M h w g Ld cl Lb t r z s ms)(s':Same H H'):Asks H' c d P L G A T M h w g Ld cl Lb t r z s ms:=⟨x.P.same s',x.T.same s',s' _ _ x.A,x.n⟩
theorem nG{h w g:Int}(f:formB h w g Ld t r z s=true):0<=z/\z<h*w/\1<=s/\s<=g/\hitB t Ld r z=true:=by
 unfold formB at f;simp only[Ma,Lw] at f;exact⟨f.1.1,f.1.2,f.2.1.1,f.2.1.2,f.2.2⟩
theorem xu(ht:t≠.clue)(f:hitB t Ld r z=true):0<=r/\∃ x,Ld[r.toNat]? =some x/\goesB t x.k=true/\z∈x.cs:=by
 unfold hitB at f;by_cases hr:r<0
 . rw[LX hr] at f;cases f
 rw[LU hr,LU ht] at f
 cases e:Ld[r.toNat]? with
 | none=>rw[e] at f;cases f
 | some x=>
  rw[e] at f;simp only[Ma,Lw] at f;exact⟨by omega,x,rfl,f.1,f.2⟩
def lawCA(ns:List Int)(k:Int):Int:=if (ns.length:Int)=0 then(k*k*40692+7*k)%2147483647 else
 if k < (ns.length:Int) then ns.getD (k%ns.length).toNat 0%2305843009213693951 else(ns.getD (k%ns.length).toNat 0%2305843009213693951*48271+k*k*40692)%2305843009213693951
theorem Fj(ns:List Int)(k:Int):0<=lawCA ns k:=by
 unfold lawCA
 split
 . exact Mc _ (by decide)
 . split
   . exact Mc _ (by decide)
   . exact Mc _ (by decide)
def bh(K:Frag):Sp:=fun vs H Q _=>∃ a ns k,vs=[.ref a,.int k]/\SqL K H a (ns.map V.int)/\ns.length<=63/\0<=k/\k<=10000/\Q (.int (lawCA ns k)) H
def gp(K:Frag):TS:=
 (tSeq (tIfS (tTest (tOp (cEq K) (tCB (kLenS K) (tCons (tVar 0) tNil)) (tC (.int 0)))) (tRet (tOp cMod (tOp cAdd (tOp cMul (tOp cMul (tVar 1) (tVar 1)) (tC (.int 40692))) (tOp cMul (tC (.int 7)) (tVar 1))) (tC (.int 2147483647)))) tNext)
  (tSeq (tAsg (tOp cMod (tOp (rIxL K) (tVar 0) (tOp cMod (tVar 1) (tCB (kLenS K) (tCons (tVar 0) tNil)))) (tC (.int 2305843009213693951))) (gName 2))
  (tSeq (tIfS (tTest (tOp (cCmp fun i j=>decide (i<j)) (tVar 1) (tCB (kLenS K) (tCons (tVar 0) tNil)))) (tRet (tVar 2)) tNext)
  (tRet (tOp cMod (tOp cAdd (tOp cMul (tVar 2) (tC (.int 48271))) (tOp cMul (tOp cMul (tVar 1) (tVar 1)) (tC (.int 40692)))) (tC (.int 2305843009213693951)))))))
theorem vZ(h:bh K vs H Q E):gp K (eD9 Q) (start ["_law_script","_law_k","_law_number_here"] vs) H:=by
 obtain⟨a,ns,k,rfl,hS,hn,k0,k1,q⟩:=h;have kk:k*k<=10000*10000:=Int.mul_le_mul k1 k1 k0 (by decide);have kk0:0<=k*k:=M8 k0 k0;show gp K _ [some (.ref a),some (.int k),none] H;unfold gp;rw[ay,aB];symm;refine⟨a,_,rfl,.inl hS,?_⟩;symm;rw[Lp];unfold lawCA at q;by_cases hl:(ns.length:Int)=0
 . rw[LX hl] at q;rw[Lv hl];refine iteT ⟨.inl ⟨by omega,by omega⟩,.inr ⟨by decide,by decide⟩,.inl ⟨by decide,by decide⟩,?_⟩;symm;exact⟨by decide,q⟩
 . rw[LU hl] at q;rw[Ls hl];have hpos:0 < (ns.length:Int):=by omega
   refine iteF ⟨a,_,rfl,.inl hS,?_⟩;symm;rw[Lp];have m0:=Mc k (Int.ne_of_gt hpos);have m1:=Mb k hpos;refine⟨hpos,a,_,_,_,rfl,rfl,hS,uL m0 m1,?_⟩;symm;refine⟨by decide,?_⟩;rw[aB];symm;refine⟨a,_,rfl,.inl hS,?_⟩;symm;rw[Lp];by_cases hk:k < (ns.length:Int)
   . rw[LX hk] at q;rw[Lv hk];exact iteT q
   . rw[LU hk] at q;rw[Ls hk];refine iteF ⟨.inr ⟨by decide,by decide⟩,.inl ⟨by omega,by omega⟩,.inr ⟨by decide,by decide⟩,?_⟩;symm;exact⟨by decide,q⟩
def cr(K:Frag):Sp:=fun vs H Q _=>∃ A C Lb cs,vs=[.ref A,.ref C]/\H A=some (.lst (Lb.map V.int))/\H C=some (.lst (cs.map V.int))/\aP cs Lb.length/\∀ l H',Same H H'->H l=none->H' l=some (.lst ((sgAt Lb cs).map V.int))->Q (.ref l) H'
def oC(K:Frag):TS:=
 (tRet (tComp [none,none,some 0] (iList K (tVar 1)) (gName 1) tTrue (tOp cIx (tVar 2) (tVar 1))))
theorem Bl(h:cr K vs H Q E):oC K (eD9 Q) (start ["masks","cells"] vs) H:=by
 obtain⟨A,C,Lb,cs,rfl,hA,hC,⟨hn,hc⟩,q⟩:=h;show oC K _ [some (.ref A),some (.ref C)] H;unfold oC;symm;refine⟨⟨_,LH hC⟩,?_⟩;refine aT (xs:=cs) (fun _=>true) (fun c=>Lb.getD c.toNat 0) (by omega) (LH hC) ?_ ?_ ?_
 . intro x H1 R hx s1 k1;exact k1 _ (Lr _)
 . intro z H1 Q1 hz hb s1 k1;show tOp cIx _ _ [none,some (.int z),some (.ref A)] H1 Q1;symm;have:=hc z hz;exact ixI (s1 _ _ hA) this.1 (by omega) (k1 _ (Lr _))
 . intro l H1 hl s1 el;rw[a9] at el;exact q l H1 s1 hl el
def f7(K:Frag):Sp:=fun vs H Q _=>∃(C:Addr) (ms:List Int) (s:Int),vs=[.ref C,.int s]/\H C=some (.lst (ms.map V.int))/\ms.length<=63/\∀ H',Same H H'->Q (.int ((ms.filter fun m=>stB m s).length:Nat)) H'
def oE(K:Frag):TS:=
 (tRet (tCB kLen (tCons (tComp [none,none,some 1] (iList K (tVar 0)) (gName 1) (tB (tCall (gG K) [] E0 (tCons (tVar 1) (tCons (tVar 2) tNil)))) (tVar 1)) tNil)))
theorem Bm(h:f7 K vs H Q E):oE K (eD9 Q) (start ["some","sign"] vs) H:=by
 obtain⟨C,ms,s,rfl,hC,hn,q⟩:=h;show oE K _ [some (.ref C),some (.int s)] H;unfold oE;symm;refine⟨⟨_,LH hC⟩,?_⟩;refine aT (xs:=ms) (fun m=>stB m s) (fun m=>m) (by omega) (LH hC) ?_ ?_ ?_
 . intro x H1 R hx s1 k1;show tB _ [none,some (.int x),some (.int s)] H1 R;symm;exact⟨x,s,rfl,_,rfl,k1 _ (Lr _)⟩
 . intro z H1 Q1 hz hb s1 k1;show tVar 1 [none,some (.int z),some (.int s)] H1 Q1;symm;exact k1 _ (Lr _)
 . intro l H1 hl s1 el;rw[MM] at el;rw[aN el,Lp];exact q _ s1
def zW(g:Int)(cs Lb:List Int)(z s:Int)(ms:List Int):Bool:=decide ((cs.length:Int)=g)&&(decide (ms.length=1)&&(!decide (ms.getD 0 0=s)&&((decide (1<=ms.getD 0 0)&&decide (ms.getD 0 0<=g))&&decide (((sgAt Lb (cs.filter fun x=>!decide (x=z))).filter fun m=>stB m (ms.getD 0 0)).length=0))))
def iW(K:Frag)(c:RCl RK):Sp:=fun vs H Q _=>∃ k f r p A M ws cs Lb ms n m z s h w g,vs=[.ref f,.ref r,.ref A,.int z,.int s,.ref M]/\IsFl H f h w g/\IsRule H c k r p ws cs n m/\aP cs Lb.length/\H A=some (.lst (Lb.map V.int))/\H M=some (.lst (ms.map V.int))/\∀ H',Same H H'->Q (.bl (zW g cs Lb z s ms)) H'
def f8(K:Frag)(c:RCl RK):TS:=
 (tRet (tOp (cEq K) (tCall (f7 K) [] E0 (tCons (tCall (cr K) [] E0 (tCons (tVar 2) (tCons (tCall (d4 K c) [] E0 (tCons (tVar 1) (tCons (tVar 3) tNil))) tNil))) (tCons (tOp cIx (tVar 5) (tC (.int 0))) tNil))) (tC (.int 0))))
def kg(K:Frag)(c:RCl RK):TS:=
 (tSeq (tIfS (tOr (tTest (tOp (cEq K) (tOp cIx (tVar 5) (tC (.int 0))) (tVar 4))) (tNot (tB (tCall (jD K) [] E0 (tCons (tVar 0) (tCons (tOp cIx (tVar 5) (tC (.int 0))) tNil)))))) (tRet (tC (.bl false))) tNext)
  (f8 K c))
def iX(K:Frag)(c:RCl RK):TS:=
 (tSeq (tIfS (tOr (tTest (tOp (cNe K) (tCB kLen (tCons (aJ c c.ok "spots" (iL K c) (tVar 1) tNil) tNil)) (tOp cIx (tVar 0) (tC (.int 2))))) (tTest (tOp (cNe K) (tCB kLen (tCons (tVar 5) tNil)) (tC (.int 1))))) (tRet (tC (.bl false))) tNext)
  (kg K c))
theorem qM {k:RK} {f r p A M:Addr} {ws:List (List Nat)} {cs Lb:List Int} {n m:Int} (x:IsRule H c k r p ws cs n m) (hC:aP cs Lb.length) (hA:H A=some (.lst (Lb.map V.int))) (hM:H M=some (.lst (ms.map V.int))) (hl:ms.length=1)
  (q:∀ H',Same H H'->Q (.bl (decide (((sgAt Lb (cs.filter fun x=>!decide (x=z))).filter fun m=>stB m (ms.getD 0 0)).length=0))) H'):
  f8 K c (eD9 Q) [some (.ref f),some (.ref r),some (.ref A),some (.int z),some (.int s),some (.ref M)] H:=by
 unfold f8;symm;refine⟨k,r,p,ws,cs,n,m,z,rfl,x,hC.1,fun O H1 s1 hO eO=>?_⟩;symm;have hC2:aP (cs.filter fun x=>!decide (x=z)) Lb.length:=⟨Lz (LO _ _) hC.1,fun y hy=>hC.2 y (L4.mp hy).1⟩;refine⟨A,O,Lb,_,rfl,s1 _ _ hA,eO,hC2,fun B H2 s2 hB eB=>?_⟩;dsimp only;refine ixI ((s1.trans s2) _ _ hM) (by decide) (by omega) ?_;rw[show(0:Int).toNat=0 from rfl];symm;refine⟨B,_,_,rfl,eB,by unfold sgAt;rw[Lp];exact hC2.1,fun H3 s3=>?_⟩;symm;have q1:=q H3 ((s1.trans s2).trans s3)
 have e:decide ((((sgAt Lb (cs.filter fun x=>!decide (x=z))).filter fun m=>stB m (ms.getD 0 0)).length:Int)=0)=decide (((sgAt Lb (cs.filter fun x=>!decide (x=z))).filter fun m=>stB m (ms.getD 0 0)).length=0):=by
  rw[LV,Lw,Lw];omega
 rw[e];exact q1
theorem uU(h:iW K c vs H Q E):iX K c (eD9 Q) (start ["floor","rule","masks","cell","sign","more"] vs) H:=by
 obtain⟨k,f,r,p,A,M,ws,cs,Lb,ms,n,m,z,s,h,w,g,rfl,hf,x,hC,hA,hM,q⟩:=h;obtain⟨dx,W,C,h1,h2,h3⟩:=x.ex;show iX K c _ [some (.ref f),some (.ref r),some (.ref A),some (.int z),some (.int s),some (.ref M)] H;unfold iX;rw[ay,aB];symm;refine methE (k:=k) rfl x.ok h1 (by rfl) ?_;symm;refine⟨r,p,ws,cs,n,m,rfl,x,fun l hl=>?_⟩;obtain⟨H1,z9,s1,el⟩:=aS (.lst (cs.map V.int)) hl;rw[z9]
 try dsimp only
 rw[aN el,Lp];refine ixT (s1 _ _ hf) (v:=V.int g) rfl ?_;symm;unfold zW at q
 cases hb:decide ((cs.length:Int)=g) with
 | false=>
  rw[hb,LA] at q;symm;exact q _ s1
 | true=>
  rw[hb,LD] at q;symm;rw[aN (s1 _ _ hM),Lp];symm
  have e1:decide ((ms.length:Int)=1)=decide (ms.length=1):=by
   rw[LV,Lw,Lw];omega
  rw[e1]
  cases hb2:decide (ms.length=1) with
  | false=>
   rw[hb2,LA] at q;symm;exact q _ s1
  | true=>
   rw[hb2,LD] at q;have hl1:=L9 hb2;symm;unfold kg;rw[ay,aB];symm;refine ixI (s1 _ _ hM) (by decide) (by omega) ?_;rw[show(0:Int).toNat=0 from rfl];symm
   cases hb3:decide (ms.getD 0 0=s) with
   | true=>
    rw[hb3,Nf,LA] at q;refine iteT ?_;symm;exact q _ s1
   | false=>
    rw[hb3,Nk,LD] at q;refine iteF ?_;refine ixI (s1 _ _ hM) (by decide) (by omega) ?_;rw[show(0:Int).toNat=0 from rfl];symm;refine⟨f,h,w,g,_,rfl,s1 _ _ hf,?_⟩
    cases hb4:(decide (1<=ms.getD 0 0)&&decide (ms.getD 0 0<=g)) with
    | false=>
     rw[hb4,LA] at q;refine⟨false,rfl,iteT ?_⟩;symm;exact q _ s1
    | true=>
     rw[hb4,LD] at q;refine⟨true,rfl,iteF ?_⟩;exact qM (x.same s1) hC (s1 _ _ hA) (s1 _ _ hM) hl1 fun H' s2=>q H' (s1.trans s2)
theorem Fk(t:TK):decide (tkC t=[112,108,97,99,101])=decide (t=.place):=by cases t <;> decide
def tH:List V->Hp->VK->Prop
 | [.int i,.int j],H,Q=>CDiv i j/\∀ p,H p=none->Q (.ref p) (upd H p (.tup [.int (i/j),.int (i%j)]))
 | _,_,_=>False
theorem zX{X:Cx}:CallR X (.builtin "divmod") tH:=by
 intro Lc s σ H xs us Q I r h;unfold tH at h
 split at h
 . exact A7 Lc s σ H _ us Q I r ⟨_,_,rfl,h.1,h.2⟩
 . exact h.elim
theorem Eg:bootBuiltins "divmod"=some (.builtin "divmod"):=by decide+kernel
theorem Fl{i j:Int}{H:Hp}{Q:VK}:tH [.int i,.int j] H Q=(CDiv i j/\∀ p,H p=none->Q (.ref p) (upd H p (.tup [.int (i/j),.int (i%j)]))):=rfl
def fu(K:Frag):Sp:=fun vs H Q _=>∃(C:Addr) (ms:List Int) (s:Int),vs=[.ref C,.int s]/\H C=some (.lst (ms.map V.int))/\ms.length<=63/\s<=100000/\∀ H',Same H H'->Q (.int ((ms.filter fun m=>decide (woI m s=0)).length:Nat)) H'
def mO(K:Frag):TS:=
 (tRet (tCB kLen (tCons (tComp [none,none,some 1] (iList K (tVar 0)) (gName 1) (tB (tCall (f6 K) [] E0 (tCons (tVar 1) (tCons (tVar 2) tNil)))) (tVar 1)) tNil)))
variable{K:Frag}{vs:List V}{H:Hp}{Q:VK}{E:XK}
theorem zY(h:fu K vs H Q E):mO K (eD9 Q) (start ["some","sign"] vs) H:=by
 obtain⟨C,ms,s,rfl,hC,hn,hs,q⟩:=h;show mO K _ [some (.ref C),some (.int s)] H;unfold mO;symm;refine⟨⟨_,LH hC⟩,?_⟩;refine aT (xs:=ms) (fun m=>decide (woI m s=0)) (fun m=>m) (by omega) (LH hC) ?_ ?_ ?_
 . intro x H1 R hx s1 k1;show tB _ [none,some (.int x),some (.int s)] H1 R;symm;exact⟨x,s,rfl,hs,_,rfl,k1 _ (Lr _)⟩
 . intro z H1 Q1 hz hb s1 k1;show tVar 1 [none,some (.int z),some (.int s)] H1 Q1;symm;exact k1 _ (Lr _)
 . intro l H1 hl s1 el;rw[MM] at el;rw[aN el,Lp];exact q _ s1
def rosP(c z:Int)(q:List Int):Bool:=decide (q.getD 0 0=c)&&decide (z∈q)
def rosL(h w c z:Int):List Int:=match (squL h w).find? (rosP c z) with
 | none=>[]
 | some q=>q.filter fun x=>!decide (x=z)
variable{h w:Int}
theorem BV{q:List Int}(hq:q∈squL h w):∃ i:Nat,i < (h*w).toNat/\cornB h w i=true/\q=sqL w i:=by
 unfold squL at hq;obtain⟨i,hi,rfl⟩:=LK.mp hq;obtain⟨hi,hc⟩:=L4.mp hi;exact⟨i,LL.mp hi,hc,rfl⟩
theorem F9{c:Int}(w0:1<=w)(c0:0<=c)(hc:cornB h w c=true):c+w+1<h*w:=by
 unfold cornB at hc;rw[Ma,Lw,Lw] at hc;have e:=Int.mul_ediv_add_emod c w;have m:=Int.mul_le_mul_of_nonneg_left (show c/w+2<=h by omega) (show 0<=w by omega);rw[Int.mul_add] at m;rw[Int.mul_comm h w];omega
theorem HS{c x:Int}(w0:1<=w)(c0:0<=c)(hc:cornB h w c=true)(hx:x∈sqL w c):0<=x/\x<h*w:=by
 have:=F9 w0 c0 hc;simp[sqL] at hx;omega
variable{z:Int}
theorem Hi{g c:Int}{n:Nat}(F:FlOk h w g)(hn:n=(h*w).toNat):aP (rosL h w c z) n:=by
 have w0:=F.w0;unfold rosL
 cases e:(squL h w).find? (rosP c z) with
 | none=>exact⟨by show(0:Nat)<=63;omega,fun x hx=>by cases hx⟩
 | some q=>
  obtain⟨i,hi,hc,rfl⟩:=BV (List.mem_of_find?_eq_some e);refine⟨Lz (LO _ _) (by show(4:Nat)<=63;omega),fun x hx=>?_⟩;have:=HS w0 (by omega) hc (L4.mp hx).1;omega
def h9(K:Frag):Sp:=fun vs H Q _=>∃ f h w g c z,vs=[.ref f,.int c,.int z]/\IsFl H f h w g/\FlOk h w g/\∀ l H',Same H H'->H l=none->H' l=some (.lst ((rosL h w c z).map V.int))->Q (.ref l) H'
def ia(K:Frag):TS:=
 (tSeq (tFor (iList K (tCall (lZ K) [] E0 (tCons (tVar 0) tNil))) (gName 3)
  (tIfS (tAnd (tTest (tOp (cEq K) (tOp cIx (tVar 3) (tC (.int 0))) (tVar 1))) (tTest (tOp (cIn K false) (tVar 2) (tVar 3)))) (tRet (tComp [none,none,some 2] (iList K (tVar 3)) (gName 1) (tTest (tOp (cNe K) (tVar 1) (tVar 2))) (tVar 1))) tNext))
  (tRet (tLst tNil)))
theorem tK(h:h9 K vs H Q E):ia K (eD9 Q) (start ["floor","corner","cell","square"] vs) H:=by
 obtain⟨f,h,w,g,c,z,rfl,hf,F,q⟩:=h;show ia K _ [some (.ref f),some (.int c),some (.int z),none] H;unfold ia;rw[ay];symm;refine⟨f,h,w,g,rfl,hf,F,fun l as H1 s1 hl x nd nl hn=>?_⟩;refine⟨l,rfl,⟨_,LH x.top⟩,?_⟩;refine dn (K:=K) (xs:=as.map V.ref) (fun i σ H'=>∃ sv:Option V,σ=[some (.ref f),some (.int c),some (.int z),sv]/\Same H1 H'/\∀(j:Nat) (q:List Int),j<i->(squL h w)[j]? =some q->rosP c z q=false) ⟨none,rfl,Lr _,fun j q hj=>by omega⟩ (fun i σ H' _ ⟨_,_,s,_⟩=>s.seq (LH x.top)) ?_ ?_
 . rintro i v σ H2 hv ⟨sv,rfl,s2,hno⟩;rw[Lu] at hv
   cases ha:as[i]? with
   | none=>rw[ha] at hv;cases hv
   | some a=>
   rw[ha] at hv;cases hv;have hlt:i < (squL h w).length:=by rw[← x.len];exact(Lx.mp ha).1
   have eq:(squL h w)[i]? =some (squL h w)[i]:=Lq hlt;have ea:=(x.same s2).at_ i a _ ha eq
   have q4:((squL h w)[i]).length=4:=by
    obtain⟨k,_,_,e⟩:=BV (L1 hlt);rw[e];rfl
   have nx:rosP c z (squL h w)[i]=false->∀(j:Nat) (q:List Int),j<i+1->(squL h w)[j]? =some q->rosP c z q=false:=fun hf j q hj hq=>by
    by_cases hji:j=i
    . subst hji;rw[eq] at hq;cases hq;exact hf
    . exact hno j q (by omega) hq
   have fo:rosP c z (squL h w)[i]=true->rosL h w c z=(squL h w)[i].filter fun x=>!decide (x=z):=fun ht=>by
    have e:(squL h w).find? (rosP c z)=some (squL h w)[i]:=by
     rw[List.find?_eq_some_iff_getElem];refine⟨ht,i,hlt,rfl,fun j hj=>?_⟩;rw[hno j _ hj (Lq (by omega))];rfl
    unfold rosL;rw[e]
   generalize (squL h w)[i]=sq at*;unfold rosP at nx fo;symm;rw[aB];symm;refine ixI ea (by decide) (by omega) ?_;rw[show(0:Int).toNat=0 from rfl];symm
   cases hb:decide (sq.getD 0 0=c) with
   | false=>
    rw[hb,LA] at nx;refine iteF ?_;symm;exact⟨_,rfl,s2,nx rfl⟩
   | true=>
    rw[hb,LD] at nx fo;refine iteT ?_;rw[pW ea]
    cases hb2:decide (z∈sq) with
    | false=>
     rw[hb2] at nx;refine⟨false,rfl,?_⟩;symm;exact⟨_,rfl,s2,nx rfl⟩
    | true=>
     rw[hb2] at fo;refine⟨true,rfl,?_⟩;symm;refine⟨⟨_,LH ea⟩,?_⟩;refine aT (xs:=sq) (fun x=>!decide (x=z)) (fun x=>x) (by omega) (LH ea) ?_ ?_ ?_
     . intro y H3 R hy s3 k3;show tTest _ [none,some (.int y),some (.int z)] H3 R;symm;exact k3 _ (Lr _)
     . intro y H3 Q3 hy hb s3 k3;show tVar 1 [none,some (.int y),some (.int z)] H3 Q3;symm;exact k3 _ (Lr _)
     . intro T H3 hT s3 eT;rw[MM,← fo rfl] at eT;exact q T H3 ((s1.trans s2).trans s3) ((s1.trans s2).free hT) eT
 . rintro σ H2 ⟨sv,rfl,s2,hno⟩
   have e:rosL h w c z=[]:=by
    have e:(squL h w).find? (rosP c z)=none:=by
     rw[List.find?_eq_none];intro q hq;obtain⟨i,hi⟩:=List.getElem?_of_mem hq;rw[hno i q (by rw[Lp,x.len];exact(Lx.mp hi).1) hi];decide
    unfold rosL;rw[e]
   symm;refine⟨aW (by decide),fun T hT=>?_⟩;exact q T _ ((s1.trans s2).trans ((Lr H2).laid hT)) ((s1.trans s2).free hT) (by rw[aj,e];rfl)
def squB(h w m:Int)(Lb:List Int)(z s:Int)(ms:List Int):Bool:=decide (s=m)&&(decide (ms.length=1)&&(!decide (rosL h w (ms.getD 0 0) z=[])&&decide (((sgAt Lb (rosL h w (ms.getD 0 0) z)).filter fun k=>decide (woI k s=0)).length=(rosL h w (ms.getD 0 0) z).length)))
def ib(K:Frag)(c:RCl RK):Sp:=fun vs H Q _=>∃ k f r p A M ws cs Lb ms n m z s h w g,vs=[.ref f,.ref r,.ref A,.int z,.int s,.ref M]/\IsFl H f h w g/\FlOk h w g/\IsRule H c k r p ws cs n m/\Lb.length=(h*w).toNat/\H A=some (.lst (Lb.map V.int))/\H M=some (.lst (ms.map V.int))/\s<=1000/\∀ H',Same H H'->Q (.bl (squB h w m Lb z s ms)) H'
def fI(K:Frag)(c:RCl RK):TS:=
 (tSeq (tAsg (tCall (h9 K) [] E0 (tCons (tVar 0) (tCons (tOp cIx (tVar 5) (tC (.int 0))) (tCons (tVar 3) tNil)))) (gName 6))
  (tRet (tAndV (tOp (cNe K) (tVar 6) (tLst tNil)) (tOp (cEq K) (tCall (fu K) [] E0 (tCons (tCall (cr K) [] E0 (tCons (tVar 2) (tCons (tVar 6) tNil))) (tCons (tVar 4) tNil))) (tCB kLen (tCons (tVar 6) tNil))))))
def ic(K:Frag)(c:RCl RK):TS:=
 (tSeq (tIfS (tOr (tTest (tOp (cNe K) (tVar 4) (aJ c c.ok "sign" (kA K c) (tVar 1) tNil))) (tTest (tOp (cNe K) (tCB kLen (tCons (tVar 5) tNil)) (tC (.int 1))))) (tRet (tC (.bl false))) tNext)
  (fI K c))
variable{c:RCl RK}{Lb:List Int}
theorem qj {f A M:Addr} {v1:V} {ms:List Int} {s g:Int} (hf:IsFl H f h w g) (F:FlOk h w g) (hml:Lb.length=(h*w).toNat) (hA:H A=some (.lst (Lb.map V.int))) (hM:H M=some (.lst (ms.map V.int))) (hl:ms.length=1) (hs:s<=1000)
  (q:∀ H',Same H H'->Q (.bl (!decide (rosL h w (ms.getD 0 0) z=[])&&decide (((sgAt Lb (rosL h w (ms.getD 0 0) z)).filter fun k=>decide (woI k s=0)).length=(rosL h w (ms.getD 0 0) z).length))) H'):
  fI K c (eD9 Q) [some (.ref f),some v1,some (.ref A),some (.int z),some (.int s),some (.ref M),none] H:=by
 have hin:=Hi (c:=ms.getD 0 0) (z:=z) F hml;unfold fI;symm;refine ixI hM (by decide) (by omega) ?_;rw[show(0:Int).toNat=0 from rfl];symm;refine⟨f,h,w,g,_,z,rfl,hf,F,fun R H1 s1 hR eR=>?_⟩;symm;refine⟨aW (by decide),fun Z hZ=>?_⟩;obtain⟨H2,z9,s2,eZ⟩:∃ z,upd H1 Z (.lst [])=z/\Same H1 z/\z Z=some (.lst (([]:List Int).map V.int)):=aS _ hZ;rw[z9];have s12:=s1.trans s2;refine pY (s2 _ _ eR) eZ ?_;generalize hros:rosL h w (ms.getD 0 0) z=ros at*
 cases hb:decide (ros=[]) with
 | true=>
  rw[hb,Nf] at q;refine⟨false,rfl,iteF ?_⟩;exact q _ s12
 | false=>
  rw[hb,Nk] at q;refine⟨true,rfl,iteT ?_⟩;symm;refine⟨A,R,Lb,ros,rfl,s12 _ _ hA,s2 _ _ eR,hin,fun B H3 s3 hB eB=>?_⟩;dsimp only;refine⟨B,_,s,rfl,eB,by unfold sgAt;rw[Lp];exact hin.1,by omega,fun H4 s4=>?_⟩;symm;rw[aN (((s2.trans s3).trans s4) _ _ eR),Lp];symm;have q1:=q H4 ((s12.trans s3).trans s4)
  have e:decide ((((sgAt Lb ros).filter fun k=>decide (woI k s=0)).length:Int)=(ros.length:Int))=decide (((sgAt Lb ros).filter fun k=>decide (woI k s=0)).length=ros.length):=by
   rw[LV,Lw,Lw];omega
  rw[e];exact q1
theorem tL(h:ib K c vs H Q E):ic K c (eD9 Q) (start ["floor","rule","masks","cell","sign","more","rest"] vs) H:=by
 obtain⟨k,f,r,p,A,M,ws,cs,Lb,ms,n,m,z,s,h,w,g,rfl,hf,F,x,hml,hA,hM,hs,q⟩:=h;obtain⟨dx,W,C,h1,h2,h3⟩:=x.ex;show ic K c _ [some (.ref f),some (.ref r),some (.ref A),some (.int z),some (.int s),some (.ref M),none] H;unfold ic;rw[ay,aB];symm;refine methE (k:=k) rfl x.ok h1 (by rfl) ?_;symm;refine⟨r,p,ws,cs,n,m,rfl,x,?_⟩;symm;unfold squB at q
 cases hb:decide (s=m) with
 | false=>
  rw[hb,LA] at q;symm;exact q _ (Lr _)
 | true=>
  rw[hb,LD] at q;symm;rw[aN hM,Lp];symm
  have e1:decide ((ms.length:Int)=1)=decide (ms.length=1):=by
   rw[LV,Lw,Lw];omega
  rw[e1]
  cases hb2:decide (ms.length=1) with
  | false=>
   rw[hb2,LA] at q;symm;exact q _ (Lr _)
  | true=>
   rw[hb2,LD] at q;symm;exact qj hf F hml hA hM (L9 hb2) hs q
theorem Eh(t:TK):decide (tkC t=[115,113,117,97,114,101])=decide (t=.square):=by cases t <;> decide
def othL(cs:List Int)(z:Int):List Int:=cs.filter fun x=>!decide (x=z)
def cntB(cs:List Int)(n m:Int)(Lb:List Int)(z s:Int)(ms:List Int):Bool:=
 decide (ms=[])&&(if s=m then decide (n<=(((sgAt Lb (othL cs z)).filter fun k=>decide (woI k s=0)).length:Int)) else decide ((((sgAt Lb (othL cs z)).filter fun k=>stB k m).length:Int)<n))
def iY(K:Frag)(c:RCl RK):Sp:=fun vs H Q _=>∃ k r p A M ws cs Lb ms n m z s,vs=[.ref r,.ref A,.int z,.int s,.ref M]/\IsRule H c k r p ws cs n m/\aP cs Lb.length/\H A=some (.lst (Lb.map V.int))/\H M=some (.lst (ms.map V.int))/\s<=1000/\∀ H',Same H H'->Q (.bl (cntB cs n m Lb z s ms)) H'
def f9(K:Frag)(c:RCl RK):TS:=
 (tSeq (tAsg (tCall (cr K) [] E0 (tCons (tVar 1) (tCons (tCall (d4 K c) [] E0 (tCons (tVar 0) (tCons (tVar 2) tNil))) tNil))) (gName 5))
  (tSeq (tIfS (tTest (tOp (cEq K) (tVar 3) (aJ c c.ok "sign" (kA K c) (tVar 0) tNil))) (tRet (tOp (cCmp fun i j=>decide (j<=i)) (tCall (fu K) [] E0 (tCons (tVar 5) (tCons (tVar 3) tNil))) (aJ c c.ok "number" (jh K c) (tVar 0) tNil))) tNext)
  (tRet (tOp (cCmp fun i j=>decide (i<j)) (tCall (f7 K) [] E0 (tCons (tVar 5) (tCons (aJ c c.ok "sign" (kA K c) (tVar 0) tNil) tNil))) (aJ c c.ok "number" (jh K c) (tVar 0) tNil)))))
def iZ(K:Frag)(c:RCl RK):TS:=
 (tSeq (tIfS (tTest (tOp (cNe K) (tVar 4) (tLst tNil))) (tRet (tC (.bl false))) tNext)
  (f9 K c))
variable{cs:List Int}{m:Int}
theorem qN {k:RK} {r p A M:Addr} {ws:List (List Nat)} {n s:Int} (x:IsRule H c k r p ws cs n m) (hC:aP cs Lb.length) (hA:H A=some (.lst (Lb.map V.int))) (hs0:s<=1000)
  (q:∀ H',Same H H'->Q (.bl (if s=m then decide (n<=(((sgAt Lb (othL cs z)).filter fun k=>decide (woI k s=0)).length:Int)) else decide ((((sgAt Lb (othL cs z)).filter fun k=>stB k m).length:Int)<n))) H'):
  f9 K c (eD9 Q) [some (.ref r),some (.ref A),some (.int z),some (.int s),some (.ref M),none] H:=by
 have hC2:aP (othL cs z) Lb.length:=⟨Lz (LO _ _) hC.1,fun y hy=>hC.2 y (L4.mp hy).1⟩;have Lj:(sgAt Lb (othL cs z)).length<=63:=by unfold sgAt;rw[Lp];exact hC2.1
 unfold f9;symm;refine⟨k,r,p,ws,cs,n,m,z,rfl,x,hC.1,fun O H1 s1 hO eO=>?_⟩;symm;refine⟨A,O,Lb,othL cs z,rfl,s1 _ _ hA,eO,hC2,fun B H2 s2 hB eB=>?_⟩;have s12:=s1.trans s2;have x2:=x.same s12;obtain⟨dx,W,C,h1,h2,h3⟩:=x2.ex;symm;rw[aB];symm;refine methE (k:=k) rfl x2.ok h1 (by rfl) ?_;symm;refine⟨r,p,ws,cs,n,m,rfl,x2,?_⟩;symm;by_cases hs:s=m
 . rw[LX hs] at q;rw[Lv hs];symm;refine⟨B,_,_,rfl,eB,Lj,by omega,fun H3 s3=>?_⟩;have x3:=x2.same s3;obtain⟨dx3,W3,C3,g1,g2,g3⟩:=x3.ex;refine methE (k:=k) rfl x3.ok g1 (by rfl) ?_;symm;refine⟨r,p,ws,cs,n,m,rfl,x3,?_⟩;symm;exact q _ (s12.trans s3)
 . rw[LU hs] at q;rw[Ls hs];symm;refine methE (k:=k) rfl x2.ok h1 (by rfl) ?_;symm;refine⟨r,p,ws,cs,n,m,rfl,x2,?_⟩;symm;refine⟨B,_,_,rfl,eB,Lj,fun H3 s3=>?_⟩;have x3:=x2.same s3;obtain⟨dx3,W3,C3,g1,g2,g3⟩:=x3.ex;refine methE (k:=k) rfl x3.ok g1 (by rfl) ?_;symm;refine⟨r,p,ws,cs,n,m,rfl,x3,?_⟩;symm;exact q _ (s12.trans s3)
theorem uV(h:iY K c vs H Q E):iZ K c (eD9 Q) (start ["rule","masks","cell","sign","more","some"] vs) H:=by
 obtain⟨k,r,p,A,M,ws,cs,Lb,ms,n,m,z,s,rfl,x,hC,hA,hM,hs,q⟩:=h;show iZ K c _ [some (.ref r),some (.ref A),some (.int z),some (.int s),some (.ref M),none] H;unfold iZ;rw[ay,aB];symm;refine⟨aW (by decide),fun Z hZ=>?_⟩;obtain⟨H1,z9,s1,eZ⟩:∃ z,upd H Z (.lst [])=z/\Same H z/\z Z=some (.lst (([]:List Int).map V.int)):=aS _ hZ;rw[z9];refine pY (s1 _ _ hM) eZ ?_;unfold cntB at q
 cases hb:decide (ms=[]) with
 | false=>
  rw[hb,LA] at q;refine⟨true,rfl,?_⟩;symm;exact q _ s1
 | true=>
  rw[hb,LD] at q;refine⟨false,rfl,?_⟩;symm;exact qN (x.same s1) hC (s1 _ _ hA) hs fun H' s2=>q H' (s1.trans s2)
theorem Fm(t:TK):decide (tkC t=[99,111,117,110,116])=decide (t=.count):=by cases t <;> decide
variable{xs:List Int}
theorem qk{q:Addr}{x:Int}(hq:H q=some (.lst (xs.map V.int)))(hm:x∈xs)(hn:xs.length<=900)(h:Q (.int (xs.findIdx (· ==x):Nat)) H):jr K (.ref q) [.int x] H Q:=by
 have hlt:xs.findIdx (· ==x)<xs.length:=MZ ⟨x,hm,by simp⟩
 have ev:∀ a b:Int,PyData.eqv (.int a) (.int b)=decide (a=b):=fun a b=>by
  rw[PyData.eqv];by_cases h:a=b
  . subst h;simp
  . simp[h]
 refine⟨xs.map PyData.int,.int x,xs.findIdx (· ==x),.lst (LH hq) (.ints xs),.int x,pV xs,rfl,?_,by omega,⟨PyData.int xs[xs.findIdx (· ==x)],?_,?_⟩,fun m e hm2 he=>?_,h⟩
 . rw[lT];omega
 . rw[Lu,Lq hlt];rfl
 . have:=List.findIdx_getElem (w:=hlt);rw[ev,Lw]
   simpa using this
 . have hml:m<xs.length:=by omega
   rw[Lu,Lq hml] at he;cases he;have:=Os hm2;rw[ev,Nu]
   simpa using this
def jL(xs:List Int)(x:Int):Nat:=xs.findIdx (· ==x)
def ordB(cs ms:List Int):Bool:=decide (ms.length=2)&&(decide (ms.getD 0 0∈cs)&&(decide (ms.getD 1 0∈cs)&&decide (jL cs (ms.getD 0 0)<jL cs (ms.getD 1 0))))
def fJ(K:Frag):Sp:=fun vs H Q _=>∃ C M cs ms,vs=[.ref C,.ref M]/\H C=some (.lst (cs.map V.int))/\cs.length<=63/\H M=some (.lst (ms.map V.int))/\Q (.bl (ordB cs ms)) H
def fK(K:Frag):TS:=
 (tSeq (tIfS (tOr (tTest (tOp (cNe K) (tCB kLen (tCons (tVar 1) tNil)) (tC (.int 2)))) (tOr (tTest (tOp (cIn K true) (tOp cIx (tVar 1) (tC (.int 0))) (tVar 0))) (tTest (tOp (cIn K true) (tOp cIx (tVar 1) (tC (.int 1))) (tVar 0))))) (tRet (tC (.bl false))) tNext)
  (tRet (tOp (cCmp fun i j=>decide (i<j)) (tBM K "list" (jr K) (tVar 0) (tCons (tOp cIx (tVar 1) (tC (.int 0))) tNil)) (tBM K "list" (jr K) (tVar 0) (tCons (tOp cIx (tVar 1) (tC (.int 1))) tNil)))))
theorem ql(h:fJ K vs H Q E):fK K (eD9 Q) (start ["cells","more"] vs) H:=by
 obtain⟨C,M,cs,ms,rfl,hC,hn,hM,q⟩:=h;show fK K _ [some (.ref C),some (.ref M)] H;unfold fK;rw[ay,aB];symm;rw[aN hM,Lp];symm;unfold ordB at q
 have e1:decide ((ms.length:Int)=2)=decide (ms.length=2):=by
  rw[LV,Lw,Lw];omega
 rw[e1]
 cases hb:decide (ms.length=2) with
 | false=>
  rw[hb,LA] at q;symm;exact q
 | true=>
  rw[hb,LD] at q;have hl:=L9 hb;symm;refine ixI hM (by decide) (by omega) ?_;rw[show(0:Int).toNat=0 from rfl];symm;rw[jq hC]
  cases hb2:decide (ms.getD 0 0∈cs) with
  | false=>
   rw[hb2,LA] at q;refine⟨true,rfl,iteT ?_⟩;symm;exact q
  | true=>
   rw[hb2,LD] at q;refine⟨false,rfl,iteF ?_⟩;symm;refine ixI hM (by decide) (by omega) ?_;rw[show(1:Int).toNat=1 from rfl];symm;rw[jq hC]
   cases hb3:decide (ms.getD 1 0∈cs) with
   | false=>
    rw[hb3,LA] at q;refine⟨true,rfl,iteT ?_⟩;symm;exact q
   | true=>
    rw[hb3,LD] at q;refine⟨false,rfl,iteF ?_⟩;symm;refine⟨bA hC,?_⟩;refine ixI hM (by decide) (by omega) ?_;rw[show(0:Int).toNat=0 from rfl];symm;refine qk hC (L9 hb2) (by omega) ?_;symm;refine⟨bA hC,?_⟩;refine ixI hM (by decide) (by omega) ?_;rw[show(1:Int).toNat=1 from rfl];symm;refine qk hC (L9 hb3) (by omega) ?_;symm
    have e2:decide (((cs.findIdx (· ==ms.getD 0 0):Nat):Int) < ((cs.findIdx (· ==ms.getD 1 0):Nat):Int))=decide (jL cs (ms.getD 0 0)<jL cs (ms.getD 1 0)):=by
     rw[LV,Lw,Lw];unfold jL;omega
    rw[e2];exact q
def orM(Lb:List Int)(ms:List Int):Int:=Builtin.bitOr (Lb.getD (ms.getD 0 0).toNat 0) (Lb.getD (ms.getD 1 0).toNat 0)
def pairB(cs Lb:List Int)(z s:Int)(ms:List Int):Bool:=ordB (cs.filter fun x=>!decide (x=z)) ms&&decide (((sgL (orM Lb ms)).filter fun x=>!decide (x=s)).length<=1)
theorem Hj:((List.range 64).all fun a=>(List.range 64).all fun b=>decide (0<=Builtin.bitOr (a:Int) (b:Int))&&decide (Builtin.bitOr (a:Int) (b:Int)<64))=true:=by decide+kernel
theorem HU{a b:Int}(a0:0<=a)(a1:a<64)(b0:0<=b)(b1:b<64):0<=Builtin.bitOr a b/\Builtin.bitOr a b<64:=by
 have t:=LM.mp (LM.mp Hj a.toNat (LL.mpr (by omega))) b.toNat (LL.mpr (by omega));have e1:((a.toNat:Nat):Int)=a:=by omega
 have e2:((b.toNat:Nat):Int)=b:=by omega
 rw[e1,e2] at t
 simpa using t
theorem Hk:((List.range 64).all fun m=>decide (Builtin.Int.intBits (m:Int)<=6)&&decide (sgL (m:Int)=(([0,1,2,3,4,5]:List Nat).filter fun(i:Nat)=>stB (m:Int) (1+(i:Int))).map fun(i:Nat)=>1+(i:Int)))=true:=by decide+kernel
theorem iE(m0:0<=m)(m1:m<64):Builtin.Int.intBits m<=6/\sgL m=(([0,1,2,3,4,5]:List Nat).filter fun(i:Nat)=>stB m (1+(i:Int))).map fun(i:Nat)=>1+(i:Int):=by
 have t:=LM.mp Hk m.toNat (LL.mpr (by omega));have e1:((m.toNat:Nat):Int)=m:=by omega
 rw[e1,Ma,Lw,Lw] at t;exact t
theorem wa{i:Int}(mm:∀ m∈Lb,0<=m/\m<64)(i0:0<=i)(i1:i<Lb.length):0<=Lb.getD i.toNat 0/\Lb.getD i.toNat 0<64:=by
 have hlt:i.toNat<Lb.length:=by omega
 rw[List.getD,Lq hlt];exact mm _ (L1 hlt)
def jM(K:Frag)(c:RCl RK):Sp:=fun vs H Q _=>∃ k r p A M ws cs Lb ms n m z s,vs=[.ref r,.ref A,.int z,.int s,.ref M]/\IsRule H c k r p ws cs n m/\aP cs Lb.length/\(∀ m∈Lb,0<=m/\m<64)/\H A=some (.lst (Lb.map V.int))/\H M=some (.lst (ms.map V.int))/\∀ H',Same H H'->Q (.bl (pairB cs Lb z s ms)) H'
def gI(K:Frag)(c:RCl RK):TS:=
 (tSeq (tAsg (tCall (cq K) [] E0 (tCons (tOp cOr (tOp cIx (tVar 1) (tOp cIx (tVar 4) (tC (.int 0)))) (tOp cIx (tVar 1) (tOp cIx (tVar 4) (tC (.int 1))))) tNil)) (gName 5))
  (tRet (tOp (cCmp fun i j=>decide (i<=j)) (tCB kLen (tCons (tComp [none,none,some 3] (iList K (tVar 5)) (gName 1) (tTest (tOp (cNe K) (tVar 1) (tVar 2))) (tVar 1)) tNil)) (tC (.int 1)))))
def jN(K:Frag)(c:RCl RK):TS:=
 (tSeq (tIfS (tNot (tB (tCall (fJ K) [] E0 (tCons (tCall (d4 K c) [] E0 (tCons (tVar 0) (tCons (tVar 2) tNil))) (tCons (tVar 4) tNil))))) (tRet (tC (.bl false))) tNext)
  (gI K c))
theorem rK {A M:Addr} {ms:List Int} {s:Int} {v0:V} (hC:aP cs Lb.length) (mm:∀ m∈Lb,0<=m/\m<64) (hA:H A=some (.lst (Lb.map V.int))) (hM:H M=some (.lst (ms.map V.int))) (ho:ordB (cs.filter fun x=>!decide (x=z)) ms=true)
  (q:∀ H',Same H H'->Q (.bl (decide (((sgL (orM Lb ms)).filter fun x=>!decide (x=s)).length<=1))) H'):
  gI K c (eD9 Q) [some v0,some (.ref A),some (.int z),some (.int s),some (.ref M),none] H:=by
 unfold ordB at ho;simp only[Ma,Lw] at ho;obtain⟨hl,m0,m1,_⟩:=ho;have c0:=hC.2 _ (L4.mp m0).1;have c1:=hC.2 _ (L4.mp m1).1;have k0:=wa mm c0.1 c0.2;have k1:=wa mm c1.1 c1.2;have ol:=HU k0.1 k0.2 k1.1 k1.2;have sb:=(iE ol.1 ol.2).1;unfold gI;symm;refine ixI hM (by decide) (by omega) ?_;rw[show(0:Int).toNat=0 from rfl];symm;refine ixI hA c0.1 c0.2 ?_;symm;refine ixI hM (by decide) (by omega) ?_;rw[show(1:Int).toNat=1 from rfl];symm;refine ixI hA c1.1 c1.2 ?_;symm;refine⟨_,rfl,by omega,fun l H1 s1 hl1 el=>?_⟩;have el2:H1 l=some (.lst ((sgL (orM Lb ms)).map V.int)):=el
 have hsl:(sgL (orM Lb ms)).length<=6:=by
  unfold orM;rw[(iE ol.1 ol.2).2,Lp];exact LO _ _
 symm;refine⟨⟨_,LH el2⟩,?_⟩;refine aT (xs:=sgL (orM Lb ms)) (fun x=>!decide (x=s)) (fun x=>x) (by omega) (LH el2) ?_ ?_ ?_
 . intro x H2 R hx s2 k2;show tTest _ [none,some (.int x),some (.int s)] H2 R;symm;exact k2 _ (Lr _)
 . intro x H2 Q2 hx hb s2 k2;show tVar 1 [none,some (.int x),some (.int s)] H2 Q2;symm;exact k2 _ (Lr _)
 . intro T H2 hT s2 eT;rw[MM] at eT;symm;rw[aN eT,Lp];symm
   have e2:decide ((((sgL (orM Lb ms)).filter fun x=>!decide (x=s)).length:Int)<=1)=decide (((sgL (orM Lb ms)).filter fun x=>!decide (x=s)).length<=1):=by
    rw[LV,Lw,Lw];omega
   rw[e2];exact q _ (s1.trans s2)
theorem wb(h:jM K c vs H Q E):jN K c (eD9 Q) (start ["rule","masks","cell","sign","more","together"] vs) H:=by
 obtain⟨k,r,p,A,M,ws,cs,Lb,ms,n,m,z,s,rfl,x,hC,mm,hA,hM,q⟩:=h;show jN K c _ [some (.ref r),some (.ref A),some (.int z),some (.int s),some (.ref M),none] H;unfold jN;rw[ay,aB];symm;refine⟨k,r,p,ws,cs,n,m,z,rfl,x,hC.1,fun O H1 s1 hO eO=>?_⟩;symm;refine⟨O,M,_,ms,rfl,eO,Lz (LO _ _) hC.1,s1 _ _ hM,?_⟩;unfold pairB at q
 cases hb:ordB (cs.filter fun x=>!decide (x=z)) ms with
 | false=>
  rw[hb,LA] at q;refine⟨false,rfl,iteT ?_⟩;symm;exact q _ s1
 | true=>
  rw[hb,LD] at q;refine⟨true,rfl,iteF ?_⟩;exact rK hC mm (s1 _ _ hA) (s1 _ _ hM) hb fun H' s2=>q H' (s1.trans s2)
theorem Ga(t:TK):decide (tkC t=[115,116,101,112])=decide (t=.step):=by cases t <;> decide
theorem BW(xs:List V){a b:Nat}(hab:a<=b):cutV xs (some (a:Int)) (some (b:Int))=(xs.drop a).take (b-a):=by
 have h1:HT.sIx xs.length 0 (some (a:Int))=min a xs.length:=by rw[HT.sIx_nat]
 have h2:HT.sIx xs.length xs.length (some (b:Int))=min b xs.length:=by rw[HT.sIx_nat]
 unfold cutV;rw[h1,h2];by_cases ha:a<=xs.length
 . rw[NP ha];by_cases hb:b<=xs.length
   . rw[NP hb]
   . rw[NG (by omega),Mh (by simp),Mh (by simp;omega)]
 . rw[NG (by omega),NG (by omega),Oi,Ot (by omega)];simp
theorem kW {k:Nat} {a:Addr} {te:TE} {fin:Addr->Hp->Prop} {σ0:St} {H1:Hp} (f:Int->Bool) (hn:xs.length<=900) (hq:SqL K H1 a (xs.map V.int))
  (he:∀ x H Q,x∈xs->Same H1 H->(∀ H',Same H H'->Q (.bl (f x)) H')->te (σ0.set k (some (.int x))) H Q)
  (hd:∀ l H,H1 l=none->Same H1 H->H l=some (.lst ((xs.map f).map V.bl))->fin l H):
  CompR (Itl K a) (gName k) tTrue te fin σ0 H1:=by
 refine bU (xs:=xs.map V.int) (fun _=>true) (fun i=>.bl (f (xs.getD i 0))) (by rw[Lp];exact hn) hq ?_ ?_ ?_
 . intro i x H R hx s1 k1;exact k1 _ (Lr _)
 . intro i x H Q hx hb s1 h;obtain⟨z,hz,rfl⟩:=ba hx;have h2:=h;simp only[jf hz] at h2;exact he z H Q (LB hz) s1 h2
 . intro l H hl s1 el;refine hd l H hl s1 ?_;rw[el,a9,Lp,Mf]
   congr 2
   exact qz xs fun x=>V.bl (f x)
def ahdL(cs:List Int)(z:Int):List Int:=if 0<jL cs z then [cs.getD (jL cs z-1) 0] else []
def behL(cs:List Int)(z:Int):List Int:=if jL cs z+1<cs.length then [cs.getD (jL cs z+1) 0] else []
theorem FD(h:z∈cs):jL cs z<cs.length:=MZ ⟨z,h,by simp⟩
theorem Gb{o:Int}(h:z∈cs)(ho:o∈ahdL cs z):o∈cs:=by
 have:=FD h;unfold ahdL at ho
 split at ho
 . rw[LE.mp ho,List.getD,Lq (by omega)];exact L1 _
 . cases ho
theorem Gc{o:Int}(ho:o∈behL cs z):o∈cs:=by
 unfold behL at ho
 split at ho
 . rename_i h
   rw[LE.mp ho,List.getD,Lq h];exact L1 _
 . cases ho
theorem zZ(cs:List Int)(k:Nat):(cs.drop k).take 1=if k<cs.length then [cs.getD k 0] else []:=by
 by_cases h:k<cs.length
 . rw[LX h,N6 h,List.getD,Lq h];rfl
 . rw[LU h,Ot (by omega)];rfl
def oF(K:Frag)(c:RCl RK):Sp:=fun vs H Q _=>∃ k r p ws cs n m z,vs=[.ref r,.int z]/\IsRule H c k r p ws cs n m/\cs.length<=63/\z∈cs/\∀ l H',Same H H'->H l=none->H' l=some (.lst ((ahdL cs z).map V.int))->Q (.ref l) H'
def oG(K:Frag)(c:RCl RK):TS:=
 (tSeq (tAsg (aJ c c.ok "spots" (iL K c) (tVar 0) tNil) (gName 2))
  (tSeq (tAsg (tBM K "list" (jr K) (tVar 2) (tCons (tVar 1) tNil)) (gName 3))
  (tRet (tIf (tTest (tOp (cCmp fun i j=>decide (j<i)) (tVar 3) (tC (.int 0)))) (tSl ky (tVar 2) (tPart (tOp cSub (tVar 3) (tC (.int 1)))) (tPart (tVar 3))) (tLst tNil)))))
theorem Bn(h:oF K c vs H Q E):oG K c (eD9 Q) (start ["rule","cell","spots","place"] vs) H:=by
 obtain⟨k,r,p,ws,cs,n,m,z,rfl,x,hn,hz,q⟩:=h;obtain⟨dx,W,C,h1,h2,h3⟩:=x.ex;have hlt:=FD hz;show oG K c _ [some (.ref r),some (.int z),none,none] H;unfold oG;rw[ay,bI];refine methE (k:=k) rfl x.ok h1 (by rfl) ?_;symm;refine⟨r,p,ws,cs,n,m,rfl,x,fun S hS=>?_⟩;obtain⟨H1,z9,s1,eS⟩:=aS (.lst (cs.map V.int)) hS;rw[z9];symm;refine⟨bA eS,?_⟩;refine qk eS hz (by omega) ?_;have ei:(cs.findIdx (· ==z))=jL cs z:=rfl;rw[ei];unfold ahdL at q;generalize jL cs z=j at*;symm;by_cases hj:0<j
 . rw[LX hj] at q;rw[Lv (show(0:Int) < (j:Int) by omega)];refine iteT ?_;refine pZ eS fun l hl=>?_;have ej:(j:Int)-1=((j-1:Nat):Int):=by omega
   rw[ej,BW _ (by omega),show j - (j-1)=1 by omega,← OI,← Oe,zZ,LX (by omega)];exact q l _ (s1.laid hl) (s1.free hl) aj
 . rw[LU hj] at q;rw[Ls (show ¬ (0:Int) < (j:Int) by omega)];refine iteF ?_;refine⟨aW (by decide),fun l hl=>?_⟩;exact q l _ (s1.laid hl) (s1.free hl) aj
def rL(K:Frag)(c:RCl RK):Sp:=fun vs H Q _=>∃ k r p ws cs n m z,vs=[.ref r,.int z]/\IsRule H c k r p ws cs n m/\cs.length<=63/\z∈cs/\∀ l H',Same H H'->H l=none->H' l=some (.lst ((behL cs z).map V.int))->Q (.ref l) H'
def rM(K:Frag)(c:RCl RK):TS:=
 (tSeq (tAsg (aJ c c.ok "spots" (iL K c) (tVar 0) tNil) (gName 2))
  (tSeq (tAsg (tBM K "list" (jr K) (tVar 2) (tCons (tVar 1) tNil)) (gName 3))
  (tRet (tSl ky (tVar 2) (tPart (tOp cAdd (tVar 3) (tC (.int 1)))) (tPart (tOp cAdd (tVar 3) (tC (.int 2))))))))
theorem Ei(h:rL K c vs H Q E):rM K c (eD9 Q) (start ["rule","cell","spots","place"] vs) H:=by
 obtain⟨k,r,p,ws,cs,n,m,z,rfl,x,hn,hz,q⟩:=h;obtain⟨dx,W,C,h1,h2,h3⟩:=x.ex;show rM K c _ [some (.ref r),some (.int z),none,none] H;unfold rM;rw[ay,bI];refine methE (k:=k) rfl x.ok h1 (by rfl) ?_;symm;refine⟨r,p,ws,cs,n,m,rfl,x,fun S hS=>?_⟩;obtain⟨H1,z9,s1,eS⟩:=aS (.lst (cs.map V.int)) hS;rw[z9];symm;refine⟨bA eS,?_⟩;refine qk eS hz (by omega) ?_;have ei:(cs.findIdx (· ==z))=jL cs z:=rfl;rw[ei];unfold behL at q;generalize jL cs z=j at*;symm;refine pZ eS fun l hl=>?_;have ej:(j:Int)+1=((j+1:Nat):Int):=by omega
 have ek:(j:Int)+2=((j+2:Nat):Int):=by omega
 rw[ej,ek,BW _ (by omega),show j+2 - (j+1)=1 by omega,← OI,← Oe,zZ];exact q l _ (s1.laid hl) (s1.free hl) aj
def nogB(s m:Int):Bool:=(sgL m).all fun x=>decide (s<=x)
def nolB(s m:Int):Bool:=(sgL m).all fun x=>decide (x<=s)
theorem FE(m0:0<=m)(m1:m<64):(sgL m).length<=6:=by
 rw[(iE m0 m1).2,Lp];exact LO _ _
def i5(K:Frag):Sp:=fun vs H Q _=>∃ s m:Int,vs=[.int s,.int m]/\0<=m/\m<64/\∀ H',Same H H'->Q (.bl (nogB s m)) H'
def i7(K:Frag):TS:=
 (tRet (tCB kAll (tCons (tComp [none,none,some 0] (iList K (tCall (cq K) [] E0 (tCons (tVar 1) tNil))) (gName 1) tTrue (tOp (cCmp fun i j=>decide (i<=j)) (tVar 2) (tVar 1))) tNil)))
theorem uW(h:i5 K vs H Q E):i7 K (eD9 Q) (start ["sign","mask"] vs) H:=by
 obtain⟨s,m,rfl,m0,m1,q⟩:=h;have sb:=(iE m0 m1).1;have sl:=FE m0 m1;show i7 K _ [some (.int s),some (.int m)] H;unfold i7;symm;refine⟨m,rfl,by omega,fun l H1 s1 hl el=>?_⟩;refine⟨l,rfl,⟨_,LH el⟩,?_⟩;refine kW (xs:=sgL m) (fun x=>decide (s<=x)) (by omega) (LH el) ?_ ?_
 . intro x H2 Q2 hx s2 k2;show tOp _ _ _ [none,some (.int x),some (.int s)] H2 Q2;symm;exact k2 _ (Lr _)
 . intro l2 H2 hl2 s2 el2;symm;refine lW el2 ?_;rw[Na];exact q _ (s1.trans s2)
def lI(K:Frag):Sp:=fun vs H Q _=>∃ s m:Int,vs=[.int s,.int m]/\0<=m/\m<64/\∀ H',Same H H'->Q (.bl (nolB s m)) H'
def lJ(K:Frag):TS:=
 (tRet (tCB kAll (tCons (tComp [none,none,some 0] (iList K (tCall (cq K) [] E0 (tCons (tVar 1) tNil))) (gName 1) tTrue (tOp (cCmp fun i j=>decide (j<=i)) (tVar 2) (tVar 1))) tNil)))
theorem yM(h:lI K vs H Q E):lJ K (eD9 Q) (start ["sign","mask"] vs) H:=by
 obtain⟨s,m,rfl,m0,m1,q⟩:=h;have sb:=(iE m0 m1).1;have sl:=FE m0 m1;show lJ K _ [some (.int s),some (.int m)] H;unfold lJ;symm;refine⟨m,rfl,by omega,fun l H1 s1 hl el=>?_⟩;refine⟨l,rfl,⟨_,LH el⟩,?_⟩;refine kW (xs:=sgL m) (fun x=>decide (x<=s)) (by omega) (LH el) ?_ ?_
 . intro x H2 Q2 hx s2 k2;show tOp _ _ _ [none,some (.int x),some (.int s)] H2 Q2;symm;exact k2 _ (Lr _)
 . intro l2 H2 hl2 s2 el2;symm;refine lW el2 ?_;rw[Na];exact q _ (s1.trans s2)
def stpB(cs Lb:List Int)(z s:Int):Bool:=((ahdL cs z).any fun o=>nogB s (Lb.getD o.toNat 0))||((behL cs z).any fun o=>nolB s (Lb.getD o.toNat 0))
def stepB(cs Lb:List Int)(z s:Int)(ms:List Int):Bool:=decide (ms=[])&&stpB cs Lb z s
def jO(K:Frag)(c:RCl RK):Sp:=fun vs H Q _=>∃ k r p A M ws cs Lb ms n m z s,vs=[.ref r,.ref A,.int z,.int s,.ref M]/\IsRule H c k r p ws cs n m/\aP cs Lb.length/\z∈cs/\(∀ m∈Lb,0<=m/\m<64)/\H A=some (.lst (Lb.map V.int))/\H M=some (.lst (ms.map V.int))/\∀ H',Same H H'->Q (.bl (stepB cs Lb z s ms)) H'
def gJ(K:Frag)(c:RCl RK):TS:=
 (tSeq (tIfS (tB (tCB kAny (tCons (tComp [none,none,some 1,some 3] (iList K (tCall (oF K c) [] E0 (tCons (tVar 0) (tCons (tVar 2) tNil)))) (gName 1) tTrue (tCall (i5 K) [] E0 (tCons (tVar 3) (tCons (tOp cIx (tVar 2) (tVar 1)) tNil)))) tNil))) (tRet (tC (.bl true))) tNext)
  (tRet (tCB kAny (tCons (tComp [none,none,some 1,some 3] (iList K (tCall (rL K c) [] E0 (tCons (tVar 0) (tCons (tVar 2) tNil)))) (gName 1) tTrue (tCall (lI K) [] E0 (tCons (tVar 3) (tCons (tOp cIx (tVar 2) (tVar 1)) tNil)))) tNil))))
def jP(K:Frag)(c:RCl RK):TS:=
 (tSeq (tIfS (tTest (tOp (cNe K) (tVar 4) (tLst tNil))) (tRet (tC (.bl false))) tNext)
  (gJ K c))
theorem rN {k:RK} {r p A M:Addr} {ws:List (List Nat)} {n s:Int} (x:IsRule H c k r p ws cs n m) (hC:aP cs Lb.length) (hz:z∈cs) (mm:∀ m∈Lb,0<=m/\m<64) (hA:H A=some (.lst (Lb.map V.int)))
  (q:∀ H',Same H H'->Q (.bl (stpB cs Lb z s)) H'):
  gJ K c (eD9 Q) [some (.ref r),some (.ref A),some (.int z),some (.int s),some (.ref M)] H:=by
 have la:(ahdL cs z).length<=1:=by unfold ahdL;split <;> simp
 have lb:(behL cs z).length<=1:=by unfold behL;split <;> simp
 unfold gJ;rw[ay,aB];symm;refine⟨k,r,p,ws,cs,n,m,z,rfl,x,hC.1,hz,fun l H1 s1 hl el=>?_⟩;refine⟨l,rfl,⟨_,LH el⟩,?_⟩;refine kW (xs:=ahdL cs z) (fun o=>nogB s (Lb.getD o.toNat 0)) (by omega) (LH el) ?_ ?_
 . intro o H2 Q2 ho s2 k2;have ci:=hC.2 o (Gb hz ho);have mi:=wa mm ci.1 ci.2;show tCall _ _ _ _ [none,some (.int o),some (.ref A),some (.int s)] H2 Q2;symm;refine ixI ((s1.trans s2) _ _ hA) ci.1 ci.2 ?_;exact⟨s,_,rfl,mi.1,mi.2,k2⟩
 . intro l2 H2 hl2 s2 el2;symm;refine Cm el2 ?_;have s12:=s1.trans s2;rw[OO];unfold stpB at q;have ea:(ahdL cs z).any (id ∘ fun o=>nogB s (Lb.getD o.toNat 0))=(ahdL cs z).any fun o=>nogB s (Lb.getD o.toNat 0):=rfl;rw[ea]
   cases hb:(ahdL cs z).any fun o=>nogB s (Lb.getD o.toNat 0) with
   | true=>
    rw[hb,Ny] at q;refine⟨true,rfl,iteT ?_⟩;symm;exact q _ s12
   | false=>
    rw[hb,MK] at q;refine⟨false,rfl,iteF ?_⟩;symm;refine⟨k,r,p,ws,cs,n,m,z,rfl,x.same s12,hC.1,hz,fun l3 H3 s3 hl3 el3=>?_⟩;refine⟨l3,rfl,⟨_,LH el3⟩,?_⟩;refine kW (xs:=behL cs z) (fun o=>nolB s (Lb.getD o.toNat 0)) (by omega) (LH el3) ?_ ?_
    . intro o H4 Q4 ho s4 k4;have ci:=hC.2 o (Gc ho);have mi:=wa mm ci.1 ci.2;show tCall _ _ _ _ [none,some (.int o),some (.ref A),some (.int s)] H4 Q4;symm;refine ixI (((s12.trans s3).trans s4) _ _ hA) ci.1 ci.2 ?_;exact⟨s,_,rfl,mi.1,mi.2,k4⟩
    . intro l4 H4 hl4 s4 el4;symm;refine Cm el4 ?_;rw[OO];exact q _ ((s12.trans s3).trans s4)
theorem wc(h:jO K c vs H Q E):jP K c (eD9 Q) (start ["rule","masks","cell","sign","more"] vs) H:=by
 obtain⟨k,r,p,A,M,ws,cs,Lb,ms,n,m,z,s,rfl,x,hC,hz,mm,hA,hM,q⟩:=h;show jP K c _ [some (.ref r),some (.ref A),some (.int z),some (.int s),some (.ref M)] H;unfold jP;rw[ay,aB];symm;refine⟨aW (by decide),fun Z hZ=>?_⟩;obtain⟨H1,z9,s1,eZ⟩:∃ z,upd H Z (.lst [])=z/\Same H z/\z Z=some (.lst (([]:List Int).map V.int)):=aS _ hZ;rw[z9];refine pY (s1 _ _ hM) eZ ?_;unfold stepB at q
 cases hb:decide (ms=[]) with
 | false=>
  rw[hb,LA] at q;refine⟨true,rfl,?_⟩;symm;exact q _ s1
 | true=>
  rw[hb,LD] at q;refine⟨false,rfl,?_⟩;symm;exact rN (x.same s1) hC hz mm (s1 _ _ hA) fun H' s2=>q H' (s1.trans s2)
section
variable{X:Cx}
def minI(ns:List Int):Int:=ns.getD (argBest (fun i j=>decide (ns.getD i 0<ns.getD j 0)) (ns.length-1)) 0
def maxI(ns:List Int):Int:=ns.getD (argBest (fun i j=>decide (ns.getD i 0>ns.getD j 0)) (ns.length-1)) 0
end
theorem qB(xs:List Int):xs.filter (fun _=>true)=xs:=M2.mpr fun _ _=>rfl
def loM(m:Int):Int:=(sgL m).getD 0 0
def hiM(m:Int):Int:=(sgL m).getD ((sgL m).length-1) 0
theorem Hl:((List.range 64).all fun m=>decide (m=0)||(decide (0 < (sgL (m:Int)).length/\(sgL (m:Int)).length<=6)&&(decide (minI (sgL (m:Int))=loM (m:Int)/\maxI (sgL (m:Int))=hiM (m:Int))&&decide ((1<=loM (m:Int)/\loM (m:Int)<=6)/\1<=hiM (m:Int)/\hiM (m:Int)<=6))))=true:=by decide+kernel
theorem FF{m:Int}(m0:0<=m)(m1:m<64)(hm:m≠0):(0 < (sgL m).length/\(sgL m).length<=6)/\(minI (sgL m)=loM m/\maxI (sgL m)=hiM m)/\(1<=loM m/\loM m<=6)/\1<=hiM m/\hiM m<=6:=by
 have t:=LM.mp Hl m.toNat (LL.mpr (by omega));have e1:((m.toNat:Nat):Int)=m:=by omega
 rw[e1,Ow,Lw,Ma,Ma,Lw,Lw,Lw] at t;rcases t with t | t
 . omega
 . exact t
theorem Hm:sgL 0=[]:=by decide+kernel
theorem wd{xs:List Int}(h:0<xs.length):atI (xs.map V.int) (-1)=some (V.int (xs.getD (xs.length-1) 0)):=by
 unfold atI ixN;rw[Lp,LU (by decide),LX (by omega)];show(xs.map V.int)[((xs.length:Int)+ -1).toNat]? =_;rw[show((xs.length:Int)+ -1).toNat=xs.length-1 by omega,Lu,Lq (by omega),List.getD,Lq (by omega)];rfl
def smB(os:List Int)(n s:Int):Bool:=decide (0∈os)||(decide (n<s+(os.map loM).sum)||decide (s+(os.map hiM).sum<n))
def sumB(cs:List Int)(n:Int)(Lb:List Int)(z s:Int)(ms:List Int):Bool:=decide (ms=[])&&smB (sgAt Lb (othL cs z)) n s
def jQ(K:Frag):Sp:=fun vs H Q _=>∃(A:Addr) (ms:List Int),vs=[.ref A]/\H A=some (.lst (ms.map V.int))/\Q (.bl (decide (0∈ms))) H
def qm(K:Frag):TS:=
 (tRet (tOp (cIn K false) (tC (.int 0)) (tVar 0)))
variable{K:Frag}{vs:List V}{H:Hp}{Q:VK}{E:XK}
theorem Cw(h:jQ K vs H Q E):qm K (eD9 Q) (start ["masks"] vs) H:=by
 obtain⟨A,ms,rfl,hA,q⟩:=h;show qm K _ [some (.ref A)] H;unfold qm;symm;rw[pW hA];exact q
variable{cs:List Int}
theorem HV{Lb:List Int}{z:Int}(hC:aP cs Lb.length)(mm:∀ m∈Lb,0<=m/\m<64):∀ m∈sgAt Lb (othL cs z),0<=m/\m<64:=fun m hm=>by
 unfold sgAt at hm;obtain⟨x,hx,rfl⟩:=LK.mp hm;have ci:=hC.2 x (L4.mp hx).1;exact wa mm ci.1 ci.2
def kD(K:Frag)(c:RCl RK):Sp:=fun vs H Q _=>∃ k r p A M ws cs Lb ms n m z s,vs=[.ref r,.ref A,.int z,.int s,.ref M]/\IsRule H c k r p ws cs n m/\aP cs Lb.length/\(∀ m∈Lb,0<=m/\m<64)/\H A=some (.lst (Lb.map V.int))/\H M=some (.lst (ms.map V.int))/\∀ H',Same H H'->Q (.bl (sumB cs n Lb z s ms)) H'
def ie(K:Frag)(c:RCl RK):TS:=
 (tSeq (tAsg (tOp cAdd (tVar 3) (tCB kSum (tCons (tComp [none,none] (iList K (tVar 5)) (gName 1) tTrue (tOp cIx (tCall (cq K) [] E0 (tCons (tVar 1) tNil)) (tC (.int 0)))) tNil))) (gName 6))
  (tSeq (tAsg (tOp cAdd (tVar 3) (tCB kSum (tCons (tComp [none,none] (iList K (tVar 5)) (gName 1) tTrue (tOp cIx (tCall (cq K) [] E0 (tCons (tVar 1) tNil)) (tUn (rU fun i=>.int (-i)) (tC (.int 1))))) tNil))) (gName 7))
  (tRet (tOrV (tOp (cCmp fun i j=>decide (j<i)) (tVar 6) (aJ c c.ok "number" (jh K c) (tVar 0) tNil)) (tOp (cCmp fun i j=>decide (i<j)) (tVar 7) (aJ c c.ok "number" (jh K c) (tVar 0) tNil))))))
def ig(K:Frag)(c:RCl RK):TS:=
 (tSeq (tAsg (tCall (cr K) [] E0 (tCons (tVar 1) (tCons (tCall (d4 K c) [] E0 (tCons (tVar 0) (tCons (tVar 2) tNil))) tNil))) (gName 5))
  (tSeq (tIfS (tB (tCall (jQ K) [] E0 (tCons (tVar 5) tNil))) (tRet (tC (.bl true))) tNext)
  (ie K c)))
def kE(K:Frag)(c:RCl RK):TS:=
 (tSeq (tIfS (tTest (tOp (cNe K) (tVar 4) (tLst tNil))) (tRet (tC (.bl false))) tNext)
  (ig K c))
variable{c:RCl RK}
theorem tM {k:RK} {r p A M B:Addr} {ws:List (List Nat)} {os:List Int} {n m z s:Int} (x:IsRule H c k r p ws cs n m) (ol:os.length<=63) (om:∀ m∈os,0<=m/\m<64) (on:¬ 0∈os) (eB:H B=some (.lst (os.map V.int)))
  (q:∀ H',Same H H'->Q (.bl (decide (n<s+(os.map loM).sum)||decide (s+(os.map hiM).sum<n))) H'):
  ie K c (eD9 Q) [some (.ref r),some (.ref A),some (.int z),some (.int s),some (.ref M),some (.ref B),none,none] H:=by
 have lh:∀ y∈os,_:=fun y hy=>FF (om y hy).1 (om y hy).2 (fun e=>on (e ▸ hy));unfold ie;symm;refine⟨⟨_,LH eB⟩,?_⟩;refine aT (xs:=os) (fun _=>true) loM (by omega) (LH eB) ?_ ?_ ?_
 . intro y H1 R hy s1 k1;exact k1 _ (Lr _)
 . intro y H1 Q1 hy hb s1 k1;have hl:=lh y hy;show tOp cIx _ _ [none,some (.int y)] H1 Q1;symm;refine⟨y,rfl,by have:=(iE (om y hy).1 (om y hy).2);have:=this.1;omega,fun l H2 s2 hl2 el=>?_⟩;refine ixI el (by decide) (by omega) ?_;exact k1 _ s2
 . intro l1 H1 hl1 s1 el1;rw[qB] at el1;symm;refine zb el1 (fun y hy=>by obtain⟨z,hz,rfl⟩:=LK.mp hy;have:=(lh z hz).2.2.1;omega) (by rw[Lp];omega) ?_;symm;refine⟨⟨_,LH (s1 _ _ eB)⟩,?_⟩;refine aT (xs:=os) (fun _=>true) hiM (by omega) (LH (s1 _ _ eB)) ?_ ?_ ?_
   . intro y H2 R hy s2 k2;exact k2 _ (Lr _)
   . intro y H2 Q2 hy hb s2 k2;have hl:=lh y hy;show tOp cIx _ _ [none,some (.int y)] H2 Q2;symm;refine⟨y,rfl,by have:=(iE (om y hy).1 (om y hy).2);have:=this.1;omega,fun l H3 s3 hl3 el=>?_⟩;refine ixL el (wd hl.1.1) ?_;exact k2 _ s3
   . intro l2 H2 hl2 s2 el2;rw[qB] at el2;symm;refine zb el2 (fun y hy=>by obtain⟨z,hz,rfl⟩:=LK.mp hy;have:=(lh z hz).2.2.2;omega) (by rw[Lp];omega) ?_;symm;have s12:=s1.trans s2;have x2:=x.same s12;obtain⟨dx,W,C,h1,h2,h3⟩:=x2.ex;refine methE (k:=k) rfl x2.ok h1 (by rfl) ?_;symm;refine⟨r,p,ws,cs,n,m,rfl,x2,?_⟩;symm;by_cases hb:n<s+(os.map loM).sum
     . rw[Lv hb,Ny] at q;rw[Lv hb];symm;exact q _ s12
     . rw[Ls hb,MK] at q;rw[Ls hb];symm;refine methE (k:=k) rfl x2.ok h1 (by rfl) ?_;symm;refine⟨r,p,ws,cs,n,m,rfl,x2,?_⟩;symm;exact q _ s12
theorem tN {k:RK} {r p A M:Addr} {ws:List (List Nat)} {Lb:List Int} {n m z s:Int} (x:IsRule H c k r p ws cs n m) (hC:aP cs Lb.length) (mm:∀ m∈Lb,0<=m/\m<64) (hA:H A=some (.lst (Lb.map V.int)))
  (q:∀ H',Same H H'->Q (.bl (smB (sgAt Lb (othL cs z)) n s)) H'):
  ig K c (eD9 Q) [some (.ref r),some (.ref A),some (.int z),some (.int s),some (.ref M),none,none,none] H:=by
 have hC2:aP (othL cs z) Lb.length:=⟨Lz (LO _ _) hC.1,fun y hy=>hC.2 y (L4.mp hy).1⟩;have ol:(sgAt Lb (othL cs z)).length<=63:=by unfold sgAt;rw[Lp];exact hC2.1
 have om:=HV (z:=z) hC mm;unfold ig;symm;refine⟨k,r,p,ws,cs,n,m,z,rfl,x,hC.1,fun O H1 s1 hO eO=>?_⟩;symm;refine⟨A,O,Lb,othL cs z,rfl,s1 _ _ hA,eO,hC2,fun B H2 s2 hB eB=>?_⟩;have s12:=s1.trans s2;generalize sgAt Lb (othL cs z)=os at*;symm;rw[aB];symm;refine⟨B,os,rfl,eB,?_⟩;unfold smB at q;by_cases h0:0∈os
 . rw[Lv h0,Ny] at q;rw[Lv h0];refine⟨true,rfl,?_⟩;symm;exact q _ s12
 . rw[Ls h0,MK] at q;rw[Ls h0];refine⟨false,rfl,?_⟩;symm;exact tM (x.same s12) ol om h0 eB fun H' s3=>q H' (s12.trans s3)
theorem xv(h:kD K c vs H Q E):kE K c (eD9 Q) (start ["rule","masks","cell","sign","more","some","least","greatest"] vs) H:=by
 obtain⟨k,r,p,A,M,ws,cs,Lb,ms,n,m,z,s,rfl,x,hC,mm,hA,hM,q⟩:=h;show kE K c _ [some (.ref r),some (.ref A),some (.int z),some (.int s),some (.ref M),none,none,none] H;unfold kE;rw[ay,aB];symm;refine⟨aW (by decide),fun Z hZ=>?_⟩;obtain⟨H1,z9,s1,eZ⟩:∃ z,upd H Z (.lst [])=z/\Same H z/\z Z=some (.lst (([]:List Int).map V.int)):=aS _ hZ;rw[z9];refine pY (s1 _ _ hM) eZ ?_;unfold sumB at q
 cases hb:decide (ms=[]) with
 | false=>
  rw[hb,LA] at q;refine⟨true,rfl,?_⟩;symm;exact q _ s1
 | true=>
  rw[hb,LD] at q;refine⟨false,rfl,?_⟩;symm;exact tN (x.same s1) hC mm (s1 _ _ hA) fun H' s2=>q H' (s1.trans s2)
theorem Ej(t:TK):decide (tkC t=[115,117,109])=decide (t=.sum):=by cases t <;> decide
theorem Fn{p q:Addr}{D:PyData}(hp:DV K H (.ref p) D)(hq:DV K H (.ref q) D)(hs:SeqAt.shaped D=true)(he:PyData.eqv D D=true)(h:Q (.bl false) H):cNe K (.ref p) (.ref q) H Q:=by
 show rNeD K (.ref p) (.ref q) H Q;refine⟨D,D,hp,hq,hs,hs,?_⟩;rw[he];exact h
theorem yN(xs:List Int):PyData.eqv (.list (xs.map PyData.int)) (.list (xs.map PyData.int))=true:=by
 rw[PyData.eqv,uI];simp
theorem xw(n:Int):PyData.eqv (.int n) (.int n)=true:=by
 rw[PyData.eqv];simp
def rO(K:Frag)(c:RCl RK):Sp:=d7 K c .Sum
def mP(K:Frag)(c:RCl RK):TS:=
 (tRet (tOp (cEq K) (tCB kSum (tCons (aJ c c.ok "signs_at" (fZ K c) (tVar 0) (tCons (tVar 1) tNil)) tNil)) (tFldK c (tVar 0) "amount")))
theorem Hn{xs:List Int}{n:Nat}(hC:aP cs n)(hn:n=xs.length)(hx:∀ x∈xs,0<=x/\x<=1000):∀ x∈sgAt xs cs,0<=x/\x<=1000:=fun x hm=>by
 unfold sgAt at hm;obtain⟨c,hc,rfl⟩:=LK.mp hm;have:=hC.2 c hc;have hl:c.toNat<xs.length:=by omega
 rw[List.getD,Lq hl];exact hx _ (L1 hl)
theorem z4(h:rO K c vs H Q E):mP K c (eD9 Q) (start ["self","filling"] vs) H:=by
 obtain⟨r,p,f,ws,cs,xs,n,m,h,w,g,rfl,x,ha,F,hf,hC,hx,q⟩:=h;obtain⟨dx,W,C,h1,h2,h3⟩:=x.ex;show mP K c _ [some (.ref r),some (.ref f)] H;unfold mP;symm;refine methE rfl x.ok h1 (by rfl) ?_;symm;refine⟨r,p,f,ws,cs,xs,n,m,rfl,x,hf,hC,fun l H1 s1 hl el=>?_⟩;have Lj:(sgAt xs cs).length<=100:=by unfold sgAt;rw[Lp];exact Lz hC.1 (by decide)
 symm;refine zb el (fun y hy=>by have:=Hn hC rfl hx y hy;omega) (by omega) ?_;refine fldE rfl x.ok (s1 _ _ h1) (v:=.int n) (by rfl) ?_;symm;exact q _ s1
theorem BX:∀ l:List Int,risB l=(List.range (l.length-1)).all fun i=>decide (l.getD i 0<l.getD (i+1) 0)
 | []=>rfl
 | [x]=>rfl
 | x::y::r=>by
  have ih:=BX (y::r);show(decide (x<y)&&risB (y::r))=(List.range (r.length+1)).all fun i=>decide ((x::y::r).getD i 0 < (x::y::r).getD (i+1) 0);rw[ih,List.range_succ_eq_map,NH,Na];rfl
def nI(K:Frag)(c:RCl RK):Sp:=d7 K c .Rising
def jR(K:Frag)(c:RCl RK):TS:=
 (tSeq (tAsg (aJ c c.ok "signs_at" (fZ K c) (tVar 0) (tCons (tVar 1) tNil)) (gName 2))
  (tRet (tCB kAll (tCons (tComp [none,none,some 2] (fD (tCons (tOp cSub (tCB kLen (tCons (tVar 2) tNil)) (tC (.int 1))) tNil)) (gName 1) tTrue (tOp (cCmp fun i j=>decide (i<j)) (tOp cIx (tVar 2) (tVar 1)) (tOp cIx (tVar 2) (tOp cAdd (tVar 1) (tC (.int 1)))))) tNil))))
theorem we(h:nI K c vs H Q E):jR K c (eD9 Q) (start ["self","filling","signs"] vs) H:=by
 obtain⟨r,p,f,ws,cs,xs,n,m,h,w,g,rfl,x,ha,F,hf,hC,hx,q⟩:=h;obtain⟨dx,W,C,h1,h2,h3⟩:=x.ex;show jR K c _ [some (.ref r),some (.ref f),none] H;unfold jR;symm;refine methE rfl x.ok h1 (by rfl) ?_;symm;refine⟨r,p,f,ws,cs,xs,n,m,rfl,x,hf,hC,fun l H1 s1 hl el=>?_⟩;have Lj:(sgAt xs cs).length<=100:=by unfold sgAt;rw[Lp];exact Lz hC.1 (by decide)
 have q1:∀ H',Same H H'->Q (.bl (risB (sgAt xs cs))) H':=q;generalize sgAt xs cs=sg at*;symm;rw[aN el,Lp];symm;refine⟨_,rfl,by omega,by omega,?_⟩;have en:((sg.length:Int)-1).toNat=sg.length-1:=by omega
 rw[en];refine t8 (fun _=>true) (fun i=>.bl (decide (sg.getD i 0<sg.getD (i+1) 0))) (by omega) ?_ ?_ ?_
 . intro i H2 R hi s2 k2;exact k2 _ (Lr _)
 . intro i H2 Q2 hi hb s2 k2;show tOp _ _ _ [none,some (.int (0+(i:Int))),some (.ref l)] H2 Q2;rw[ML];symm;refine ixI (s2 _ _ el) (by omega) (by omega) ?_;refine ixI (s2 _ _ el) (by omega) (by omega) ?_;symm;have e1:(i:Int).toNat=i:=by omega
   have e2:((i:Int)+1).toNat=i+1:=by omega
   rw[e1,e2];exact k2 _ (Lr _)
 . intro l2 H2 hl2 s2 el2;rw[a9] at el2;refine lW (bs:=(List.range (sg.length-1)).map fun i=>decide (sg.getD i 0<sg.getD (i+1) 0)) (by rw[el2,Mf];rfl) ?_
   have e:((List.range (sg.length-1)).map fun i=>decide (sg.getD i 0<sg.getD (i+1) 0)).all id=risB sg:=by
    rw[BX,Na];rfl
   rw[e];exact q1 _ (s1.trans s2)
theorem Fo(l:List Int)(x:Int):seenN (l++[x])=if (seenN l).1<x then(x,(seenN l).2+1) else seenN l:=by
 unfold seenN;rw[Ob];rfl
def qC(K:Frag)(c:RCl RK):Sp:=d7 K c .Seen
def lK(K:Frag)(c:RCl RK):TS:=
 (tSeq (tAsg (tC (.int 0)) (gName 2))
  (tSeq (tAsg (tC (.int 0)) (gName 3))
  (tSeq (tFor (iList K (aJ c c.ok "signs_at" (fZ K c) (tVar 0) (tCons (tVar 1) tNil))) (gName 4)
  (tIfS (tTest (tOp (cCmp fun i j=>decide (j<i)) (tVar 4) (tVar 2))) (tSeq (tAsg (tVar 4) (gName 2))
  (tAsg (tOp cAdd (tVar 3) (tC (.int 1))) (gName 3))) tNext))
  (tRet (tOp (cEq K) (tVar 3) (tFldK c (tVar 0) "amount"))))))
theorem yO(h:qC K c vs H Q E):lK K c (eD9 Q) (start ["self","filling","greatest","seen","sign"] vs) H:=by
 obtain⟨r,p,f,ws,cs,xs,n,m,h,w,g,rfl,x,ha,F,hf,hC,hx,q⟩:=h;obtain⟨dx,W,C,h1,h2,h3⟩:=x.ex;show lK K c _ [some (.ref r),some (.ref f),none,none,none] H;unfold lK;symm;refine methE rfl x.ok h1 (by rfl) ?_;symm;refine⟨r,p,f,ws,cs,xs,n,m,rfl,x,hf,hC,fun l H1 s1 hl el=>?_⟩;have q1:∀ H',Same H H'->Q (.bl (decide ((seenN (sgAt xs cs)).2=n))) H':=q;generalize sgAt xs cs=sg at*;symm;refine⟨⟨_,LH el⟩,dn (K:=K) (xs:=sg.map V.int) (fun i σ H'=>∃ cv:Option V,σ=[some (.ref r),some (.ref f),some (.int (seenN (sg.take i)).1),some (.int (seenN (sg.take i)).2),cv]/\H'=H1) ⟨none,rfl,rfl⟩ (fun i σ H' _ ⟨_,_,e⟩=>by rw[e];exact LH el) ?_ ?_⟩
 . rintro i y σ H2 hy ⟨cv,rfl,rfl⟩;rw[Lu] at hy
   cases e:sg[i]? with
   | none=>rw[e] at hy;cases hy
   | some z=>
    rw[e] at hy;cases hy;have et:sg.take (i+1)=sg.take i++[z]:=by rw[Nj,e];rfl
    have ea:=Fo (sg.take i) z;rw[← et] at ea;symm;rw[aB];symm;by_cases hz:(seenN (sg.take i)).1<z
    . rw[Lv hz];rw[LX hz] at ea;refine iteT ?_;rw[ea];exact⟨_,rfl,by first | trivial | rfl⟩
    . rw[Ls hz];rw[LU hz] at ea;refine iteF ?_;rw[ea];exact⟨_,rfl,by first | trivial | rfl⟩
 . rintro σ H2 ⟨cv,rfl,rfl⟩;rw[Lp,M7];symm;refine fldE rfl x.ok (s1 _ _ h1) (v:=.int n) (by rfl) ?_;symm;exact q1 _ s1
def o6(K:Frag)(c:RCl RK):Sp:=fun vs H Q E=>∃ k,ji K c k vs H Q E
def kF(K:Frag)(c:RCl RK):TS:=
 (tRet (tComp [none,none,some 1,some 0] (iTup K (tFldK c (tVar 0) "cells")) (gName 1) (tTest (tOp (cEq K) (tOp cIx (tVar 2) (tVar 1)) (tFldK c (tVar 3) "mark"))) (tVar 1)))
theorem xx(h:o6 K c vs H Q E):kF K c (eD9 Q) (start ["self","filling"] vs) H:=by
 obtain⟨k,r,p,f,ws,cs,xs,n,m,rfl,x,hf,⟨hn,hc⟩,q⟩:=h;obtain⟨dx,W,C,h1,h2,h3⟩:=x.ex;show kF K c _ [some (.ref r),some (.ref f)] H;unfold kF;rw[ca,BP];refine fldE rfl x.ok h1 (v:=.ref C) (by rfl) ?_;refine⟨C,rfl,⟨_,OQ h3⟩,?_⟩;refine yg (xs:=cs) (fun c=>decide (xs.getD c.toNat 0=m)) (fun c=>c) (by omega) h3 ?_ ?_ ?_
 . intro z H1 R hz s1 k1;show tTest _ [none,some (.int z),some (.ref f),some (.ref r)] H1 R;symm;have:=hc z hz;refine ixI (s1 _ _ hf) this.1 (by omega) ?_;refine fldE rfl x.ok (s1 _ _ h1) (v:=.int m) (by rfl) ?_;symm;exact k1 _ (Lr _)
 . intro z H1 Q1 hz hb s1 k1;exact k1 _ (Lr _)
 . intro l H1 hl s1 el;rw[MM] at el;exact q l H1 s1 hl el
def o7(K:Frag)(c:RCl RK):Sp:=d7 K c .Count
def kG(K:Frag)(c:RCl RK):TS:=
 (tRet (tOp (cEq K) (tCB kLen (tCons (aJ c c.ok "marked" (ji K c) (tVar 0) (tCons (tVar 1) tNil)) tNil)) (tFldK c (tVar 0) "amount")))
theorem xy(h:o7 K c vs H Q E):kG K c (eD9 Q) (start ["self","filling"] vs) H:=by
 obtain⟨r,p,f,ws,cs,xs,n,m,h,w,g,rfl,x,ha,F,hf,hC,hx,q⟩:=h;obtain⟨dx,W,C,h1,h2,h3⟩:=x.ex;show kG K c _ [some (.ref r),some (.ref f)] H;unfold kG;symm;refine methE rfl x.ok h1 (by rfl) ?_;symm;refine⟨r,p,f,ws,cs,xs,n,m,rfl,x,hf,hC,fun l H1 s1 hl el=>?_⟩;symm;rw[aN el,Lp];refine fldE rfl x.ok (s1 _ _ h1) (v:=.int n) (by rfl) ?_;symm;exact q _ s1
def mQ(K:Frag):Sp:=fun vs H Q _=>∃(S M:Addr) (sq ms:List Int),vs=[.ref S,.ref M]/\H S=some (.lst (sq.map V.int))/\H M=some (.lst (ms.map V.int))/\sq.length<=100/\∀ H',Same H H'->Q (.bl (sq.all fun c=>decide (c∈ms))) H'
def mR(K:Frag):TS:=
 (tRet (tCB kAll (tCons (tComp [none,none,some 1] (iList K (tVar 0)) (gName 1) tTrue (tOp (cIn K false) (tVar 1) (tVar 2))) tNil)))
variable{vs:List V}
theorem z5{K:Frag}{H:Hp}{Q:VK}{E:XK}(h:mQ K vs H Q E):mR K (eD9 Q) (start ["some","cells"] vs) H:=by
 obtain⟨S,M,sq,ms,rfl,hS,hM,hn,q⟩:=h;show mR K _ [some (.ref S),some (.ref M)] H;unfold mR;symm;refine⟨⟨_,LH hS⟩,?_⟩;refine bU (xs:=sq.map V.int) (fun _=>true) (fun i=>.bl (decide (sq.getD i 0∈ms))) (by rw[Lp];omega) (LH hS) ?_ ?_ ?_
 . intro i x H1 R hx s1 k1;exact k1 _ (Lr _)
 . intro i x H1 Q1 hx hb s1 k1;rw[Lu] at hx
   cases e:sq[i]? with
   | none=>rw[e] at hx;cases hx
   | some z=>
    rw[e] at hx;cases hx;have k2:=k1 _ (Lr H1);rw[List.getD,e] at k2;show tOp (cIn K false) _ _ [none,some (.int z),some (.ref M)] H1 Q1;symm;rw[pW (s1 _ _ hM)];exact k2
 . intro l H1 hl s1 el;rw[a9,Lp] at el;refine lW (bs:=(List.range sq.length).map fun i=>decide (sq.getD i 0∈ms)) (by rw[el,Mf];rfl) ?_
   have e:((List.range sq.length).map fun i=>decide (sq.getD i 0∈ms)).all id=sq.all fun c=>decide (c∈ms):=by
    rw[Na,LV,LM,LM];constructor
    . intro h c hc;obtain⟨i,hi,rfl⟩:=MV.mp hc;have:=h i (LL.mpr hi);dsimp only[Function.comp,id] at this;rw[List.getD,Lq hi] at this;exact this
    . intro h i hi;have hi:=LL.mp hi;have:=h _ (L1 hi);dsimp only[Function.comp,id];rw[List.getD,Lq hi];exact this
   rw[e];exact q _ s1
def lN(K:Frag)(c:RCl RK):Sp:=d7 K c .NoSquare
theorem Gd{h w g:Int}(F:FlOk h w g):(squL h w).length<=16:=by
 obtain⟨h0,h1,w0,w1,m16,g0,g1⟩:=F;unfold squL;rw[Lp];refine Lz (LO _ _) ?_;rw[Mp];omega
def ii(K:Frag)(c:RCl RK):TS:=
 (tSeq (tAsg (aJ c c.ok "marked" (ji K c) (tVar 0) (tCons (tVar 1) tNil)) (gName 2))
  (tRet (tNotV (tCB kAny (tCons (tComp [none,none,some 2] (iList K (tCall (lZ K) [] E0 (tCons (tFldK c (tVar 0) "floor") tNil))) (gName 1) tTrue (tCall (mQ K) [] E0 (tCons (tVar 1) (tCons (tVar 2) tNil)))) tNil)))))
theorem tO{K:Frag}{c:RCl RK}{H:Hp}{Q:VK}{E:XK}(h:lN K c vs H Q E):ii K c (eD9 Q) (start ["self","filling","cells"] vs) H:=by
 obtain⟨r,p,f,ws,cs,xs,n,m,h,w,g,rfl,x,ha,F,hf,hC,hx,q⟩:=h;obtain⟨dx,W,C,h1,h2,h3⟩:=x.ex;show ii K c _ [some (.ref r),some (.ref f),none] H;unfold ii;symm;refine methE rfl x.ok h1 (by rfl) ?_;symm;refine⟨r,p,f,ws,cs,xs,n,m,rfl,x,hf,hC,fun l H1 s1 hl el=>?_⟩;symm;refine fldE rfl x.ok (s1 _ _ h1) (v:=.ref p) (by rfl) ?_;symm;refine⟨p,h,w,g,rfl,s1 _ _ ha,F,fun L as H2 s2 hL xL _ _ _=>?_⟩;have sl:=Gd F;refine⟨L,rfl,⟨_,LH xL.top⟩,?_⟩;refine bU (xs:=as.map V.ref) (fun _=>true) (fun i=>.bl (((squL h w).getD i []).all fun c=>decide (c∈mkAt xs cs m))) (by rw[Lp,xL.len];omega) (LH xL.top) ?_ ?_ ?_
 . intro i x H3 R hx s3 k3;exact k3 _ (Lr _)
 . intro i y H3 Q3 hi hb s3 k3;obtain⟨b,hb,rfl⟩:=fX hi;have hlt:i < (squL h w).length:=by rw[← xL.len];exact(Lx.mp hb).1
   have e:=Lq hlt;have eg:(squL h w).getD i []=(squL h w)[i]:=by rw[List.getD,e];rfl
   have hq4:((squL h w)[i]).length<=100:=by
    have hm:=L1 hlt;generalize (squL h w)[i]=z at hm;unfold squL at hm;obtain⟨j,_,rfl⟩:=LK.mp hm;show 4<=100;decide
   show tCall _ _ _ _ [none,some (.ref b),some (.ref l)] H3 Q3;symm;refine⟨b,l,_,_,rfl,s3 _ _ (xL.at_ i b _ hb e),s3 _ _ (s2 _ _ el),hq4,fun H4 s4=>?_⟩;have:=k3 H4 s4;rw[eg] at this;exact this
 . intro D H3 hD s3 eD;rw[a9,Lp,xL.len] at eD;refine Cm (bs:=(List.range (squL h w).length).map fun i=>((squL h w).getD i []).all fun c=>decide (c∈mkAt xs cs m)) (by rw[eD,Mf];rfl) ?_
   have e:((List.range (squL h w).length).map fun i=>((squL h w).getD i []).all fun c=>decide (c∈mkAt xs cs m)).any id=(squL h w).any fun sq=>sq.all fun c=>decide (c∈mkAt xs cs m):=by
    rw[OO,LV,Nl,Nl];constructor
    . rintro⟨i,hi,hh⟩;have hi:=LL.mp hi;dsimp only[Function.comp,id] at hh;have eg:(squL h w).getD i []=(squL h w)[i]:=by rw[List.getD,Lq hi];rfl
      rw[eg] at hh;exact⟨_,L1 hi,hh⟩
    . rintro⟨sq,hs,hh⟩;obtain⟨i,hi,rfl⟩:=MV.mp hs;refine⟨i,LL.mpr hi,?_⟩;dsimp only[Function.comp,id];have eg:(squL h w).getD i []=(squL h w)[i]:=by rw[List.getD,Lq hi];rfl
      rw[eg];exact hh
   rw[e];symm;exact q _ ((s1.trans s2).trans s3)
def jS(K:Frag):Sp:=fun vs H Q _=>∃ a l h w g st cs,vs=[.ref a,.ref l,.int st]/\IsFl H a h w g/\0<w/\w<100/\H l=some (.lst (cs.map V.int))/\cs.length<=63/\
 ∀(p:Addr) (H':Hp) (rs:List Int),Same H H'->H p=none->H' p=some (.lst (rs.map V.int))->rs.Pairwise (· < ·)->(∀ x,x∈rs↔RC h w cs st x)->Q (.ref p) H'
def qo(K:Frag):TS:=
 (tSeq (tIfS (tTest (tOp (cIn K true) (tVar 2) (tVar 1))) (tRet (tLst tNil)) tNext)
  (tSeq (tAsg (tLst (tCons (tVar 2) tNil)) (gName 3))
  (tSeq (tAsg (tC (.int 0)) (gName 4))
  (tSeq (zg (tTest (tOp (cCmp fun i j=>decide (i<j)) (tVar 4) (tCB kLen (tCons (tVar 3) tNil))))
  (tSeq (tFor (iList K (tCall (gD K) [] E0 (tCons (tVar 0) (tCons (tOp cIx (tVar 3) (tVar 4)) tNil)))) (gName 5)
  (tIfS (tAnd (tTest (tOp (cIn K false) (tVar 5) (tVar 1))) (tTest (tOp (cIn K true) (tVar 5) (tVar 3)))) (tDrop (tBM K "list" bD (tVar 3) (tCons (tVar 5) tNil))) tNext))
  (tAsg (tOp cAdd (tVar 4) (tC (.int 1))) (gName 4))))
  (tRet (tCB tp (tCons (tVar 3) tNil)))))))
variable{K:Frag}{vs:List V}{H:Hp}{Q:VK}{E:XK}
theorem Cy(h:jS K vs H Q E):qo K (eD9 Q) (start ["floor","cells","start","found","place","cell"] vs) H:=by
 obtain⟨a,l,h,w,g,st,cs,rfl,ha,w0,w1,hl,hn,k⟩:=h;show qo K _ [some (.ref a),some (.ref l),some (.int st),none,none,none] H;unfold qo;rw[ay,aB];symm;rw[jq hl];symm;by_cases hs:st∈cs
 . rw[LU (by simpa using hs)];symm;refine⟨lnR rfl,fun f hf=>?_⟩
   refine⟨fun m σ H'=>∃(fs:List Int) (pl:Nat) (cv:Option V),σ=[some (.ref a),some (.ref l),some (.int st),some (.ref f),some (.int pl),cv]/\Same H H'/\H' f=some (.lst (fs.map V.int))/\BI h w cs st fs pl/\m=cs.length-pl,
    ⟨_,[st],0,none,rfl,(Lr H).laid hf,aj,BI.start hs,rfl⟩,?_⟩
   rintro m σ H1 ⟨fs,pl,cv,rfl,s1,e1,B,rfl⟩;have hfl:=B.len;symm;rw[aN e1,Lp];symm;by_cases hp:pl<fs.length
   . rw[LX (by simpa using hp)];obtain⟨x,hx⟩:∃ x,fs[pl]? =some x:=⟨fs[pl],by simp[hp]⟩;have rx:RC h w cs st x:=B.rc x (LB hx)
     refine⟨fun σ H'=>∃(fs:List Int) (cv:Option V),σ=[some (.ref a),some (.ref l),some (.int st),some (.ref f),some (.int ((pl:Int)+1)),cv]/\Same H H'/\H' f=some (.lst (fs.map V.int))/\BI h w cs st fs (pl+1),
      fun σ' H' ⟨fs',cv',e,s',e',B'⟩=>⟨_,by omega,fs',pl+1,cv',by rw[e];rfl,s',e',B',rfl⟩,?_⟩
     symm;rw[FA e1];refine be (uL (by omega) (by omega)) ?_;symm;rw[show((pl:Int)).toNat=pl from MG _,jf hx];refine⟨a,h,w,g,x,rfl,s1 _ _ ha,w0,w1,fun b H2 s2 hb e2=>?_⟩;have s12:=s1.trans s2
     refine⟨b,rfl,⟨_,LH e2⟩,dn (K:=K) (xs:=(besL h w x).map V.int) (fun i σ H'=>∃(f2:List Int) (cv:Option V),σ=[some (.ref a),some (.ref l),some (.int st),some (.ref f),some (.int pl),cv]/\Same H H'/\H' b=some (.lst ((besL h w x).map V.int))/\H' f=some (.lst (f2.map V.int))/\BJ h w cs st fs pl ((besL h w x).take i) f2)
      ⟨fs,cv,rfl,s12,e2,s2 _ _ e1,BJ.zero B⟩ (fun i σ H' _ ⟨_,_,_,_,q,_⟩=>LH q) ?_ ?_⟩
     . rintro i y σ H3 hy ⟨f2,cv2,rfl,s3,eb,ef,J⟩;rw[Lu] at hy
       cases hz:(besL h w x)[i]? with
       | none=>rw[hz] at hy;cases hy
       | some z=>
        rw[hz] at hy;cases hy;have hlen2:f2.length<=63:=Lz (jt J.nd fun x hx=>(J.rc x hx).mem) hn;have hmem:z∈besL h w x:=LB hz;have htake:(besL h w x).take (i+1)=(besL h w x).take i++[z]:=by rw[List.take_add_one,hz];rfl
        have J2:=J.more rx hmem;rw[← htake] at J2;symm;rw[aB];symm;rw[pW (s3 _ _ hl)];symm
        have fin:∀ H4:Hp,H4 f=some (.lst ((addC cs f2 z).map V.int))->(∀ c,c≠f->H4 c=H3 c)->∃(f2:List Int) (cv:Option V),[some (V.ref a),some (.ref l),some (.int st),some (.ref f),some (.int pl),some (.int z)]=[some (.ref a),some (.ref l),some (.int st),some (.ref f),some (.int pl),cv]/\Same H H4/\H4 b=some (.lst ((besL h w x).map V.int))/\H4 f=some (.lst (f2.map V.int))/\BJ h w cs st fs pl ((besL h w x).take (i+1)) f2:=fun H4 q1 q2=>
         ⟨_,_,rfl,fun c o e=>by rw[q2 c (aD e hf)];exact s3 c o e,by rw[q2 b (fun e=>by rw[e] at hb;rw[e1] at hb;cases hb)];exact eb,q1,J2⟩
        by_cases c1:z∈cs
        . rw[LX (by simpa using c1)];rw[jq ef];by_cases c2:z∈f2
          . simp only[c2,decide_true,Nf,LU Ly,V.bl.injEq,exists_eq_left'];refine fin H3 ?_ fun _ _=>rfl;rw[ef,addC,LU (fun q=>q.2 c2)]
          . simp only[c2,decide_false,Nk,OM,V.bl.injEq,exists_eq_left'];symm;refine⟨bA ef,?_⟩;rw[gA ef];refine⟨by rw[Lp];exact aH (by omega),fin _ ?_ fun c hc=>ao hc⟩;rw[aj,addC,LX ⟨c1,c2⟩];simp
        . rw[LU (by simpa using c1)]
          try simp only[LU Ly]
          refine fin H3 ?_ fun _ _=>rfl;rw[ef,addC,LU (fun q=>c1 q.1)]
     . rintro σ H3 ⟨f2,cv2,rfl,s3,eb,ef,J⟩;rw[Lp,M7] at J;symm;exact⟨f2,cv2,rfl,s3,ef,J.done B hx⟩
   . rw[LU (by simpa using hp)];symm;unfold tp;dsimp only;rw[e1];refine⟨fs,rfl,by omega,fun rs p hpn pm ps=>?_⟩;refine k p _ rs (s1.laid hpn) (s1.free hpn) aj (DR pm ps B.nd) fun x=>?_;rw[pm.mem_iff];exact B.done hp x
 . rw[LX (by simpa using hs)];symm;refine⟨Ml _,fun p hp=>k p _ [] ((Lr H).laid hp) hp aj .nil fun x=>⟨(fun q=>nomatch q),fun r=>absurd (RC.st r) hs⟩⟩
variable{h w:Int}{ms:List Int}
theorem joinB_iff:joinB h w ms=true↔(ms=[]\/(ms.Pairwise (· < ·)/\∀ x∈ms,RC h w ms (ms.headD 0) x)):=by
 unfold joinB;exact @decide_eq_true_iff _ (Classical.propDecidable _)
def kh(K:Frag)(c:RCl RK):Sp:=fun vs H Q E=>∃ k,jv K c k vs H Q E
def ga(K:Frag)(c:RCl RK):TS:=
 (tRet (tOrV (tOp (cEq K) (tVar 1) (tLst tNil)) (tOp (cEq K) (tCall (jS K) [] E0 (tCons (tFldK c (tVar 0) "floor") (tCons (tVar 1) (tCons (tOp cIx (tVar 1) (tC (.int 0))) tNil)))) (tVar 1))))
variable{c:RCl RK}
theorem qO(h:kh K c vs H Q E):ga K c (eD9 Q) (start ["self","cells"] vs) H:=by
 obtain⟨k,r,p,C,ws,cs,ms,n,m,h,w,g,rfl,x,ha,F,hC,hn,q⟩:=h;obtain⟨h0,h1',w0,w1,m16,g0,g1⟩:=id F;obtain⟨dx,W,C',h1,h2,h3⟩:=x.ex;show ga K c _ [some (.ref r),some (.ref C)] H;unfold ga;symm;refine⟨lnR rfl,fun l hl=>?_⟩;obtain⟨H1,z9,s1,el⟩:∃ z,upd H l (.lst [])=z/\Same H z/\z l=some (.lst (([]:List Int).map V.int)):=aS _ hl;rw[z9];refine lU (s1 _ _ hC) el ?_;symm
 cases ms with
 | nil=>
  have e:joinB h w []=true:=joinB_iff.mpr (.inl rfl);have:=q _ s1;rw[e] at this;rw[Lv rfl,LX rfl];exact this
 | cons z zs=>
  rw[Ls (by simp),LU (by decide)];refine fldE rfl x.ok (s1 _ _ h1) (v:=.ref p) (by rfl) ?_;symm;refine ixL (s1 _ _ hC) (v:=V.int z) (cR (j:=0) rfl) ?_;symm;refine⟨p,C,h,w,g,z,z::zs,rfl,s1 _ _ ha,by omega,by omega,s1 _ _ hC,hn,fun u H2 rs s2 hu eu rise mem=>?_⟩;refine lU eu (s2 _ _ (s1 _ _ hC)) ?_
  have e:decide (rs=z::zs)=joinB h w (z::zs):=by
   rw[LV,Lw,joinB_iff];constructor
   . intro e;subst e;exact .inr ⟨rise,fun x hx=>(mem x).mp hx⟩
   . rintro(e | ⟨rise2,all⟩)
     . cases e
     . exact vG rise rise2 fun y=>⟨fun hy=>((mem y).mp hy).mem,fun hy=>(mem y).mpr (all y hy)⟩
  rw[e];exact q _ (s1.trans s2)
def nJ(K:Frag)(c:RCl RK):Sp:=d7 K c .Joined
def jT(K:Frag)(c:RCl RK):TS:=
 (tRet (aJ c c.ok "is_joined" (jv K c) (tVar 0) (tCons (aJ c c.ok "marked" (ji K c) (tVar 0) (tCons (tVar 1) tNil)) tNil)))
variable{xs cs:List Int}{m:Int}
theorem Ek(hn:cs.length<=63):(mkAt xs cs m).length<=63:=by
 unfold mkAt;exact Lz (LO _ _) hn
theorem wf(h:nJ K c vs H Q E):jT K c (eD9 Q) (start ["self","filling"] vs) H:=by
 obtain⟨r,p,f,ws,cs,xs,n,m,h,w,g,rfl,x,ha,F,hf,hC,hx,q⟩:=h;obtain⟨dx,W,C,h1,h2,h3⟩:=x.ex;show jT K c _ [some (.ref r),some (.ref f)] H;unfold jT;symm;refine methE rfl x.ok h1 (by rfl) ?_;symm;refine methE rfl x.ok h1 (by rfl) ?_;symm;refine⟨r,p,f,ws,cs,xs,n,m,rfl,x,hf,hC,fun l H1 s1 hl el=>?_⟩;exact⟨r,p,l,ws,cs,_,n,m,h,w,g,rfl,x.same s1,s1 _ _ ha,F,el,Ek hC.1,fun H2 s2=>q _ (s1.trans s2)⟩
def iF(K:Frag)(c:RCl RK):Sp:=hJ K c .Ring
def eh(K:Frag)(c:RCl RK):TS:=
 (tRet (tOp (cEq K) (tCB kLen (tCons (tComp [none,none,some 1] (iList K (tCall (gD K) [] E0 (tCons (tFldK c (tVar 0) "floor") (tCons (tVar 2) tNil)))) (gName 1) (tTest (tOp (cIn K false) (tVar 1) (tVar 2))) (tVar 1)) tNil)) (tC (.int 2))))
theorem Ge(h w c:Int):(besL h w c).length<=4:=by
 unfold besL
 repeat rw[LC]
 split <;> split <;> split <;> split <;> simp
theorem oH(h:iF K c vs H Q E):eh K c (eD9 Q) (start ["self","cells","cell"] vs) H:=by
 obtain⟨r,p,C,ws,cs,ms,n,m,h,w,g,z,rfl,x,ha,F,hC,hn,q⟩:=h;obtain⟨h0,h1',w0,w1,m16,g0,g1⟩:=id F;obtain⟨dx,W,C',h1,h2,h3⟩:=x.ex;show eh K c _ [some (.ref r),some (.ref C),some (.int z)] H;unfold eh;symm;refine fldE rfl x.ok h1 (v:=.ref p) (by rfl) ?_;symm;refine⟨p,h,w,g,z,rfl,ha,by omega,by omega,fun b H2 s2 hb e2=>?_⟩;have bl:=Ge h w z;refine⟨b,rfl,⟨_,LH e2⟩,?_⟩;refine aT (xs:=besL h w z) (fun y=>decide (y∈ms)) (fun y=>y) (by omega) (LH e2) ?_ ?_ ?_
 . intro y H3 R hy s3 k3;show tTest _ [none,some (.int y),some (.ref C)] H3 R;symm;rw[pW (s3 _ _ (s2 _ _ hC))];exact⟨_,rfl,k3 _ (Lr _)⟩
 . intro y H3 Q3 hy hb s3 k3;exact k3 _ (Lr _)
 . intro l H3 hl s3 el;rw[MM] at el;symm;rw[aN el,Lp];symm;have:=q _ (s2.trans s3);unfold twoB at this
   have e:decide ((((besL h w z).filter fun y=>decide (y∈ms)).length:Int)=2)=decide (((besL h w z).filter fun y=>decide (y∈ms)).length=2):=by
    rw[LV,Lw,Lw];omega
   rw[e];exact this
def qD(K:Frag)(c:RCl RK):Sp:=d7 K c .Ring
def lL(K:Frag)(c:RCl RK):TS:=
 (tSeq (tAsg (aJ c c.ok "marked" (ji K c) (tVar 0) (tCons (tVar 1) tNil)) (gName 2))
  (tRet (tAndV (aJ c c.ok "is_joined" (jv K c) (tVar 0) (tCons (tVar 2) tNil)) (tCB kAll (tCons (tComp [none,none,some 2,some 0] (iList K (tVar 2)) (gName 1) tTrue (aJ c c.ok "has_two_beside" (hJ K c) (tVar 3) (tCons (tVar 2) (tCons (tVar 1) tNil)))) tNil)))))
theorem yP(h:qD K c vs H Q E):lL K c (eD9 Q) (start ["self","filling","cells"] vs) H:=by
 obtain⟨r,p,f,ws,cs,xs,n,m,h,w,g,rfl,x,ha,F,hf,hC,hx,q⟩:=h;obtain⟨dx,W,C,h1,h2,h3⟩:=x.ex;show lL K c _ [some (.ref r),some (.ref f),none] H;unfold lL;symm;refine methE rfl x.ok h1 (by rfl) ?_;symm;refine⟨r,p,f,ws,cs,xs,n,m,rfl,x,hf,hC,fun l H1 s1 hl el=>?_⟩;have hml:=Ek (xs:=xs) (m:=m) hC.1;have q1:∀ H',Same H H'->Q (.bl (joinB h w (mkAt xs cs m)&&(mkAt xs cs m).all (twoB h w (mkAt xs cs m)))) H':=q;generalize mkAt xs cs m=ms at*;symm;refine methE rfl x.ok (s1 _ _ h1) (by rfl) ?_;symm;refine⟨r,p,l,ws,cs,ms,n,m,h,w,g,rfl,x.same s1,s1 _ _ ha,F,el,hml,fun H2 s2=>?_⟩;have s12:=s1.trans s2;symm
 cases hj:joinB h w ms with
 | false=>
  rw[hj] at q1
  first | exact iteF (q1 _ s12) | exact q1 _ s12
 | true=>
  rw[hj] at q1;refine iteT ?_;refine⟨⟨_,LH (s2 _ _ el)⟩,?_⟩;refine bU (xs:=ms.map V.int) (fun _=>true) (fun i=>.bl (twoB h w ms (ms.getD i 0))) (by rw[Lp];omega) (LH (s2 _ _ el)) ?_ ?_ ?_
  . intro i y H3 R hy s3 k3;exact k3 _ (Lr _)
  . intro i y H3 Q3 hy hb s3 k3;rw[Lu] at hy
    cases e:ms[i]? with
    | none=>rw[e] at hy;cases hy
    | some z=>
     rw[e] at hy;cases hy;have s13:=s12.trans s3;have eg:ms.getD i 0=z:=by rw[List.getD,e];rfl
     show aJ _ _ _ _ _ _ [none,some (.int z),some (.ref l),some (.ref r)] H3 Q3;refine methE rfl x.ok (s13 _ _ h1) (by rfl) ?_;symm;refine⟨r,p,l,ws,cs,ms,n,m,h,w,g,z,rfl,x.same s13,s13 _ _ ha,F,s3 _ _ (s2 _ _ el),hml,fun H4 s4=>?_⟩;have:=k3 H4 s4;rw[eg] at this;exact this
  . intro l2 H3 hl2 s3 el2;rw[a9,Lp] at el2;refine lW (bs:=(List.range ms.length).map fun i=>twoB h w ms (ms.getD i 0)) (by rw[el2,Mf];rfl) ?_
    have e:((List.range ms.length).map fun i=>twoB h w ms (ms.getD i 0)).all id=ms.all (twoB h w ms):=by
     have em:(List.range ms.length).map (fun i=>ms.getD i 0)=ms:=by
      refine List.ext_getElem (by simp) fun i h1 h2=>?_;simp at h1;simp[List.getD,Lq h1]
     have e2:(List.range ms.length).map (fun i=>twoB h w ms (ms.getD i 0))=ms.map (twoB h w ms):=by
      rw[← em,Mf,em];rfl
     rw[e2,Na];rfl
    rw[e];exact q1 _ (s12.trans s3)
variable{α:Type}
theorem Fp(F:Int->α)(ss:List Int):(List.range ss.length).map (fun i=>F (ss.getD i 0))=ss.map F:=by
 refine MB fun i=>?_;rw[Lu,Lu];by_cases h:i<ss.length
 . rw[Mv h,Lq h];simp[List.getD,h]
 . rw[LP (by simpa using h),LP (by omega)];rfl
variable{i:Nat}
theorem yj{α:Type}{l:List α}{x:α}(h:l[i]? =some x):l.take (i+1)=l.take i++[x]:=by
 rw[Nj,h];rfl
variable{l:Addr}{as:List Addr}{Lh:List (List Int)}
theorem IsLL.app{bs:List Addr}{yss:List (List Int)}(x:IsLL H l as Lh)(nl:l∉as)(nb:l∉bs)(len:bs.length=yss.length)(at2:∀(j:Nat) (a:Addr) (ys:List Int),bs[j]? =some a->yss[j]? =some ys->H a=some (.lst (ys.map V.int))):
  IsLL (upd H l (.lst (as.map V.ref++bs.map V.ref))) l (as++bs) (Lh++yss):=by
 have hx:=x.len;refine⟨by rw[aj,My],by rw[LC,LC,x.len,len],fun j a ys h1 h2=>?_⟩;by_cases hj:j<as.length
 . rw[LT hj] at h1;rw[LT (by omega)] at h2;have ne:a≠l:=fun z=>nl (z ▸ LB h1);rw[ao ne];exact x.at_ j a ys h1 h2
 . rw[L6 (by omega)] at h1;rw[L6 (by omega)] at h2;have ne:a≠l:=fun z=>nb (z ▸ LB h1);rw[ao ne];exact at2 _ a ys h1 (by rw[hx];exact h2)
theorem IsLL.get{a:Addr}(x:IsLL H l as Lh)(h:as[i]? =some a):∃ xs,Lh[i]? =some xs/\H a=some (.lst (xs.map V.int)):=by
 have hi:=(Lx.mp h).1;have e:Lh[i]? =some (Lh[i]'(by have:=x.len;omega)):=Lq _;exact⟨_,e,x.at_ i a _ h e⟩
variable{n:Nat}
theorem El(h:n<=1100):n<sizeLine:=MD h (by decide)
variable{p:Addr}
theorem Em{q:Addr}{xs ys:List V}(hp:H p=some (.lst xs))(hq:H q=some (.lst ys))(hn:xs.length+ys.length<=1100)(h:Q .non (upd H p (.lst (xs++ys)))):tu (.ref p) [.ref q] H Q:=by
 show bnd (unM (H p)) _;rw[hp];show bnd (unM (H q)) _;rw[hq];exact⟨Mj (El hn),h⟩
theorem z6(f:α->V)(xs:List α)(k:Nat):cutV (xs.map f) none (some (k:Int))=(xs.take k).map f:=by
 unfold cutV;rw[HT.sIx_nat,HT.sIx_none,Lp,List.drop_zero,Nat.sub_zero,Oe];by_cases h:k<=xs.length
 . rw[NP h]
 . rw[NG (by omega),Mh (by rw[Lp];exact LF _),Mh (by rw[Lp];omega)]
theorem Ho(f:α->V)(xs:List α){k:Nat}(h:k<=xs.length):cutV (xs.map f) (some (k:Int)) none=(xs.drop k).map f:=by
 unfold cutV;rw[HT.sIx_nat,HT.sIx_none,Lp,NP h,OI,Mh (by rw[MS,Lp];exact LF _)]
theorem BY(m:Int):(sgL m).length<=Builtin.Int.intBits m:=by
 unfold sgL;rw[Lp];refine Lz (LO _ _) ?_;rw[Mp];exact LF _
def prodW(ms:List Int):Nat:=ms.foldl (fun p m=>p*(sgL m).length) 1
theorem wg{x:Int}(f:α->Int->α)(a:α)(h:xs[i]? =some x):(xs.take (i+1)).foldl f a=f ((xs.take i).foldl f a) x:=by
 rw[Nj,h,Ob];rfl
def xz(K:Frag):Sp:=fun vs H Q _=>∃ p ms,vs=[.ref p]/\H p=some (.lst (ms.map V.int))/\(∀ m∈ms,Builtin.Int.intBits m<=900)/\∀ H',Same H H'->Q (.int ((prodW ms:Nat):Int)) H'
def xA(K:Frag):TS:=
 (tSeq (tAsg (tC (.int 1)) (gName 1))
  (tSeq (tFor (iList K (tVar 0)) (gName 2)
  (tAsg (tOp cMul (tVar 1) (tCB kLen (tCons (tCall (cq K) [] E0 (tCons (tVar 2) tNil)) tNil))) (gName 1)))
  (tRet (tVar 1))))
theorem Gf(h:xz K vs H Q E):xA K (eD9 Q) (start ["masks","product","mask"] vs) H:=by
 obtain⟨p,ms,rfl,hp,hb,k⟩:=h;show xA K _ [some (.ref p),none,none] H;unfold xA;symm;refine⟨⟨_,LH hp⟩,dn (K:=K) (xs:=ms.map V.int) (fun i σ H'=>∃ mv:Option V,σ=[some (.ref p),some (.int ((prodW (ms.take i):Nat):Int)),mv]/\Same H H') ⟨none,rfl,Lr H⟩ (fun i σ H' _ ⟨_,_,s⟩=>LH (s _ _ hp)) ?_ ?_⟩
 . rintro i x σ H1 hx ⟨mv,rfl,s1⟩;obtain⟨m,hm,rfl⟩:=ba hx;have hbm:=hb m (LB hm);symm;refine⟨m,rfl,hbm,fun l H2 s2 hl el=>?_⟩;symm;rw[aN el];symm;have h1:=BY m;rw[Lp];refine⟨.inr ⟨by omega,by omega⟩,some (.int m),?_,s1.trans s2⟩;unfold prodW;rw[wg _ _ hm,Int.natCast_mul]
 . rintro σ H1 ⟨mv,rfl,s1⟩;symm;rw[Mh (by rw[Lp];exact LF _)] at*;exact k _ s1
def setL(xs:List Int)(z s:Int):List Int:=(List.range xs.length).map fun(i:Nat)=>if (i:Int)=z then s else xs.getD i 0
variable{z s:Int}
theorem z7:(setL xs z s).length=xs.length:=by unfold setL;simp
theorem BZ(s0:0<=s)(s6:s<=6)(hx:∀ x∈xs,0<=x/\x<=6):∀ x∈setL xs z s,0<=x/\x<=6:=fun x h=>by
 unfold setL at h;obtain⟨i,hi,rfl⟩:=LK.mp h;have hlt:=LL.mp hi;have hb:=hx _ (L1 hlt);have eg:xs.getD i 0=xs[i]:=by rw[List.getD,Lq hlt];rfl
 rw[eg]
 split
 . exact⟨s0,s6⟩
 . exact hb
def jU(K:Frag):Sp:=fun vs H Q _=>∃ F xs z s,vs=[.ref F,.int z,.int s]/\H F=some (.lst (xs.map V.int))/\xs.length<=100/\∀ l H',Same H H'->H l=none->H' l=some (.lst ((setL xs z s).map V.int))->Q (.ref l) H'
def mS(K:Frag):TS:=
 (tRet (tComp [none,none,none,some 1,some 2] (iEnum K (tCons (tVar 0) tNil)) (gTup K 2 (gCons (gName 1) (gCons (gName 2) gNil))) tTrue (tIf (tTest (tOp (cEq K) (tVar 1) (tVar 3))) (tVar 4) (tVar 2))))
theorem z8(h:jU K vs H Q E):mS K (eD9 Q) (start ["filling","cell","sign"] vs) H:=by
 obtain⟨F,xs,z,s,rfl,hF,hl,q⟩:=h;show mS K _ [some (.ref F),some (.int z),some (.int s)] H;unfold mS;symm;refine⟨F,rfl,⟨_,LH hF⟩,?_⟩;refine vF (xs:=xs.map V.int) (fun _=>true) (fun i=>.int (if (i:Int)=z then s else xs.getD i 0)) (by rw[Lp];omega) (by decide) (LH hF) ?_ ?_ ?_
 . intro i x H1 R hx s1 k1;exact k1 _ (Lr _)
 . intro i x H1 Q1 hx hb s1 k1;obtain⟨y,hy,rfl⟩:=ba hx;have q1:=k1 _ (Lr H1);rw[jf hy] at q1;show tIf _ _ _ [none,some (.int (i:Int)),some (.int y),some (.int z),some (.int s)] H1 Q1;unfold tIf;symm;by_cases h0:(i:Int)=z
   . rw[Lv h0];rw[LX h0] at q1;exact iteT q1
   . rw[Ls h0];rw[LU h0] at q1;exact iteF q1
 . intro l H1 hl1 s1 el;rw[a9,Lp] at el;refine q l H1 s1 hl1 ?_;rw[el];unfold setL;rw[Mf];rfl
def extS(fss:List (List Int))(z:Int)(ss:List Int):List (List Int):=fss.flatMap fun f=>ss.map fun s=>setL f z s
theorem uX(z:Int)(ss:List Int):∀ fss:List (List Int),(extS fss z ss).length=fss.length*ss.length
 | []=>by simp[extS]
 | f::r=>by
  have ih:=uX z ss r;unfold extS at ih ⊢;rw[List.flatMap_cons,LC,ih,Lp,L0,ON,Nat.add_comm]
theorem Fq(fs gs:List (List Int))(z:Int)(ss:List Int):extS (fs++gs) z ss=extS fs z ss++extS gs z ss:=by
 unfold extS;rw[List.flatMap_append]
theorem Fr(f:List Int)(z:Int)(ss:List Int):extS [f] z ss=ss.map fun s=>setL f z s:=by
 unfold extS;simp
theorem mem_extS{f:List Int}{fs:List (List Int)}{ss:List Int}:f∈extS fs z ss↔∃ a∈fs,∃ s∈ss,f=setL a z s:=by
 unfold extS;rw[List.mem_flatMap];constructor
 . rintro⟨a,ha,h⟩;obtain⟨s,hs,rfl⟩:=LK.mp h;exact⟨a,ha,s,hs,rfl⟩
 . rintro⟨a,ha,s,hs,rfl⟩;exact⟨a,ha,LK.mpr ⟨s,hs,rfl⟩⟩
theorem En{H0 H1 H2:Hp}{m:Addr}{bs:List Addr}{yss:List (List Int)}(x:IsLL H1 l as Lh)(nl:l∉as)(s0:Same H0 H1)(fr:∀ b∈as,H0 b=none)(s1:Same H1 H2)(nw:NewAt H1 H2 m bs (yss.map fun ys=>.lst (ys.map V.int))):
  IsLL (upd H2 l (.lst (as.map V.ref++bs.map V.ref))) l (as++bs) (Lh++yss)/\l∉as++bs/\(∀ b∈as++bs,H0 b=none):=by
 have nb:l∉bs:=fun h=>by have:=nw.fr l h;rw[x.top] at this;cases this
 refine⟨?_,?_,?_⟩
 . refine(x.same s1).app nl nb (by rw[nw.len,Lp]) fun j a ys h1 h2=>?_;exact nw.at_ j a _ h1 (by rw[Lu,h2];rfl)
 . intro h;rcases LR.mp h with h | h
   . exact nl h
   . exact nb h
 . intro b h;rcases LR.mp h with h | h
   . exact fr b h
   . exact s0.free (nw.fr b h)
def ij(K:Frag):Sp:=fun vs H Q _=>∃ F S as fss z ss,vs=[.ref F,.int z,.ref S]/\IsLL H F as fss/\H S=some (.lst (ss.map V.int))/\fss.length*ss.length<=1100/\ss.length<=100/\(∀ f∈fss,f.length<=16)/\
 ∀(l:Addr) (bs:List Addr) (H':Hp),Same H H'->H l=none->IsLL H' l bs (extS fss z ss)->Q (.ref l) H'
def ik(K:Frag):TS:=
 (tSeq (tAsg (tLst tNil) (gName 3))
  (tSeq (tFor (iList K (tVar 0)) (gName 4)
  (tDrop (tBM K "list" tu (tVar 3) (tCons (tComp [none,none,some 1,some 4] (iList K (tVar 2)) (gName 1) tTrue (tCall (jU K) [] E0 (tCons (tVar 3) (tCons (tVar 2) (tCons (tVar 1) tNil))))) tNil))))
  (tRet (tVar 3))))
theorem tP(h:ij K vs H Q E):ik K (eD9 Q) (start ["fillings","cell","signs","found","filling"] vs) H:=by
 obtain⟨F,S,as,fss,z,ss,rfl,x,hS,hn,hs,hf,q⟩:=h;show ik K _ [some (.ref F),some (.int z),some (.ref S),none,none] H;unfold ik;symm;refine⟨lnR rfl,fun l hl=>?_⟩;obtain⟨H1,z9,s1,el⟩:=aS (.lst []) hl;rw[z9];refine⟨⟨_,LH (s1 _ _ x.top)⟩,?_⟩
 refine dn (K:=K) (xs:=as.map V.ref) (fun i σ H'=>∃(v:Option V) (bs:List Addr),σ=[some (.ref F),some (.int z),some (.ref S),some (.ref l),v]/\Same H H'/\IsLL H' l bs (extS (fss.take i) z ss)/\l∉bs/\∀ b∈bs,H b=none)
  ⟨none,[],rfl,s1,⟨el,rfl,fun j a xs h1=>by simp at h1⟩,by simp,fun b hb=>nomatch hb⟩ (fun i σ H' _ ⟨_,_,_,s,_⟩=>s.seq (LH x.top)) ?_ ?_
 . rintro i y σ H2 hy ⟨v,bs,rfl,s2,x2,nl,fr⟩;obtain⟨f,hfa,rfl⟩:=fX hy;obtain⟨xs,ex,ef⟩:=x.get hfa;have hxl:=hf xs (LB ex);symm;refine⟨bA x2.top,⟨_,LH (s2 _ _ hS)⟩,?_⟩;refine Cj (xs:=ss.map V.int) (fun _=>true) (fun i=>.lst ((setL xs z (ss.getD i 0)).map V.int)) (by rw[Lp];omega) (LH (s2 _ _ hS)) ?_ ?_ ?_
   . intro i x H R hx s1 k1;exact k1 _ (Lr _)
   . intro i x H3 Q3 hi hb s3 k3;obtain⟨t,ht,rfl⟩:=ba hi;rw[jf ht] at k3;show tCall _ _ _ _ [none,some (.int t),some (.int z),some (.ref f)] H3 Q3;symm;exact⟨f,xs,z,t,rfl,(s2.trans s3) _ _ ef,by omega,fun l H' s' hl el=>k3 l H' s' hl el⟩
   . intro m cs H3 hm s3 em nw;rw[a9,Lp,Fp (fun s=>HO.lst ((setL xs z s).map V.int))] at nw
     have nw2:NewAt H2 H3 m cs ((extS [xs] z ss).map fun ys=>.lst (ys.map V.int)):=by
      rw[Fr,Mf];exact nw
     have hb:bs.length+cs.length<=1100:=by
      have l1:=x2.len;rw[uX,Mm] at l1;have l2:=nw.len;rw[Lp] at l2;have hi:=(Lx.mp ex).1;have e1:min i fss.length=i:=by omega
      rw[e1] at l1;have:=NK ss.length (show i+1<=fss.length by omega);rw[ON] at this;omega
     refine Em (s3 _ _ x2.top) em (by rw[Lp,Lp];exact hb) ?_;obtain⟨z1,z2,z3⟩:=En x2 nl s2 fr s3 nw2;refine⟨_,bs++cs,rfl,(s2.trans s3).own hl,?_,z2,z3⟩;rw[yj ex,Fq];exact z1
 . rintro σ H2 ⟨v,bs,rfl,s2,x2,nl,fr⟩;symm;have e:fss.take (as.map V.ref).length=fss:=Mh (by rw[Lp,x.len];exact LF _);rw[e] at x2;exact q l bs H2 s2 hl x2
def wfold(Lb:List Int)(rest:List Int)(fs:List (List Int)):List (List Int):=rest.foldl (fun fs o=>extS fs o (sgL (Lb.getD o.toNat 0))) fs
def wfill(Lb rest:List Int)(z s:Int):List (List Int):=wfold Lb rest [setL (List.replicate Lb.length 0) z s]
noncomputable def waysB (k:RK) (h w:Int) (cs:List Int) (n m:Int) (Lb:List Int) (z s:Int) (ms:List Int):Bool:=
 decide (ms=[])&&(decide (prodW (sgAt Lb (othL cs z))<=32)&&(decide (0∈sgAt Lb (othL cs z))||!((wfill Lb (othL cs z) z s).any fun f=>hoB k h w cs n m f)))
theorem yk(Lb:List Int):∀(rest:List Int) (fs:List (List Int)),(wfold Lb rest fs).length=(sgAt Lb rest).foldl (fun p m=>p*(sgL m).length) fs.length
 | [],_=>rfl
 | o::r,fs=>by
  unfold wfold sgAt;rw[Nc,L3,Nc];have:=yk Lb r (extS fs o (sgL (Lb.getD o.toNat 0)));unfold wfold sgAt at this;rw[this,uX]
theorem Aa:∀(ms:List Int) (n:Nat),(∀ m∈ms,1<=(sgL m).length)->n<=ms.foldl (fun p m=>p*(sgL m).length) n
 | [],_,_=>LF _
 | m::r,n,h=>by
  rw[Nc];exact Lz (Nat.le_mul_of_pos_right n (h m LQ)) (Aa r _ fun x hx=>h x (LI _ hx))
theorem Cz(i:Nat)(h:∀ m∈ms,1<=(sgL m).length):prodW (ms.take i)<=prodW ms:=by
 have e:prodW ms=(ms.drop i).foldl (fun p m=>p*(sgL m).length) (prodW (ms.take i)):=by
  unfold prodW;rw[← Ob,List.take_append_drop]
 rw[e];exact Aa _ _ fun x hx=>h x (List.mem_of_mem_drop hx)
theorem qp{n:Nat}{Lb:List Int}(hm:∀ m∈Lb,0<=m/\m<64):∀(rest:List Int) (fs:List (List Int)),(∀ f∈fs,f.length=n/\∀ x∈f,0<=x/\x<=6)->∀ f∈wfold Lb rest fs,f.length=n/\∀ x∈f,0<=x/\x<=6
 | [],_,h,f,hf=>h f hf
 | o::r,fs,h,f,hf=>by
  refine qp hm r (extS fs o (sgL (Lb.getD o.toNat 0))) (fun g hg=>?_) f hf;obtain⟨a,ha,s,hs,rfl⟩:=mem_extS.mp hg;have h1:=h a ha
  have hs6:1<=s/\s<=6:=by
   by_cases hlt:o.toNat<Lb.length
   . have e:Lb.getD o.toNat 0=Lb[o.toNat]:=by rw[List.getD,Lq hlt];rfl
     rw[e] at hs;have hb:=hm _ (L1 hlt);rw[(iE hb.1 hb.2).2] at hs;obtain⟨j,hj,rfl⟩:=LK.mp hs;have:=(L4.mp hj).1;simp at this;omega
   . have e:Lb.getD o.toNat 0=0:=by rw[List.getD,LP (by omega)];rfl
     rw[e,Hm] at hs;cases hs
  exact⟨by rw[z7];exact h1.1,BZ (by omega) hs6.2 h1.2⟩
def jV(K:Frag)(c:RCl RK):Sp:=fun vs H Q _=>∃ k r p A M ws cs Lb ms n m z s h w g,vs=[.ref r,.ref A,.int z,.int s,.ref M]/\IsRule H c k r p ws cs n m/\IsFl H p h w g/\FlOk h w g/\aP cs Lb.length/\Lb.length<=16/\(∀ m∈Lb,0<=m/\m<64)/\1<=s/\s<=6/\H A=some (.lst (Lb.map V.int))/\H M=some (.lst (ms.map V.int))/\∀ H',Same H H'->Q (.bl (waysB k h w cs n m Lb z s ms)) H'
def gK(K:Frag)(c:RCl RK):TS:=
 (tSeq (tFor (iList K (tVar 7)) (gName 9)
  (tIfS (tB (aJ c c.ok "holds" (d7 K c) (tVar 0) (tCons (tVar 9) tNil))) (tRet (tC (.bl false))) tNext))
  (tRet (tC (.bl true))))
def gL(K:Frag)(c:RCl RK):TS:=
 (tSeq (tAsg (tLst (tCons (tCall (jU K) [] E0 (tCons (tOp cRepL (tLst (tCons (tC (.int 0)) tNil)) (tCB kLen (tCons (tVar 1) tNil))) (tCons (tVar 2) (tCons (tVar 3) tNil)))) tNil)) (gName 7))
  (tSeq (tFor (iList K (tVar 5)) (gName 8)
  (tAsg (tCall (ij K) [] E0 (tCons (tVar 7) (tCons (tVar 8) (tCons (tCall (cq K) [] E0 (tCons (tOp cIx (tVar 1) (tVar 8)) tNil)) tNil)))) (gName 7)))
  (gK K c)))
def jW(K:Frag)(c:RCl RK):TS:=
 (tSeq (tAsg (tCall (d4 K c) [] E0 (tCons (tVar 0) (tCons (tVar 2) tNil))) (gName 5))
  (tSeq (tAsg (tCall (cr K) [] E0 (tCons (tVar 1) (tCons (tVar 5) tNil))) (gName 6))
  (tSeq (tIfS (tOr (tTest (tOp (cNe K) (tVar 4) (tLst tNil))) (tTest (tOp (cCmp fun i j=>decide (j<i)) (tCall (xz K) [] E0 (tCons (tVar 6) tNil)) (tC (.int 32))))) (tRet (tC (.bl false))) tNext)
  (tSeq (tIfS (tB (tCall (jQ K) [] E0 (tCons (tVar 6) tNil))) (tRet (tC (.bl true))) tNext)
  (gL K c)))))
structure Wys(H:Hp)(c:RCl RK)(k:RK)(r p A:Addr)(ws:List (List Nat))(cs Lb:List Int)(n m h w g:Int):Prop where
 R:IsRule H c k r p ws cs n m
 fl:IsFl H p h w g
 F:FlOk h w g
 ci:aP cs Lb.length
 ml:Lb.length<=16
 mo:∀ m∈Lb,0<=m/\m<64
 hA:H A=some (.lst (Lb.map V.int))
variable{A:Addr}{Lb:List Int}{g:Int}
theorem Wys.same{H':Hp}{k:RK}{r:Addr}{ws:List (List Nat)}{n:Int}(x:Wys H c k r p A ws cs Lb n m h w g)(s:Same H H'):Wys H' c k r p A ws cs Lb n m h w g:=⟨x.R.same s,s _ _ x.fl,x.F,x.ci,x.ml,x.mo,s _ _ x.hA⟩
theorem CA {k:RK} {r F:Addr} {ws:List (List Nat)} {n:Int} {v2 v3 v4 v5 v6 v8:Option V} {bs:List Addr} {fss:List (List Int)} (X:Wys H c k r p A ws cs Lb n m h w g) (x:IsLL H F bs fss) (hf:∀ f∈fss,f.length=Lb.length/\∀ x∈f,0<=x/\x<=6)
  (q:∀ H',Same H H'->Q (.bl (!(fss.any fun f=>hoB k h w cs n m f))) H'):
  gK K c (eD9 Q) [some (.ref r),some (.ref A),v2,v3,v4,v5,v6,some (.ref F),v8,none] H:=by
 obtain⟨dx,W,C,h1,h2,h3⟩:=X.R.ex;have hxl:=x.len;unfold gK;symm;refine⟨⟨_,LH x.top⟩,?_⟩;refine dn (K:=K) (xs:=bs.map V.ref) (fun i σ H'=>∃ v9:Option V,σ=[some (.ref r),some (.ref A),v2,v3,v4,v5,v6,some (.ref F),v8,v9]/\Same H H'/\((fss.take i).any fun f=>hoB k h w cs n m f)=false) ⟨none,rfl,Lr _,rfl⟩ (fun i σ H' _ ⟨_,_,s,_⟩=>s.seq (LH x.top)) ?_ ?_
 . rintro i y σ H1 hy ⟨v9,rfl,s1,hno⟩;obtain⟨b,hb,rfl⟩:=fX hy;obtain⟨f,ef,eb⟩:=x.get hb;have hfm:=LB ef;obtain⟨hfl,hfx⟩:=hf f hfm;have X1:=X.same s1;symm;rw[aB];symm;refine methE (k:=k) rfl X.R.ok (s1 _ _ h1) (by rfl) ?_;symm;refine⟨r,p,b,ws,cs,f,n,m,h,w,g,rfl,X1.R,X1.fl,X1.F,s1 _ _ eb,by rw[hfl];exact X1.ci,fun y hy=>by have:=hfx y hy;omega,fun H2 s2=>?_⟩;refine⟨_,rfl,?_⟩
   cases hh:hoB k h w cs n m f with
   | true=>
    refine iteT ?_;have e:(fss.any fun f=>hoB k h w cs n m f)=true:=Nl.mpr ⟨f,hfm,hh⟩;have q1:=q _ (s1.trans s2);rw[e] at q1;exact q1
   | false=>
    refine iteF ⟨_,rfl,s1.trans s2,?_⟩;rw[yj ef,List.any_append,hno,MK]
    simpa using hh
 . rintro σ H1 ⟨v9,rfl,s1,hno⟩;rw[Mh (by rw[Lp,hxl];exact LF _)] at hno;symm;rw[hno] at q;exact q _ s1
theorem CB {k:RK} {r R:Addr} {ws:List (List Nat)} {n:Int} {v4 v6:Option V} (X:Wys H c k r p A ws cs Lb n m h w g) (hR:H R=some (.lst ((othL cs z).map V.int))) (s0:1<=s) (s6:s<=6) (hw:prodW (sgAt Lb (othL cs z))<=32) (h0:0∉sgAt Lb (othL cs z))
  (q:∀ H',Same H H'->Q (.bl (!((wfill Lb (othL cs z) z s).any fun f=>hoB k h w cs n m f))) H'):
  gL K c (eD9 Q) [some (.ref r),some (.ref A),some (.int z),some (.int s),v4,some (.ref R),v6,none,none,none] H:=by
 have hml:=X.ml;unfold gL;symm;refine⟨lnR rfl,fun Z hZ=>?_⟩;obtain⟨H1,z9,s1,eZ⟩:=aS (.lst [V.int 0]) hZ;rw[z9];rw[aN (s1 _ _ X.hA),Lp];refine DN eZ (by omega) (by omega) (by show(1:Nat)<=1;decide) fun N hN=>?_;have s2:Same H1 (upd H1 N (.lst (List.replicate ((Lb.length:Nat):Int).toNat [V.int 0]).flatten)):=(Lr H1).laid hN
 have eN:(upd H1 N (.lst (List.replicate ((Lb.length:Nat):Int).toNat [V.int 0]).flatten)) N=some (.lst ((List.replicate Lb.length (0:Int)).map V.int)):=by
  rw[aj,N2];simp
 generalize upd H1 N (.lst (List.replicate ((Lb.length:Nat):Int).toNat [V.int 0]).flatten)=H2 at*;have s12:=s1.trans s2;refine⟨N,_,z,s,rfl,eN,by simp;omega,fun b H3 s3 hb eb=>?_⟩;have s13:=s12.trans s3;symm;refine⟨lnR rfl,fun F hF=>?_⟩;have s4:Same H3 (upd H3 F (.lst [V.ref b])):=(Lr H3).laid hF
 have xF:IsLL (upd H3 F (.lst [V.ref b])) F [b] [setL (List.replicate Lb.length 0) z s]:=by
  refine⟨aj,rfl,fun j a xs e1 e2=>?_⟩;have hj:j=0:=by have:=(Lx.mp e1).1;simp at this;omega
  subst hj;cases e1;cases e2;exact s4 _ _ eb
 generalize upd H3 F (.lst [V.ref b])=H4 at*;have s14:=s13.trans s4
 have base:∀ f∈([setL (List.replicate Lb.length 0) z s]:List (List Int)),f.length=Lb.length/\∀ x∈f,0<=x/\x<=6:=fun f hf=>by
  rw[LE.mp hf];exact⟨by rw[z7];simp,BZ (by omega) s6 fun x hx=>by rw[(Nt.mp hx).2];omega⟩
 have pos:∀ mm∈sgAt Lb (othL cs z),1<=(sgL mm).length:=fun mm hm=>by
  have hne:mm≠0:=fun e=>h0 (e ▸ hm);unfold sgAt at hm;obtain⟨o,ho,rfl⟩:=LK.mp hm;have hoc:o∈cs:=(L4.mp ho).1;have hi:=X.ci.2 o hoc;have hlt:o.toNat<Lb.length:=by omega
  have e:Lb.getD o.toNat 0=Lb[o.toNat]:=by rw[List.getD,Lq hlt];rfl
  rw[e] at hne ⊢;have hb:=X.mo _ (L1 hlt);exact(FF hb.1 hb.2 hne).1.1
 refine⟨⟨_,LH (s14 _ _ hR)⟩,?_⟩;refine dn (K:=K) (xs:=(othL cs z).map V.int) (fun i σ H'=>∃(F:Addr) (bs:List Addr) (v8:Option V),σ=[some (.ref r),some (.ref A),some (.int z),some (.int s),v4,some (.ref R),v6,some (.ref F),v8,none]/\Same H H'/\IsLL H' F bs (wfold Lb ((othL cs z).take i) [setL (List.replicate Lb.length 0) z s])) ⟨F,[b],none,rfl,s14,xF⟩ (fun i σ H' _ ⟨_,_,_,_,s,_⟩=>s.seq (LH hR)) ?_ ?_
 . rintro i y σ H5 hy ⟨F,bs,v8,rfl,s5,x5⟩;obtain⟨o,ho,rfl⟩:=ba hy;have hom:=LB ho;have hoc:o∈cs:=(L4.mp hom).1;have hi:=X.ci.2 o hoc;have hlt:o.toNat<Lb.length:=by omega
   have e:Lb.getD o.toNat 0=Lb[o.toNat]:=by rw[List.getD,Lq hlt];rfl
   have hb:=X.mo _ (L1 hlt);have sb:=iE hb.1 hb.2;symm;refine ixI (s5 _ _ X.hA) (by omega) (by omega) ?_;symm;rw[e];refine⟨_,rfl,by omega,fun S H6 s6' hS eS=>?_⟩;symm;have hsl:(sgL Lb[o.toNat]).length<=6:=Lz (BY _) sb.1;refine⟨F,S,bs,_,o,_,rfl,x5.same s6',eS,?_,by omega,fun f hf=>by have:=(qp X.mo _ _ base f hf).1;omega,fun l cs2 H7 s7 hl x7=>?_⟩
   . rw[yk];have h1:=Cz i pos
     have e2:(sgAt Lb ((othL cs z).take i)).foldl (fun p m=>p*(sgL m).length) ([setL (List.replicate Lb.length 0) z s]:List (List Int)).length=prodW ((sgAt Lb (othL cs z)).take i):=by
      unfold prodW sgAt;rw[Oe];rfl
     rw[e2];have h3:prodW ((sgAt Lb (othL cs z)).take i)*(sgL Lb[o.toNat]).length<=32*6:=Nat.mul_le_mul (by omega) hsl;omega
   . refine⟨l,cs2,_,rfl,(s5.trans s6').trans s7,?_⟩
     have e3:wfold Lb ((othL cs z).take (i+1)) [setL (List.replicate Lb.length 0) z s]=extS (wfold Lb ((othL cs z).take i) [setL (List.replicate Lb.length 0) z s]) o (sgL Lb[o.toNat]):=by
      unfold wfold;rw[wg _ _ ho,e]
     rw[e3];exact x7
 . rintro σ H5 ⟨F,bs,v8,rfl,s5,x5⟩;rw[Mh (by rw[Lp];exact LF _)] at x5;exact CA (X.same s5) x5 (qp X.mo _ _ base) fun H' s'=>q H' (s5.trans s')
theorem wj(h:jV K c vs H Q E):jW K c (eD9 Q) (start ["rule","masks","cell","sign","more","rest","some","fillings","other","filling"] vs) H:=by
 obtain⟨k,r,p,A,M,ws,cs,Lb,ms,n,m,z,s,h,w,g,rfl,hR,hp,F,ci,ml,mk,s0,s6,hA,hM,q⟩:=h;have X:Wys H c k r p A ws cs Lb n m h w g:=⟨hR,hp,F,ci,ml,mk,hA⟩;have hcl:cs.length<=63:=by have:=ci.1;omega
 show jW K c _ [some (.ref r),some (.ref A),some (.int z),some (.int s),some (.ref M),none,none,none,none,none] H;unfold jW;symm;refine⟨k,r,p,ws,cs,n,m,z,rfl,hR,hcl,fun R H1 s1 hR1 eR=>?_⟩;have eR2:H1 R=some (.lst ((othL cs z).map V.int)):=eR;symm;refine⟨A,R,Lb,othL cs z,rfl,s1 _ _ hA,eR2,⟨Lz (LO _ _) ci.1,fun x hx=>ci.2 x (L4.mp hx).1⟩,fun S H2 s2 hS eS=>?_⟩;have s12:=s1.trans s2;dsimp only;rw[aB];symm;refine⟨lnR rfl,fun e he=>?_⟩;obtain⟨H3,z9,s3,ee⟩:∃ z,upd H2 e (.lst [])=z/\Same H2 z/\z e=some (.lst (([]:List Int).map V.int)):=aS _ he;rw[z9];have s13:=s12.trans s3;refine pY (s13 _ _ hM) ee ?_;refine⟨_,rfl,?_⟩;unfold waysB at q;by_cases hm:ms=[]
 . rw[Lv hm] at q ⊢;rw[LD] at q;refine iteF ?_;symm;refine⟨S,_,rfl,s3 _ _ eS,fun x hx=>?_,fun H4 s4=>?_⟩
   . unfold sgAt at hx;obtain⟨o,ho,rfl⟩:=LK.mp hx;have hi:=ci.2 o (L4.mp ho).1;have hlt:o.toNat<Lb.length:=by omega
     have e:Lb.getD o.toNat 0=Lb[o.toNat]:=by rw[List.getD,Lq hlt];rfl
     rw[e];have hb:=mk _ (L1 hlt);have:=(iE hb.1 hb.2).1;omega
   . have s14:=s13.trans s4;symm;by_cases hw:prodW (sgAt Lb (othL cs z))<=32
     . rw[Lv hw,LD] at q;rw[Ls (by omega)];refine iteF ?_;rw[aB];symm;refine⟨S,_,rfl,(s3.trans s4) _ _ eS,?_⟩;refine⟨_,rfl,?_⟩;by_cases h0:0∈sgAt Lb (othL cs z)
       . rw[Lv h0] at q ⊢;rw[Ny] at q;exact iteT (q _ s14)
       . rw[Ls h0] at q ⊢;rw[MK] at q;refine iteF ?_;exact CB (X.same s14) (((s2.trans s3).trans s4) _ _ eR2) s0 s6 hw h0 fun H' s'=>q H' (s14.trans s')
     . rw[Ls hw,LA] at q;rw[Lv (by omega)];exact iteT (q _ s14)
 . rw[Ls hm,LA] at q;rw[Ls hm];exact iteT (q _ s13)
def Ab(g:Int)(t:TK)(x:RR)(Lb:List Int)(z s:Int)(ms:List Int):Bool:=match t with
 | .only=>onlyB x.cs Lb z s ms
 | .place=>zW g x.cs Lb z s ms
 | _=>pairB x.cs Lb z s ms
def Ac(g:Int)(Ld:List RR)(cl Lb:List Int)(t:TK)(r z s:Int)(ms:List Int):Bool:=match t with
 | .clue=>clueB cl z s ms
 | _=>match Ld[r.toNat]? with
  | none=>false
  | some x=>Ab g t x Lb z s ms
noncomputable def rcB (h w:Int) (cs:List Int) (st x:Int):Bool:=@decide (RC h w cs st x) (Classical.propDecidable _)
theorem Eo{rs:List Int}{st x:Int}(hm:x∈rs↔RC h w cs st x):decide (x∈rs)=rcB h w cs st x:=by
 unfold rcB;rw[LV,Lw];exact hm.trans (@decide_eq_true_iff _ (Classical.propDecidable _)).symm
def anoB(h w:Int)(Lb:List Int)(z m o:Int):Bool:=(decide (0<=o)&&decide (o<h*w))&&(!decide (o=z)&&decide (woI (Lb.getD o.toNat 0) m=0))
def dt(K:Frag):Sp:=fun vs H Q _=>∃ f A h w g z o m Lb,vs=[.ref f,.ref A,.int z,.int o,.int m]/\IsFl H f h w g/\FlOk h w g/\H A=some (.lst (Lb.map V.int))/\Lb.length=(h*w).toNat/\m<=1000/\Q (.bl (anoB h w Lb z m o)) H
def du(K:Frag):TS:=
 (tRet (tAndV (tCall (jC K) [] E0 (tCons (tVar 0) (tCons (tVar 3) tNil))) (tAndV (tOp (cNe K) (tVar 3) (tVar 2)) (tCall (f6 K) [] E0 (tCons (tOp cIx (tVar 1) (tVar 3)) (tCons (tVar 4) tNil))))))
theorem nj(h:dt K vs H Q E):du K (eD9 Q) (start ["floor","masks","cell","other","mark"] vs) H:=by
 obtain⟨f,A,h,w,g,z,o,m,Lb,rfl,hf,F,hA,hml,hm,q⟩:=h;show du K _ [some (.ref f),some (.ref A),some (.int z),some (.int o),some (.int m)] H;unfold du;symm;refine⟨f,h,w,g,o,rfl,hf,F,?_⟩;unfold anoB at q
 cases hb:(decide (0<=o)&&decide (o<h*w)) with
 | false=>
  rw[hb,LA] at q;exact⟨false,rfl,iteF q⟩
 | true=>
  rw[hb,LD] at q;rw[Ma,Lw,Lw] at hb;refine⟨true,rfl,iteT ?_⟩;symm
  cases hb2:decide (o=z) with
  | true=>
   rw[hb2,Nf,LA] at q;symm;exact q
  | false=>
   rw[hb2,Nk,LD] at q;symm;refine ixI hA hb.1 (by omega) ?_;symm;exact⟨_,m,rfl,by omega,q⟩
def thrL(cs Lb:List Int)(m z:Int):List Int:=(cs.filter fun x=>!decide (x=z)).filter fun x=>stB (Lb.getD x.toNat 0) m
noncomputable def reaB (h w:Int) (cs:List Int) (m:Int) (Lb:List Int) (z s:Int) (ms:List Int):Bool:=
 (ms.all fun o=>anoB h w Lb z m o)&&(if s=m then decide (ms.length=1)&&!rcB h w (thrL cs Lb m z++[z]) z (ms.getD 0 0)
  else decide (ms.length=2)&&(!decide (ms.getD 0 0=ms.getD 1 0)&&!rcB h w (thrL cs Lb m z) (ms.getD 0 0) (ms.getD 1 0)))
def i8(K:Frag)(c:RCl RK):Sp:=fun vs H Q _=>∃ k f r p A M ws cs Lb ms n m z s h w g,vs=[.ref f,.ref r,.ref A,.int z,.int s,.ref M]/\IsFl H f h w g/\FlOk h w g/\IsRule H c k r p ws cs n m/\aP cs Lb.length/\cs.length<=60/\Lb.length=(h*w).toNat/\H A=some (.lst (Lb.map V.int))/\H M=some (.lst (ms.map V.int))/\ms.length<=100/\m<=1000/\∀ H',Same H H'->Q (.bl (reaB h w cs m Lb z s ms)) H'
def gb(K:Frag)(c:RCl RK):TS:=
 (tSeq (tIfS (tTest (tOp (cEq K) (tVar 4) (tVar 6))) (tRet (tAndV (tOp (cEq K) (tCB kLen (tCons (tVar 5) tNil)) (tC (.int 1))) (tOp (cIn K true) (tOp cIx (tVar 5) (tC (.int 0))) (tCall (jS K) [] E0 (tCons (tVar 0) (tCons (tOp cAdd (tVar 7) (tLst (tCons (tVar 3) tNil))) (tCons (tVar 3) tNil))))))) tNext)
  (tSeq (tIfS (tOr (tTest (tOp (cNe K) (tCB kLen (tCons (tVar 5) tNil)) (tC (.int 2)))) (tTest (tOp (cEq K) (tOp cIx (tVar 5) (tC (.int 0))) (tOp cIx (tVar 5) (tC (.int 1)))))) (tRet (tC (.bl false))) tNext)
  (tRet (tOp (cIn K true) (tOp cIx (tVar 5) (tC (.int 1))) (tCall (jS K) [] E0 (tCons (tVar 0) (tCons (tVar 7) (tCons (tOp cIx (tVar 5) (tC (.int 0))) tNil))))))))
def gc(K:Frag)(c:RCl RK):TS:=
 (tSeq (sComp 7 [none,none,some 6,some 2] (iList K (tCall (d4 K c) [] E0 (tCons (tVar 1) (tCons (tVar 3) tNil)))) (gName 1) (tB (tCall (gG K) [] E0 (tCons (tOp cIx (tVar 3) (tVar 1)) (tCons (tVar 2) tNil)))) (tVar 1))
  (gb K c))
def i9(K:Frag)(c:RCl RK):TS:=
 (tSeq (tAsg (aJ c c.ok "sign" (kA K c) (tVar 1) tNil) (gName 6))
  (tSeq (tIfS (tNot (tB (tCB kAll (tCons (tComp [none,none,some 3,some 0,some 6,some 2] (iList K (tVar 5)) (gName 1) tTrue (tCall (dt K) [] E0 (tCons (tVar 3) (tCons (tVar 5) (tCons (tVar 2) (tCons (tVar 1) (tCons (tVar 4) tNil))))))) tNil)))) (tRet (tC (.bl false))) tNext)
  (gc K c)))
variable{M:Addr}{v1:V}
theorem qP {f N:Addr} {T:List Int} (hf:IsFl H f h w g) (F:FlOk h w g) (hM:H M=some (.lst (ms.map V.int))) (hN:H N=some (.lst (T.map V.int))) (hT:T.length<=60)
  (q:∀ H',Same H H'->Q (.bl (if s=m then decide (ms.length=1)&&!rcB h w (T++[z]) z (ms.getD 0 0) else decide (ms.length=2)&&(!decide (ms.getD 0 0=ms.getD 1 0)&&!rcB h w T (ms.getD 0 0) (ms.getD 1 0)))) H'):
  gb K c (eD9 Q) [some (.ref f),some v1,some (.ref A),some (.int z),some (.int s),some (.ref M),some (.int m),some (.ref N)] H:=by
 have w0:=F.w0;have w1:=F.w1;unfold gb;rw[ay,aB];symm;by_cases hs:s=m
 . rw[LX hs] at q;rw[Lv hs];symm;rw[aN hM,Lp];symm
   have e1:decide ((ms.length:Int)=1)=decide (ms.length=1):=by
    rw[LV,Lw,Lw];omega
   rw[e1]
   cases hb:decide (ms.length=1) with
   | false=>
    rw[hb,LA] at q;symm;exact q _ (Lr _)
   | true=>
    rw[hb,LD] at q;have hl:=L9 hb;symm;refine ixI hM (by decide) (by omega) ?_;rw[show(0:Int).toNat=0 from rfl];symm;refine⟨lnR rfl,fun l hl2=>?_⟩;obtain⟨H1,z9,s1,el⟩:=aS (.lst [V.int z]) hl2;rw[z9];refine o4 (s1 _ _ hN) el (by simp;omega) fun Y hY=>?_;have s2:Same H1 (upd H1 Y (.lst (T.map V.int++[V.int z]))):=(Lr H1).laid hY;have eY:(upd H1 Y (.lst (T.map V.int++[V.int z]))) Y=some (.lst ((T++[z]).map V.int)):=by rw[aj];simp
    generalize upd H1 Y (.lst (T.map V.int++[V.int z]))=H2 at*;have s12:=s1.trans s2;symm;refine⟨f,Y,h,w,g,z,_,rfl,s12 _ _ hf,by omega,by omega,eY,by simp;omega,fun p H3 rs s3 hp ep _ hx=>?_⟩;dsimp only;rw[jq ep,Eo (hx _)];exact q _ (s12.trans s3)
 . rw[LU hs] at q;rw[Ls hs];symm;rw[aB];symm;rw[aN hM,Lp];symm
   have e1:decide ((ms.length:Int)=2)=decide (ms.length=2):=by
    rw[LV,Lw,Lw];omega
   rw[e1]
   cases hb:decide (ms.length=2) with
   | false=>
    rw[hb,LA] at q;symm;exact q _ (Lr _)
   | true=>
    rw[hb,LD] at q;have hl:=L9 hb;symm;refine ixI hM (by decide) (by omega) ?_;rw[show(0:Int).toNat=0 from rfl];symm;refine ixI hM (by decide) (by omega) ?_;rw[show(1:Int).toNat=1 from rfl];symm
    cases hb2:decide (ms.getD 0 0=ms.getD 1 0) with
    | true=>
     rw[hb2,Nf,LA] at q;symm;exact q _ (Lr _)
    | false=>
     rw[hb2,Nk,LD] at q;symm;refine ixI hM (by decide) (by omega) ?_;rw[show(1:Int).toNat=1 from rfl];symm;refine ixI hM (by decide) (by omega) ?_;rw[show(0:Int).toNat=0 from rfl];symm;refine⟨f,N,h,w,g,_,_,rfl,hf,by omega,by omega,hN,by omega,fun p H3 rs s3 hp ep _ hx=>?_⟩;dsimp only;rw[jq ep,Eo (hx _)];exact q _ s3
theorem qQ {k:RK} {f r:Addr} {ws:List (List Nat)} {n:Int} (hf:IsFl H f h w g) (F:FlOk h w g) (x:IsRule H c k r p ws cs n m) (hC:aP cs Lb.length) (hml:Lb.length=(h*w).toNat) (hA:H A=some (.lst (Lb.map V.int))) (hM:H M=some (.lst (ms.map V.int)))
  (q:∀ H',Same H H'->Q (.bl (if s=m then decide (ms.length=1)&&!rcB h w (thrL cs Lb m z++[z]) z (ms.getD 0 0) else decide (ms.length=2)&&(!decide (ms.getD 0 0=ms.getD 1 0)&&!rcB h w (thrL cs Lb m z) (ms.getD 0 0) (ms.getD 1 0)))) H') (hcs:cs.length<=60):
  gc K c (eD9 Q) [some (.ref f),some (.ref r),some (.ref A),some (.int z),some (.int s),some (.ref M),some (.int m),none] H:=by
 unfold gc;symm;refine⟨k,r,p,ws,cs,n,m,z,rfl,x,hC.1,fun O H1 s1 hO eO=>?_⟩;have hfl:=LO (fun x=>!decide (x=z)) cs;refine⟨O,rfl,⟨_,LH eO⟩,?_⟩;refine aT (xs:=cs.filter fun x=>!decide (x=z)) (fun x=>stB (Lb.getD x.toNat 0) m) (fun x=>x) (by omega) (LH eO) ?_ ?_ ?_
 . intro y H2 R hy s2 k2;have hyc:=hC.2 y (L4.mp hy).1;show tB _ [none,some (.int y),some (.int m),some (.ref A)] H2 R;symm;refine ixI ((s1.trans s2) _ _ hA) hyc.1 hyc.2 ?_;symm;exact⟨_,m,rfl,_,rfl,k2 _ (Lr _)⟩
 . intro y H2 Q2 hy hb s2 k2;show tVar 1 [none,some (.int y),some (.int m),some (.ref A)] H2 Q2;symm;exact k2 _ (Lr _)
 . intro N H2 hN s2 eN;rw[MM] at eN;have s12:=s1.trans s2;symm;refine qP (s12 _ _ hf) F (s12 _ _ hM) (T:=thrL cs Lb m z) eN ?_ fun H' s3=>q H' (s12.trans s3);unfold thrL;have:=LO (fun x=>stB (Lb.getD x.toNat 0) m) (cs.filter fun x=>!decide (x=z));omega
theorem uY(h:i8 K c vs H Q E):i9 K c (eD9 Q) (start ["floor","rule","masks","cell","sign","more","mark","through"] vs) H:=by
 obtain⟨k,f,r,p,A,M,ws,cs,Lb,ms,n,m,z,s,h,w,g,rfl,hf,F,x,hC,hcs,hml,hA,hM,hmn,hm,q⟩:=h;obtain⟨dx,W,C,h1,h2,h3⟩:=x.ex;show i9 K c _ [some (.ref f),some (.ref r),some (.ref A),some (.int z),some (.int s),some (.ref M),none,none] H;unfold i9;rw[ay,bI];refine methE (k:=k) rfl x.ok h1 (by rfl) ?_;symm;refine⟨r,p,ws,cs,n,m,rfl,x,?_⟩;symm;rw[aB];symm;refine⟨⟨_,LH hM⟩,?_⟩;refine bU (xs:=ms.map V.int) (fun _=>true) (fun i=>.bl (anoB h w Lb z m (ms.getD i 0))) (by rw[Lp];omega) (LH hM) ?_ ?_ ?_
 . intro i y H1 R hy s1 k1;exact k1 _ (Lr _)
 . intro i y H1 Q1 hy hb s1 k1;obtain⟨v,hv,rfl⟩:=ba hy;have eg:ms.getD i 0=v:=by rw[List.getD,hv];rfl
   rw[eg] at k1;show tCall _ _ _ _ [none,some (.int v),some (.int z),some (.ref f),some (.int m),some (.ref A)] H1 Q1;symm;exact⟨f,A,h,w,g,z,v,m,Lb,rfl,s1 _ _ hf,F,s1 _ _ hA,hml,hm,k1 _ (Lr _)⟩
 . intro l H1 hl s1 el
   have eb:((List.range (ms.map V.int).length).filter fun _=>true).map (fun i=>V.bl (anoB h w Lb z m (ms.getD i 0)))=(ms.map fun o=>anoB h w Lb z m o).map V.bl:=by
    rw[a9,Lp,Mf];refine List.ext_getElem (by simp) fun i h1 h2=>?_;have hi:i<ms.length:=by simpa using h2
    simp[List.getD,Lq hi]
   rw[eb] at el;refine lW el ?_;have ea:(ms.map fun o=>anoB h w Lb z m o).all id=ms.all fun o=>anoB h w Lb z m o:=by rw[Na];rfl
   rw[ea];unfold reaB at q
   cases hb:(ms.all fun o=>anoB h w Lb z m o) with
   | false=>
    rw[hb,LA] at q;refine⟨false,rfl,?_⟩;symm;exact q _ s1
   | true=>
    rw[hb,LD] at q;refine⟨true,rfl,?_⟩;symm;exact qQ (s1 _ _ hf) F (x.same s1) hC hml (s1 _ _ hA) (s1 _ _ hM) (fun H' s2=>q H' (s1.trans s2)) hcs
theorem Ep{k:RK}(h:goesB .reach k=true):sgnK k=true:=by cases k <;> first | rfl | cases h
theorem RR.len26{r:RR}(O:r.Ok h w g)(F:FlOk h w g):r.cs.length<=60:=by
 have m16:=F.m
 cases hk:allK r.k with
 | false=>
  obtain⟨c1,c2,c3,c4,e⟩:=O.cl.told hk;rw[e,Lp];omega
 | true=>
  obtain⟨_,e⟩:=O.cl.all hk;rw[e,kz];omega
def Ad(p:Int->Int->Bool):Bool:=(List.range 7).all fun(h:Nat)=>(List.range 7).all fun(w:Nat)=>!(decide (1<=h)&&decide (1<=w)&&decide (h*w<=16))||p h w
theorem yn{p:Int->Int->Bool}(a:Ad p=true){h w g:Int}(F:FlOk h w g):p h w=true:=by
 obtain⟨h0,h1,w0,w1,m16,g0,g1⟩:=F;obtain⟨n,rfl⟩:=M6 (show 0<=h by omega);obtain⟨m,rfl⟩:=M6 (show 0<=w by omega);have a1:=LM.mp a n (LL.mpr (by omega));have a2:=LM.mp a1 m (LL.mpr (by omega));have e1:1<=n:=by omega
 have e2:1<=m:=by omega
 have e3:n*m<=16:=by have:((n*m:Nat):Int)<=16:=by rw[Int.natCast_mul];exact m16
                     omega
 simpa [e1,e2,e3] using a2
def nearS(h w d r:Int):List Int:=if (decide (0<=d)&&decide (d<h))&&(decide (0<=r)&&decide (r<w)) then [d*w+r] else []
def nearP(w c:Int):List (Int × Int):=[(c/w-1,c%w),(c/w,c%w-1),(c/w,c%w+1),(c/w+1,c%w)]
def nearL(h w c:Int):List Int:=(nearP w c).flatMap fun p=>nearS h w p.1 p.2
theorem CD:Ad (fun h w=>(List.range (h*w).toNat).all fun(c:Nat)=>decide (nearL h w c=besL h w c)&&(besL h w c).all fun x=>decide (0<=x)&&decide (x<h*w))=true:=by decide+kernel
theorem wk{c:Int}(F:FlOk h w g)(c0:0<=c)(c1:c<h*w):nearL h w c=besL h w c/\∀ x∈besL h w c,0<=x/\x<h*w:=by
 have t:=LM.mp (yn CD F) c.toNat (LL.mpr (by omega));have e1:((c.toNat:Nat):Int)=c:=by omega
 rw[e1,Ma,Lw,LM] at t;refine⟨t.1,fun x hx=>?_⟩;have:=t.2 x hx
 simpa using this
theorem Ae{c:Int}(F:FlOk h w g)(c0:0<=c)(c1:c<h*w)(hn:n=(h*w).toNat):aP (besL h w c) n:=by
 refine⟨Lz (uM ..) (by decide),fun x hx=>?_⟩;have:=(wk F c0 c1).2 x hx;omega
def arL(h w o z:Int):List Int:=(besL h w o).filter fun x=>!decide (x=z)
def rP(K:Frag):Sp:=fun vs H Q _=>∃ a h w g o z,vs=[.ref a,.int o,.int z]/\IsFl H a h w g/\FlOk h w g/\∀ l H',Same H H'->H l=none->H' l=some (.lst ((arL h w o z).map V.int))->Q (.ref l) H'
def rQ(K:Frag):TS:=
 (tRet (tComp [none,none,some 2] (iList K (tCall (gD K) [] E0 (tCons (tVar 0) (tCons (tVar 1) tNil)))) (gName 1) (tTest (tOp (cNe K) (tVar 1) (tVar 2))) (tVar 1)))
theorem Er(h:rP K vs H Q E):rQ K (eD9 Q) (start ["floor","middle","cell"] vs) H:=by
 obtain⟨a,h,w,g,o,z,rfl,ha,F,q⟩:=h;have w0:=F.w0;have w1:=F.w1;show rQ K _ [some (.ref a),some (.int o),some (.int z)] H;unfold rQ;rw[ca,br];symm;refine⟨a,h,w,g,o,rfl,ha,by omega,by omega,fun l H1 s1 hl el=>?_⟩;have hb:=uM h w o;refine⟨l,rfl,⟨_,LH el⟩,?_⟩;refine aT (xs:=besL h w o) (fun x=>!decide (x=z)) (fun x=>x) (by omega) (LH el) ?_ ?_ ?_
 . intro y H2 R hy s2 k2;show tTest _ [none,some (.int y),some (.int z)] H2 R;symm;exact k2 _ (Lr _)
 . intro y H2 Q2 hy hb s2 k2;show tVar 1 [none,some (.int y),some (.int z)] H2 Q2;symm;exact k2 _ (Lr _)
 . intro T H2 hT s2 eT;rw[MM] at eT;exact q T H2 (s1.trans s2) (s1.free hT) eT
def mayN(Lb:List Int)(m:Int)(cs:List Int):Nat:=((sgAt Lb cs).filter fun k=>stB k m).length
def onlN(Lb:List Int)(m:Int)(cs:List Int):Nat:=((sgAt Lb cs).filter fun k=>decide (woI k m=0)).length
def turnB(h w m:Int)(Lb:List Int)(z s:Int)(ms:List Int):Bool:=
 if ms=[] then decide (s=m)&&(decide ((mayN Lb m (besL h w z):Int)<2)||decide ((2:Int) < (onlN Lb m (besL h w z):Int)))
 else decide (ms.length=1)&&(decide (ms.getD 0 0∈besL h w z)&&(decide (woI (Lb.getD (ms.getD 0 0).toNat 0) m=0)&&
  (if s=m then decide ((2:Int)<=(onlN Lb m (arL h w (ms.getD 0 0) z):Int)) else decide ((mayN Lb m (arL h w (ms.getD 0 0) z):Int)<2))))
def jX(K:Frag)(c:RCl RK):Sp:=fun vs H Q _=>∃ k f r p A M ws cs Lb ms n m z s h w g,vs=[.ref f,.ref r,.ref A,.int z,.int s,.ref M]/\IsFl H f h w g/\FlOk h w g/\IsRule H c k r p ws cs n m/\Lb.length=(h*w).toNat/\H A=some (.lst (Lb.map V.int))/\H M=some (.lst (ms.map V.int))/\m<=1000/\0<=z/\z<h*w/\∀ H',Same H H'->Q (.bl (turnB h w m Lb z s ms)) H'
def gM(K:Frag)(c:RCl RK):TS:=
 (tSeq (tAsg (tCall (cr K) [] E0 (tCons (tVar 2) (tCons (tCall (rP K) [] E0 (tCons (tVar 0) (tCons (tOp cIx (tVar 5) (tC (.int 0))) (tCons (tVar 3) tNil)))) tNil))) (gName 7))
  (tSeq (tIfS (tTest (tOp (cEq K) (tVar 4) (tVar 6))) (tRet (tOp (cCmp fun i j=>decide (j<=i)) (tCall (fu K) [] E0 (tCons (tVar 7) (tCons (tVar 6) tNil))) (tC (.int 2)))) tNext)
  (tRet (tOp (cCmp fun i j=>decide (i<j)) (tCall (f7 K) [] E0 (tCons (tVar 7) (tCons (tVar 6) tNil))) (tC (.int 2))))))
def gN(K:Frag)(c:RCl RK):TS:=
 (tSeq (tIfS (tOr (tTest (tOp (cNe K) (tCB kLen (tCons (tVar 5) tNil)) (tC (.int 1)))) (tOr (tTest (tOp (cIn K true) (tOp cIx (tVar 5) (tC (.int 0))) (tCall (gD K) [] E0 (tCons (tVar 0) (tCons (tVar 3) tNil))))) (tNot (tB (tCall (f6 K) [] E0 (tCons (tOp cIx (tVar 2) (tOp cIx (tVar 5) (tC (.int 0)))) (tCons (tVar 6) tNil))))))) (tRet (tC (.bl false))) tNext)
  (gM K c))
def jY(K:Frag)(c:RCl RK):TS:=
 (tSeq (tAsg (aJ c c.ok "sign" (kA K c) (tVar 1) tNil) (gName 6))
  (tSeq (tIfS (tTest (tOp (cEq K) (tVar 5) (tLst tNil))) (tSeq (tAsg (tCall (cr K) [] E0 (tCons (tVar 2) (tCons (tCall (gD K) [] E0 (tCons (tVar 0) (tCons (tVar 3) tNil))) tNil))) (gName 7))
  (tRet (tAndV (tOp (cEq K) (tVar 4) (tVar 6)) (tOrV (tOp (cCmp fun i j=>decide (i<j)) (tCall (f7 K) [] E0 (tCons (tVar 7) (tCons (tVar 6) tNil))) (tC (.int 2))) (tOp (cCmp fun i j=>decide (j<i)) (tCall (fu K) [] E0 (tCons (tVar 7) (tCons (tVar 6) tNil))) (tC (.int 2))))))) tNext)
  (gN K c)))
theorem rR {f:Addr} (hf:IsFl H f h w g) (F:FlOk h w g) (hml:Lb.length=(h*w).toNat) (hA:H A=some (.lst (Lb.map V.int))) (hM:H M=some (.lst (ms.map V.int))) (hl:ms.length=1) (hm:m<=1000) (z0:0<=z) (z1:z<h*w) (ho:ms.getD 0 0∈besL h w z)
  (q:∀ H',Same H H'->Q (.bl (if s=m then decide ((2:Int)<=(onlN Lb m (arL h w (ms.getD 0 0) z):Int)) else decide ((mayN Lb m (arL h w (ms.getD 0 0) z):Int)<2))) H'):
  gM K c (eD9 Q) [some (.ref f),some v1,some (.ref A),some (.int z),some (.int s),some (.ref M),some (.int m),none] H:=by
 have oin:=(wk F z0 z1).2 _ ho;have bin:=Ae (n:=Lb.length) F oin.1 oin.2 hml;have hin:aP (arL h w (ms.getD 0 0) z) Lb.length:=⟨Lz (LO _ _) bin.1,fun x hx=>bin.2 x (L4.mp hx).1⟩;unfold gM;symm;refine ixI hM (by decide) (by omega) ?_;rw[show(0:Int).toNat=0 from rfl];symm;refine⟨f,h,w,g,_,z,rfl,hf,F,fun R H1 s1 hR eR=>?_⟩;symm;refine⟨A,R,Lb,_,rfl,s1 _ _ hA,eR,hin,fun B H3 s3 hB eB=>?_⟩;have Lj:(sgAt Lb (arL h w (ms.getD 0 0) z)).length<=63:=by unfold sgAt;rw[Lp];exact hin.1
 symm;rw[aB];symm;by_cases hs:s=m
 . rw[Lv hs];rw[LX hs] at q;symm;refine⟨B,_,_,rfl,eB,Lj,by omega,fun H4 s4=>?_⟩;symm;exact q _ ((s1.trans s3).trans s4)
 . rw[Ls hs];rw[LU hs] at q;symm;refine⟨B,_,_,rfl,eB,Lj,fun H4 s4=>?_⟩;symm;exact q _ ((s1.trans s3).trans s4)
theorem rS {f:Addr} (hf:IsFl H f h w g) (F:FlOk h w g) (hml:Lb.length=(h*w).toNat) (hA:H A=some (.lst (Lb.map V.int))) (hM:H M=some (.lst (ms.map V.int))) (hm:m<=1000) (z0:0<=z) (z1:z<h*w)
  (q:∀ H',Same H H'->Q (.bl (decide (ms.length=1)&&(decide (ms.getD 0 0∈besL h w z)&&(decide (woI (Lb.getD (ms.getD 0 0).toNat 0) m=0)&&(if s=m then decide ((2:Int)<=(onlN Lb m (arL h w (ms.getD 0 0) z):Int)) else decide ((mayN Lb m (arL h w (ms.getD 0 0) z):Int)<2)))))) H'):
  gN K c (eD9 Q) [some (.ref f),some v1,some (.ref A),some (.int z),some (.int s),some (.ref M),some (.int m),none] H:=by
 have w0:=F.w0;have w1:=F.w1;unfold gN;rw[ay,aB];symm;rw[aN hM,Lp];symm
 have e1:decide ((ms.length:Int)=1)=decide (ms.length=1):=by
  rw[LV,Lw,Lw];omega
 rw[e1]
 cases hb:decide (ms.length=1) with
 | false=>
  rw[hb,LA] at q;symm;exact q _ (Lr _)
 | true=>
  rw[hb,LD] at q;have hl:=L9 hb;symm;refine ixI hM (by decide) (by omega) ?_;rw[show(0:Int).toNat=0 from rfl];symm;refine⟨f,h,w,g,z,rfl,hf,by omega,by omega,fun R H1 s1 hR eR=>?_⟩;dsimp only;rw[jq eR]
  cases hb2:decide (ms.getD 0 0∈besL h w z) with
  | false=>
   rw[hb2,LA] at q;refine⟨true,rfl,iteT ?_⟩;symm;exact q _ s1
  | true=>
   rw[hb2,LD] at q;have ho:=L9 hb2;have oin:=(wk F z0 z1).2 _ ho;refine⟨false,rfl,iteF ?_⟩;symm;refine ixI (s1 _ _ hM) (by decide) (by omega) ?_;rw[show(0:Int).toNat=0 from rfl];symm;refine ixI (s1 _ _ hA) (by omega) (by omega) ?_;symm;refine⟨_,m,rfl,by omega,?_⟩
   cases hb3:decide (woI (Lb.getD (ms.getD 0 0).toNat 0) m=0) with
   | false=>
    rw[hb3,LA] at q;refine⟨false,rfl,iteT ?_⟩;symm;exact q _ s1
   | true=>
    rw[hb3,LD] at q;refine⟨true,rfl,iteF ?_⟩;exact rR (s1 _ _ hf) F hml (s1 _ _ hA) (s1 _ _ hM) hl hm z0 z1 ho fun H' s2=>q H' (s1.trans s2)
theorem wm(h:jX K c vs H Q E):jY K c (eD9 Q) (start ["floor","rule","masks","cell","sign","more","mark","some"] vs) H:=by
 obtain⟨k,f,r,p,A,M,ws,cs,Lb,ms,n,m,z,s,h,w,g,rfl,hf,F,x,hml,hA,hM,hm,z0,z1,q⟩:=h;obtain⟨dx,W,C,h1,h2,h3⟩:=x.ex;have w0:=F.w0;have w1:=F.w1;show jY K c _ [some (.ref f),some (.ref r),some (.ref A),some (.int z),some (.int s),some (.ref M),none,none] H;unfold jY;rw[ay,bI];refine methE (k:=k) rfl x.ok h1 (by rfl) ?_;symm;refine⟨r,p,ws,cs,n,m,rfl,x,?_⟩;symm;rw[aB];symm;refine⟨aW (by decide),fun Z hZ=>?_⟩;obtain⟨H1,z9,s1,eZ⟩:∃ z,upd H Z (.lst [])=z/\Same H z/\z Z=some (.lst (([]:List Int).map V.int)):=aS _ hZ;rw[z9];refine lU (s1 _ _ hM) eZ ?_;unfold turnB at q;by_cases hms:ms=[]
 . rw[LX hms] at q;rw[Lv hms];refine⟨true,rfl,?_⟩;symm;refine⟨f,h,w,g,z,rfl,s1 _ _ hf,by omega,by omega,fun R H2 s2 hR eR=>?_⟩;have bin:=Ae (n:=Lb.length) F z0 z1 hml;symm;refine⟨A,R,Lb,_,rfl,(s1.trans s2) _ _ hA,eR,bin,fun B H3 s3 hB eB=>?_⟩;have Lj:(sgAt Lb (besL h w z)).length<=63:=by unfold sgAt;rw[Lp];exact bin.1
   have s13:=(s1.trans s2).trans s3;symm
   cases hb:decide (s=m) with
   | false=>
    rw[hb,LA] at q;symm;exact q _ s13
   | true=>
    rw[hb,LD] at q;symm;refine⟨B,_,_,rfl,eB,Lj,fun H4 s4=>?_⟩;symm;have e1:decide ((((sgAt Lb (besL h w z)).filter fun k=>stB k m).length:Int)<2)=decide ((mayN Lb m (besL h w z):Int)<2):=rfl;rw[e1]
    cases hb2:decide ((mayN Lb m (besL h w z):Int)<2) with
    | true=>
     rw[hb2,Ny] at q;symm;exact q _ (s13.trans s4)
    | false=>
     rw[hb2,MK] at q;symm;refine⟨B,_,_,rfl,s4 _ _ eB,Lj,by omega,fun H5 s5=>?_⟩;symm;exact q _ ((s13.trans s4).trans s5)
 . rw[LU hms] at q;rw[Ls hms];refine⟨false,rfl,?_⟩;symm;exact rS (s1 _ _ hf) F hml (s1 _ _ hA) (s1 _ _ hM) hm z0 z1 fun H' s2=>q H' (s1.trans s2)
theorem Af(t:TK):decide (tkC t=[114,101,97,99,104])=decide (t=.reach):=by cases t <;> decide
theorem Es{k:RK}(h:goesB .turn k=true):sgnK k=true:=by cases k <;> first | rfl | cases h
noncomputable def Et (h w:Int) (t:TK) (x:RR) (Lb:List Int) (z s:Int) (ms:List Int):Bool:=match t with
 | .square=>squB h w x.m Lb z s ms
 | .reach=>reaB h w x.cs x.m Lb z s ms
 | _=>turnB h w x.m Lb z s ms
noncomputable def Ag (h w:Int) (Ld:List RR) (Lb:List Int) (t:TK) (r z s:Int) (ms:List Int):Bool:=match Ld[r.toNat]? with
 | none=>false
 | some x=>Et h w t x Lb z s ms
abbrev Hq(t:TK):Prop:=t=.square\/t=.reach\/t=.turn
def eE(K:Frag)(c:RCl RK)(d:RCl PzK):Sp:=fun vs H Q _=>∃ P L G A T M h w g Ld cl Lb t r z s ms,vs=[.ref P,.ref A,.ref T]/\Asks H c d P L G A T M h w g Ld cl Lb t r z s ms/\Hq t/\formB h w g Ld t r z s=true/\∀ H',Same H H'->Q (.bl (Ag h w Ld Lb t r z s ms)) H'
def eI(K:Frag)(c:RCl RK)(d:RCl PzK):TS:=
 (tSeq (tAsg (aJ d d.ok "place" (iV K c d) (tVar 0) tNil) (gName 3))
  (tSeq (tAsg (tOp cIx (aJ d d.ok "rules" (kC K c d) (tVar 0) tNil) (tOp cIx (tVar 2) (tC (.int 1)))) (gName 4))
  (tSeq (tIfS (tTest (tOp (cEq K) (tOp cIx (tVar 2) (tC (.int 0))) (tC (.str (tx [115,113,117,97,114,101]))))) (tRet (tCall (ib K c) [] E0 (tCons (tVar 3) (tCons (tVar 4) (tCons (tVar 1) (tCons (tOp cIx (tVar 2) (tC (.int 2))) (tCons (tOp cIx (tVar 2) (tC (.int 3))) (tCons (tOp cIx (tVar 2) (tC (.int 4))) tNil)))))))) tNext)
  (tSeq (tIfS (tTest (tOp (cEq K) (tOp cIx (tVar 2) (tC (.int 0))) (tC (.str (tx [114,101,97,99,104]))))) (tRet (tCall (i8 K c) [] E0 (tCons (tVar 3) (tCons (tVar 4) (tCons (tVar 1) (tCons (tOp cIx (tVar 2) (tC (.int 2))) (tCons (tOp cIx (tVar 2) (tC (.int 3))) (tCons (tOp cIx (tVar 2) (tC (.int 4))) tNil)))))))) tNext)
  (tRet (tCall (jX K c) [] E0 (tCons (tVar 3) (tCons (tVar 4) (tCons (tVar 1) (tCons (tOp cIx (tVar 2) (tC (.int 2))) (tCons (tOp cIx (tVar 2) (tC (.int 3))) (tCons (tOp cIx (tVar 2) (tC (.int 4))) tNil))))))))))))
variable{d:RCl PzK}
theorem oI(h:eE K c d vs H Q E):eI K c d (eD9 Q) (start ["puzzle","masks","thought","floor","rule"] vs) H:=by
 obtain⟨P,L,G,A,T,M,h,w,g,Ld,cl,Lb,t,r,z,s,ms,rfl,X,ht,f,q⟩:=h;obtain⟨dx,p,rs,h1,h2,h3⟩:=X.P.ex;obtain⟨z0,z1,s0,s1',Lo⟩:=nG f;have hg:=X.P.R.F.g1;have hnc:t≠.clue:=by rcases ht with rfl | rfl | rfl <;> decide
 obtain⟨r0,y,ey,hgo,hz⟩:=xu hnc Lo;have O:=X.P.R.ok y (LB ey)
 have q2:∀ H',Same H H'->Q (.bl (Et h w t y Lb z s ms)) H':=fun H' s'=>by
  have q1:=q H' s';unfold Ag at q1;rw[ey] at q1;exact q1
 show eI K c d _ [some (.ref P),some (.ref A),some (.ref T),none,none] H;unfold eI;rw[ay,bI];refine methE (k:=.Puzzle) rfl X.P.ok h1 (by rfl) ?_;symm;refine⟨P,L,G,h,w,g,Ld,cl,rfl,X.P,fun p3 hp3=>?_⟩;symm;refine methE (k:=.Puzzle) rfl X.P.ok h1 (by rfl) ?_;symm;refine⟨P,L,G,h,w,g,Ld,cl,rfl,X.P,fun l p2 rs2 hl hp2 Y=>?_⟩;have s2:Same H (upd H l (.lst (rs2.map V.ref))):=(Lr H).laid hl;generalize upd H l (.lst (rs2.map V.ref))=H1 at*;have hlt:=(Lx.mp ey).1;have Lj:=Y.len;have ea:rs2[r.toNat]? =some rs2[r.toNat]:=Lq (by omega);dsimp only;refine ixT (s2 _ _ X.T.T) (v:=V.int r) rfl ?_;refine ixL Y.top (p0 r0 ea) ?_;symm;rw[aB];symm;refine ixT (s2 _ _ X.T.T) (v:=V.str (tx (tkC t))) rfl ?_;symm;rw[c6,Eh];rcases ht with rfl | rfl | rfl
 . rw[Lv rfl];refine iteT ?_;symm;refine ixT (s2 _ _ X.T.T) (v:=V.int z) rfl ?_;symm;refine ixT (s2 _ _ X.T.T) (v:=V.int s) rfl ?_;symm;refine ixT (s2 _ _ X.T.T) (v:=V.ref M) rfl ?_;symm;exact⟨_,p3,_,p2,A,M,_,y.cs,Lb,ms,_,_,z,s,h,w,g,rfl,s2 _ _ hp3,X.P.R.F,Y.at_ _ _ _ ea ey,X.n,s2 _ _ X.A,s2 _ _ X.T.M,by omega,fun H' s3=>q2 H' (s2.trans s3)⟩
 . have ym:=(O.m0 (Ep hgo)).2;rw[Ls (show ¬ TK.reach=TK.square by decide)];refine iteF ?_;rw[aB];symm;refine ixT (s2 _ _ X.T.T) (v:=V.str (tx (tkC .reach))) rfl ?_;symm;rw[c6,Af,Lv rfl];refine iteT ?_;symm;refine ixT (s2 _ _ X.T.T) (v:=V.int z) rfl ?_;symm;refine ixT (s2 _ _ X.T.T) (v:=V.int s) rfl ?_;symm;refine ixT (s2 _ _ X.T.T) (v:=V.ref M) rfl ?_;symm;have hin:aP y.cs Lb.length:=by rw[X.n];exact RR.cin22 O X.P.R.F
   exact⟨_,p3,_,p2,A,M,_,y.cs,Lb,ms,_,_,z,s,h,w,g,rfl,s2 _ _ hp3,X.P.R.F,Y.at_ _ _ _ ea ey,hin,RR.len26 O X.P.R.F,X.n,s2 _ _ X.A,s2 _ _ X.T.M,X.T.n,by omega,fun H' s3=>q2 H' (s2.trans s3)⟩
 . have ym:=(O.m0 (Es hgo)).2;rw[Ls (show ¬ TK.turn=TK.square by decide)];refine iteF ?_;rw[aB];symm;refine ixT (s2 _ _ X.T.T) (v:=V.str (tx (tkC .turn))) rfl ?_;symm;rw[c6,Af,Ls (show ¬ TK.turn=TK.reach by decide)];refine iteF ?_;symm;refine ixT (s2 _ _ X.T.T) (v:=V.int z) rfl ?_;symm;refine ixT (s2 _ _ X.T.T) (v:=V.int s) rfl ?_;symm;refine ixT (s2 _ _ X.T.T) (v:=V.ref M) rfl ?_;symm;exact⟨_,p3,_,p2,A,M,_,y.cs,Lb,ms,_,_,z,s,h,w,g,rfl,s2 _ _ hp3,X.P.R.F,Y.at_ _ _ _ ea ey,X.n,s2 _ _ X.A,s2 _ _ X.T.M,by omega,z0,z1,fun H' s3=>q2 H' (s2.trans s3)⟩
theorem yo:∀(rs:List (List Nat)),(∀ r∈rs,r.length<=2)->(catL 32 rs).length<=3*rs.length
 | [],_=>by simp[catL]
 | [x],h=>by have:=h x LQ;simp[catL];omega
 | x::y::r,h=>by
  rw[d8 (by simp)];have h1:=h x LQ;have h2:=yo (y::r) fun z hz=>h z (LI _ hz);simp only[LC,L0] at*;omega
theorem kX{cs:List Nat}(h:cs.length<=16):(catL 32 (cs.map numC)).length<=48:=by
 have:=yo (cs.map numC) fun r hr=>by obtain⟨x,_,rfl⟩:=LK.mp hr;exact fY
 rw[Lp] at this;omega
theorem CF{k:RK}{m:Nat}{ns:List Nat}(F:FlOk h w g)(ne:ns≠[])(lt:∀ c∈ns,(c:Int)<h*w)(nd:ns.Nodup)(len:ns.length<=16)(hk:allK k=false)(k0:k≠.Rule)(n0:n<=99)(nz:numK k=false->n=0)(m0:sgnK k=true->1<=(m:Int)/\(m:Int)<=g)(mz:sgnK k=false->m=0):
  RR.Ok ⟨k,n,m,ns,ns.map fun(n:Nat)=>(n:Int)⟩ h w g:=by
 have m16:=F.m;refine⟨k0,n0,nz,m0,mz,⟨fun _=>⟨ne,len,lt,nd,rfl⟩,fun e=>?_⟩,fun x hx=>?_,len⟩
 . rw[show allK k=false from hk] at e;cases e
 . have:=lt x hx;omega
theorem strL{a b:List Nat}(h1:a.length<=400)(h2:b.length<=400)(q:Q (.str (tx (a++b))) H):cAdd (.str (tx a)) (.str (tx b)) H Q:=by
 rw[cj,mx];exact⟨by rw[fk,fk];exact aW (by omega),q⟩
def dTh(t:TK)(r z s:Int)(ms:List Int):PyData:=.tuple [.str (tx (tkC t)),.int r,.int z,.int s,.list (ms.map PyData.int)]
theorem Hr(t:TK)(r z s:Int)(ms:List Int):PyData.eqv (dTh t r z s ms) (dTh t r z s ms)=true:=by
 unfold dTh;rw[PyData.eqv,PyData.eqvAll,PyData.eqvAll,PyData.eqvAll,PyData.eqvAll,PyData.eqvAll,PyData.eqvAll,yN,xw,xw,xw,PyData.eqv];simp
variable{t:TK}
theorem HW{T:Addr}{r:Int}(x:IsTh H T M t r z s ms):DV K H (.ref T) (dTh t r z s ms):=
 .tup (OQ x.T) (.cons (.str _) (.cons (.int _) (.cons (.int _) (.cons (.int _) (.cons (.lst (LH x.M) (.ints ms)) .nil)))))
def gO(K:Frag):Sp:=fun vs H Q _=>∃ p h w g c,vs=[.ref p,.int c]/\IsFl H p h w g/\FlOk h w g/\∀ l H',Same H H'->H l=none->H' l=some (.lst ((nearL h w c).map V.int))->Q (.ref l) H'
def tnear(K:Frag):TS:=
 (tIfS (tAnd (tTest (vm (cCmp fun i j=>decide (i<=j)) (cCmp fun i j=>decide (i<j)) (tC (.int 0)) (tVar 5) (tOp cIx (tVar 0) (tC (.int 0))))) (tTest (vm (cCmp fun i j=>decide (i<=j)) (cCmp fun i j=>decide (i<j)) (tC (.int 0)) (tVar 6) (tOp cIx (tVar 0) (tC (.int 1)))))) (tDrop (tBM K "list" bD (tVar 4) (tCons (tOp cAdd (tOp cMul (tVar 5) (tOp cIx (tVar 0) (tC (.int 1)))) (tVar 6)) tNil))) tNext)
def mT(K:Frag):TS:=
 (tSeq (tAsg (tCB tH (tCons (tVar 1) (tCons (tOp cIx (tVar 0) (tC (.int 1))) tNil))) (gTup K 2 (gCons (gName 2) (gCons (gName 3) gNil))))
  (tSeq (tAsg (tLst tNil) (gName 4))
  (tSeq (tFor (iList K (tLst (tCons (tTup (tCons (tOp cSub (tVar 2) (tC (.int 1))) (tCons (tVar 3) tNil))) (tCons (tTup (tCons (tVar 2) (tCons (tOp cSub (tVar 3) (tC (.int 1))) tNil))) (tCons (tTup (tCons (tVar 2) (tCons (tOp cAdd (tVar 3) (tC (.int 1))) tNil))) (tCons (tTup (tCons (tOp cAdd (tVar 2) (tC (.int 1))) (tCons (tVar 3) tNil))) tNil)))))) (gTup K 2 (gCons (gName 5) (gCons (gName 6) gNil)))
  (tnear K))
  (tRet (tVar 4)))))
theorem nK {D:Ends} {L t:Addr} {d r:Int} {found:List Int} {v1 v2 v3 v5 v6:Option V} (hp:IsFl H p h w g) (w1:w<=6) (w0:1<=w) (et:H t=some (.tup [.int d,.int r])) (eL:H L=some (.lst (found.map V.int))) (hn:found.length<=100)
  (k:∀ H',H' L=some (.lst ((found++nearS h w d r).map V.int))->(∀ b,b≠L->H' b=H b)->D.nx [some (.ref p),v1,v2,v3,some (.ref L),some (.int d),some (.int r)] H'):
  gTup K 2 (gCons (gName 5) (gCons (gName 6) gNil)) (V.ref t) [some (.ref p),v1,v2,v3,some (.ref L),v5,v6] H fun σ2 H2=>tnear K D σ2 H2:=by
 refine rz et rfl ?_;rw[p6];show tnear K D [some (.ref p),v1,v2,v3,some (.ref L),some (.int d),some (.int r)] H;unfold tnear;refine rq (b:=(decide (0<=d)&&decide (d<h))&&(decide (0<=r)&&decide (r<w))) (v:=d*w+r) (l:=L) (i:=4) rfl ?_ eL (by omega) ?_ ?_
 . intro R hR;unfold vm;symm
   cases hb:decide (0<=d) with
   | false=>
    rw[hb,LA,LA] at hR;symm;exact hR
   | true=>
    rw[hb,LD] at hR;symm;refine ixT hp (v:=V.int h) rfl ?_;symm
    cases hb2:decide (d<h) with
    | false=>
     rw[hb2,LA] at hR;symm;exact hR
    | true=>
     rw[hb2,LD] at hR;symm
     cases hb3:decide (0<=r) with
     | false=>
      rw[hb3,LA] at hR;symm;exact hR
     | true=>
      rw[hb3,LD] at hR;symm;refine ixT hp (v:=V.int w) rfl ?_;symm;exact hR
 . intro Q hQ;symm;refine ixT hp (v:=V.int w) rfl ?_;symm;exact⟨.inr ⟨by omega,by omega⟩,hQ⟩
 . intro H' e1 e2;refine k H' ?_ e2;rw[e1];rfl
theorem qq(h w c:Int){i:Nat}{d r:Int}(hi:(nearP w c)[i]? =some (d,r)):((nearP w c).take (i+1)).flatMap (fun p=>nearS h w p.1 p.2)=((nearP w c).take i).flatMap (fun p=>nearS h w p.1 p.2)++nearS h w d r:=by
 rw[List.take_add_one,hi,List.flatMap_append];simp
theorem Ah(h:gO K vs H Q E):mT K (eD9 Q) (start ["_law_floor_here","_law_cell","_law_row","_law_column","_law_found","_law_down","_law_right"] vs) H:=by
 obtain⟨p,h,w,g,c,rfl,hp,F,q⟩:=h;obtain⟨h0,h1,w0,w1,m16,g0,g1⟩:=id F;show mT K _ [some (.ref p),some (.int c),none,none,none,none,none] H;unfold mT;symm;refine ixT hp (v:=V.int w) rfl ?_;symm;rw[Fl];refine⟨⟨by omega,by omega⟩,fun T hT=>?_⟩;obtain⟨H1,z9,s1,eT⟩:=aS (.tup [.int (c/w),.int (c%w)]) hT;rw[z9];refine rz eT rfl ?_;rw[p6];symm;refine⟨aW (by decide),fun L hL=>?_⟩;have eL:(upd H1 L (.lst [])) L=some (.lst (([]:List Int).map V.int)):=aj;have sL:Same H1 (upd H1 L (.lst [])):=(Lr H1).laid hL;generalize upd H1 L (.lst [])=H2 at*;refine⟨lnR rfl,fun t1 i1=>?_⟩;obtain⟨H3,z9,k1,e1⟩:=aS (.tup [V.int (c/w-1),V.int (c%w)]) i1;rw[z9];refine⟨lnR rfl,fun t2 i2=>?_⟩;obtain⟨H4,z9,k2,e2⟩:=aS (.tup [V.int (c/w),V.int (c%w-1)]) i2;rw[z9];refine⟨lnR rfl,fun t3 i3=>?_⟩;obtain⟨H5,z9,k3,e3⟩:=aS (.tup [V.int (c/w),V.int (c%w+1)]) i3;rw[z9];refine⟨lnR rfl,fun t4 i4=>?_⟩;obtain⟨H6,z9,k4,e4⟩:=aS (.tup [V.int (c/w+1),V.int (c%w)]) i4;rw[z9];refine⟨lnR rfl,fun U iU=>?_⟩;obtain⟨H7,z9,k5,eU⟩:=aS (.lst [V.ref t1,V.ref t2,V.ref t3,V.ref t4]) iU;rw[z9];have f1:=k5 _ _ (k4 _ _ (k3 _ _ (k2 _ _ e1)));have f2:=k5 _ _ (k4 _ _ (k3 _ _ e2));have f3:=k5 _ _ (k4 _ _ e3);have f4:=k5 _ _ e4;have k26:=((k1.trans k2).trans k3).trans k4;have fL:=(k26.trans k5) _ _ eL;have hpL:p≠L:=fun e=>by have:=s1 _ _ hp;rw[e,hL] at this;cases this
 have n1:t1≠L:=fun e=>by rw[e,eL] at i1;cases i1
 have n2:t2≠L:=fun e=>by rw[e,k1 _ _ eL] at i2;cases i2
 have n3:t3≠L:=fun e=>by rw[e,(k1.trans k2) _ _ eL] at i3;cases i3
 have n4:t4≠L:=fun e=>by rw[e,((k1.trans k2).trans k3) _ _ eL] at i4;cases i4
 have nU:U≠L:=fun e=>by rw[e,k26 _ _ eL] at iU;cases iU
 have fp:=(k26.trans k5) _ _ (sL _ _ (s1 _ _ hp));have s17:=(sL.trans k26).trans k5;refine⟨⟨_,LH eU⟩,?_⟩;refine dn (K:=K) (xs:=[V.ref t1,V.ref t2,V.ref t3,V.ref t4]) (fun i σ H'=>∃(v5 v6:Option V),σ=[some (.ref p),some (.int c),some (.int (c/w)),some (.int (c%w)),some (.ref L),v5,v6]/\(∀ b,b≠L->H' b=H7 b)/\H' L=some (.lst ((((nearP w c).take i).flatMap fun p=>nearS h w p.1 p.2).map V.int))) ⟨none,none,rfl,fun _ _=>rfl,fL⟩ (fun i σ H' _ ⟨_,_,_,hk,_⟩=>LH (by rw[hk U nU];exact eU)) ?_ ?_
 . rintro i v σ H8 hv ⟨v5,v6,rfl,hk,e8⟩
   have hnl:((((nearP w c).take i).flatMap fun p=>nearS h w p.1 p.2)).length<=100:=by
    have:∀(ps:List (Int × Int)),(ps.flatMap fun p=>nearS h w p.1 p.2).length<=ps.length:=fun ps=>by
     induction ps with
     | nil=>exact LF _
     | cons a r ih=>
      rw[List.flatMap_cons,LC,L0];have:(nearS h w a.1 a.2).length<=1:=by unfold nearS;split <;> simp
      omega
    have:=this ((nearP w c).take i);rw[Mm] at this;have:(nearP w c).length=4:=rfl;omega
   have fp8:IsFl H8 p h w g:=by unfold IsFl;rw[hk p hpL];exact fp
   match i,hv,e8,hnl with
   | 0,hv,e8,hnl=>
    cases hv;exact nK fp8 w1 w0 (by rw[hk _ n1];exact f1) e8 hnl fun H' a1 a2=>⟨_,_,rfl,fun b hb=>(a2 b hb).trans (hk b hb),by rw[a1,qq h w c (i:=0) rfl]⟩
   | 1,hv,e8,hnl=>
    cases hv;exact nK fp8 w1 w0 (by rw[hk _ n2];exact f2) e8 hnl fun H' a1 a2=>⟨_,_,rfl,fun b hb=>(a2 b hb).trans (hk b hb),by rw[a1,qq h w c (i:=1) rfl]⟩
   | 2,hv,e8,hnl=>
    cases hv;exact nK fp8 w1 w0 (by rw[hk _ n3];exact f3) e8 hnl fun H' a1 a2=>⟨_,_,rfl,fun b hb=>(a2 b hb).trans (hk b hb),by rw[a1,qq h w c (i:=2) rfl]⟩
   | 3,hv,e8,hnl=>
    cases hv;exact nK fp8 w1 w0 (by rw[hk _ n4];exact f4) e8 hnl fun H' a1 a2=>⟨_,_,rfl,fun b hb=>(a2 b hb).trans (hk b hb),by rw[a1,qq h w c (i:=3) rfl]⟩
   | n+4,hv,_,_=>cases hv
 . rintro σ H8 ⟨v5,v6,rfl,hk,e8⟩;symm;refine q L H8 (fun b o e=>?_) (s1.free hL) e8;have hb:b≠L:=fun e'=>by rw[e'] at e;rw[s1 _ _ e] at hL;cases hL
   rw[hk b hb];exact s17 _ _ (s1 _ _ e)
noncomputable def Eu (h w:Int) (x:RR) (Lb:List Int) (t:TK) (z s:Int) (ms:List Int):Bool:=match t with
 | .count=>cntB x.cs x.n x.m Lb z s ms
 | .sum=>sumB x.cs x.n Lb z s ms
 | .step=>stepB x.cs Lb z s ms
 | _=>waysB x.k h w x.cs x.n x.m Lb z s ms
noncomputable def rT (h w:Int) (Ld:List RR) (Lb:List Int) (t:TK) (r z s:Int) (ms:List Int):Bool:=match Ld[r.toNat]? with
  | none=>false
  | some x=>Eu h w x Lb t z s ms
def eJ(K:Frag)(c:RCl RK)(d:RCl PzK):Sp:=fun vs H Q _=>∃ P L G A T M h w g Ld cl Lb t r z s ms,vs=[.ref P,.ref A,.ref T]/\Asks H c d P L G A T M h w g Ld cl Lb t r z s ms/\(t=.count\/t=.sum\/t=.ways)/\(∀ m∈Lb,0<=m/\m<64)/\formB h w g Ld t r z s=true/\∀ H',Same H H'->Q (.bl (rT h w Ld Lb t r z s ms)) H'
def eK(K:Frag)(c:RCl RK)(d:RCl PzK):TS:=
 (tSeq (tAsg (tOp cIx (aJ d d.ok "rules" (kC K c d) (tVar 0) tNil) (tOp cIx (tVar 2) (tC (.int 1)))) (gName 3))
  (tSeq (tIfS (tTest (tOp (cEq K) (tOp cIx (tVar 2) (tC (.int 0))) (tC (.str (tx [99,111,117,110,116]))))) (tRet (tCall (iY K c) [] E0 (tCons (tVar 3) (tCons (tVar 1) (tCons (tOp cIx (tVar 2) (tC (.int 2))) (tCons (tOp cIx (tVar 2) (tC (.int 3))) (tCons (tOp cIx (tVar 2) (tC (.int 4))) tNil))))))) tNext)
  (tSeq (tIfS (tTest (tOp (cEq K) (tOp cIx (tVar 2) (tC (.int 0))) (tC (.str (tx [115,117,109]))))) (tRet (tCall (kD K c) [] E0 (tCons (tVar 3) (tCons (tVar 1) (tCons (tOp cIx (tVar 2) (tC (.int 2))) (tCons (tOp cIx (tVar 2) (tC (.int 3))) (tCons (tOp cIx (tVar 2) (tC (.int 4))) tNil))))))) tNext)
  (tRet (tCall (jV K c) [] E0 (tCons (tVar 3) (tCons (tVar 1) (tCons (tOp cIx (tVar 2) (tC (.int 2))) (tCons (tOp cIx (tVar 2) (tC (.int 3))) (tCons (tOp cIx (tVar 2) (tC (.int 4))) tNil))))))))))
theorem oJ(h:eJ K c d vs H Q E):eK K c d (eD9 Q) (start ["puzzle","masks","thought","rule"] vs) H:=by
 obtain⟨P,L,G,A,T,M,h,w,g,Ld,cl,Lb,t,r,z,s,ms,rfl,X,ht,mo,f,q⟩:=h;obtain⟨dx,p,rs,h1,h2,h3⟩:=X.P.ex;obtain⟨z0,z1,s0,s1',Lo⟩:=nG f;have hg:=X.P.R.F.g1;have hmm:=X.P.R.F.m;obtain⟨r0,y,ey,hgo,hz⟩:=xu (by rcases ht with rfl | rfl | rfl <;> decide) Lo;have O:=X.P.R.ok y (LB ey);have hin:aP y.cs Lb.length:=by rw[X.n];exact RR.cin22 O X.P.R.F
 show eK K c d _ [some (.ref P),some (.ref A),some (.ref T),none] H;unfold eK;rw[ay,bI,fF];refine methE (k:=.Puzzle) rfl X.P.ok h1 (by rfl) ?_;symm;refine⟨P,L,G,h,w,g,Ld,cl,rfl,X.P,fun l p2 rs2 hl hp2 Y=>?_⟩;have s2:Same H (upd H l (.lst (rs2.map V.ref))):=(Lr H).laid hl;generalize upd H l (.lst (rs2.map V.ref))=H1 at*;have hlt:=(Lx.mp ey).1;have Lj:=Y.len;have ea:rs2[r.toNat]? =some rs2[r.toNat]:=Lq (by omega)
 have fin:∀ H',Same H1 H'->Q (.bl (Eu h w y Lb t z s ms)) H':=fun H' s3=>by
  have q1:=q H' (s2.trans s3);unfold rT at q1;rw[ey] at q1;exact q1
 dsimp only;refine ixT (s2 _ _ X.T.T) (v:=V.int r) rfl ?_;refine ixL Y.top (p0 r0 ea) ?_;symm;rw[aB];symm;refine ixT (s2 _ _ X.T.T) (v:=V.str (tx (tkC t))) rfl ?_;symm;rw[c6,Fm];rcases ht with rfl | rfl | rfl
 . rw[Lv rfl];refine iteT ?_;symm;refine ixT (s2 _ _ X.T.T) (v:=V.int z) rfl ?_;symm;refine ixT (s2 _ _ X.T.T) (v:=V.int s) rfl ?_;symm;refine ixT (s2 _ _ X.T.T) (v:=V.ref M) rfl ?_;symm;exact⟨_,_,p2,A,M,_,y.cs,Lb,ms,_,_,z,s,rfl,Y.at_ _ _ _ ea ey,hin,s2 _ _ X.A,s2 _ _ X.T.M,by omega,fin⟩
 . rw[Ls (by decide)];refine iteF ?_;rw[aB];symm;refine ixT (s2 _ _ X.T.T) (v:=V.str (tx (tkC .sum))) rfl ?_;symm;rw[c6,Ej,Lv rfl];refine iteT ?_;symm;refine ixT (s2 _ _ X.T.T) (v:=V.int z) rfl ?_;symm;refine ixT (s2 _ _ X.T.T) (v:=V.int s) rfl ?_;symm;refine ixT (s2 _ _ X.T.T) (v:=V.ref M) rfl ?_;symm;exact⟨_,_,p2,A,M,_,y.cs,Lb,ms,_,_,z,s,rfl,Y.at_ _ _ _ ea ey,hin,mo,s2 _ _ X.A,s2 _ _ X.T.M,fin⟩
 . rw[Ls (by decide)];refine iteF ?_;rw[aB];symm;refine ixT (s2 _ _ X.T.T) (v:=V.str (tx (tkC .ways))) rfl ?_;symm;rw[c6,Ej,Ls (by decide)];refine iteF ?_;symm;refine ixT (s2 _ _ X.T.T) (v:=V.int z) rfl ?_;symm;refine ixT (s2 _ _ X.T.T) (v:=V.int s) rfl ?_;symm;refine ixT (s2 _ _ X.T.T) (v:=V.ref M) rfl ?_;symm;exact⟨_,_,p2,A,M,_,y.cs,Lb,ms,_,_,z,s,h,w,g,rfl,Y.at_ _ _ _ ea ey,hp2,X.P.R.F,hin,by rw[X.n];omega,mo,by omega,by omega,s2 _ _ X.A,s2 _ _ X.T.M,fin⟩
noncomputable def strA (h w g:Int) (Ld:List RR) (cl Lb:List Int) (t:TK) (r z s:Int) (ms:List Int):Bool:=
 if lineK t then(if t=.step then rT h w Ld Lb t r z s ms else Ac g Ld cl Lb t r z s ms) else if nbrK t then rT h w Ld Lb t r z s ms else Ag h w Ld Lb t r z s ms
def gd(K:Frag)(c:RCl RK)(d:RCl PzK):Sp:=fun vs H Q _=>∃ P L G A T M h w g Ld cl Lb t r z s ms,vs=[.ref P,.ref A,.ref T]/\Asks H c d P L G A T M h w g Ld cl Lb t r z s ms/\lineK t=true/\(∀ m∈Lb,0<=m/\m<64)/\formB h w g Ld t r z s=true/\∀ H',Same H H'->Q (.bl (strA h w g Ld cl Lb t r z s ms)) H'
def ge(K:Frag)(c:RCl RK)(d:RCl PzK):TS:=
 (tSeq (tAsg (tOp cIx (tVar 2) (tC (.int 0))) (gName 3))
  (tSeq (tAsg (tOp cIx (tVar 2) (tC (.int 2))) (gName 4))
  (tSeq (tAsg (tOp cIx (tVar 2) (tC (.int 3))) (gName 5))
  (tSeq (tAsg (tOp cIx (tVar 2) (tC (.int 4))) (gName 6))
  (tSeq (tIfS (tTest (tOp (cEq K) (tVar 3) (tC (.str (tx [99,108,117,101]))))) (tRet (tCall (jH K) [] E0 (tCons (aJ d d.ok "clues" (uT K c d) (tVar 0) tNil) (tCons (tVar 4) (tCons (tVar 5) (tCons (tVar 6) tNil)))))) tNext)
  (tSeq (tAsg (tOp cIx (aJ d d.ok "rules" (kC K c d) (tVar 0) tNil) (tOp cIx (tVar 2) (tC (.int 1)))) (gName 7))
  (tSeq (tIfS (tTest (tOp (cEq K) (tVar 3) (tC (.str (tx [111,110,108,121]))))) (tRet (tCall (jJ K c) [] E0 (tCons (tVar 7) (tCons (tVar 1) (tCons (tVar 4) (tCons (tVar 5) (tCons (tVar 6) tNil))))))) tNext)
  (tSeq (tIfS (tTest (tOp (cEq K) (tVar 3) (tC (.str (tx [112,108,97,99,101]))))) (tRet (tCall (iW K c) [] E0 (tCons (aJ d d.ok "place" (iV K c d) (tVar 0) tNil) (tCons (tVar 7) (tCons (tVar 1) (tCons (tVar 4) (tCons (tVar 5) (tCons (tVar 6) tNil)))))))) tNext)
  (tSeq (tIfS (tTest (tOp (cEq K) (tVar 3) (tC (.str (tx [115,116,101,112]))))) (tRet (tCall (jO K c) [] E0 (tCons (tVar 7) (tCons (tVar 1) (tCons (tVar 4) (tCons (tVar 5) (tCons (tVar 6) tNil))))))) tNext)
  (tRet (tCall (jM K c) [] E0 (tCons (tVar 7) (tCons (tVar 1) (tCons (tVar 4) (tCons (tVar 5) (tCons (tVar 6) tNil))))))))))))))))
theorem qR(h:gd K c d vs H Q E):ge K c d (eD9 Q) (start ["puzzle","masks","thought","kind","cell","sign","more","rule"] vs) H:=by
 obtain⟨P,L,G,A,T,M,h,w,g,Ld,cl,Lb,t,r,z,s,ms,rfl,X,ht,mm,f,q⟩:=h;obtain⟨dx,p,rs,h1,h2,h3⟩:=X.P.ex;obtain⟨z0,z1,s0,s1',Lo⟩:=nG f;have hcl:=X.P.C.len;have hg:=X.P.R.F.g1;unfold strA at q;rw[ht,LX rfl] at q;show ge K c d _ [some (.ref P),some (.ref A),some (.ref T),none,none,none,none,none] H;unfold ge;symm;refine ixT X.T.T (v:=V.str (tx (tkC t))) rfl ?_;symm;refine ixT X.T.T (v:=V.int z) rfl ?_;symm;refine ixT X.T.T (v:=V.int s) rfl ?_;symm;refine ixT X.T.T (v:=V.ref M) rfl ?_;symm;rw[aB];symm;rw[c6,BU];by_cases hc:t=.clue
 . subst hc;rw[LU (by decide)] at q;rw[Lv rfl];refine iteT ?_;refine methE (k:=.Puzzle) rfl X.P.ok h1 (by rfl) ?_;symm;refine⟨P,L,G,h,w,g,Ld,cl,rfl,X.P,fun l hl=>?_⟩;have s2:Same H (upd H l (.lst (cl.map V.int))):=(Lr H).laid hl;exact⟨l,M,z,s,cl,ms,rfl,aj,z0,by omega,s2 _ _ X.T.M,fun H' s3=>q H' (s2.trans s3)⟩
 . rw[Ls hc];obtain⟨r0,y,ey,_,hz⟩:=xu hc Lo
   have q2:t≠.step->∀ H',Same H H'->Q (.bl (Ab g t y Lb z s ms)) H':=fun hn H' s'=>by
    have q1:=q H' s';rw[LU hn] at q1
    have e:Ac g Ld cl Lb t r z s ms=Ab g t y Lb z s ms:=by
     unfold Ac;cases t <;> first | exact absurd rfl hc | (dsimp only;rw[ey])
    rw[e] at q1;exact q1
   refine iteF ?_;refine methE (k:=.Puzzle) rfl X.P.ok h1 (by rfl) ?_;symm;refine⟨P,L,G,h,w,g,Ld,cl,rfl,X.P,fun l p2 rs2 hl hp2 Y=>?_⟩;have s2:Same H (upd H l (.lst (rs2.map V.ref))):=(Lr H).laid hl;generalize upd H l (.lst (rs2.map V.ref))=H1 at*;have hlt:=(Lx.mp ey).1;have Lj:=Y.len;have ea:rs2[r.toNat]? =some rs2[r.toNat]:=Lq (by omega);have O:=X.P.R.ok y (LB ey);have hin:aP y.cs Lb.length:=by rw[X.n];exact RR.cin22 O X.P.R.F
   dsimp only;refine ixT (s2 _ _ X.T.T) (v:=V.int r) rfl ?_;refine ixL Y.top (p0 r0 ea) ?_;symm;rw[aB];symm;rw[c6,F8];by_cases ho:t=.only
   . subst ho;rw[Lv rfl];refine iteT ?_;symm;exact⟨_,_,p2,A,M,_,y.cs,Lb,ms,_,_,z,s,rfl,Y.at_ _ _ _ ea ey,hin,s2 _ _ X.A,s2 _ _ X.T.M,by omega,fun H' s3=>q2 (by decide) H' (s2.trans s3)⟩
   . rw[Ls ho];refine iteF ?_;rw[aB];symm;rw[c6,Fk];by_cases hp:t=.place
     . subst hp;rw[Lv rfl];refine iteT ?_;refine methE (k:=.Puzzle) rfl X.P.ok (s2 _ _ h1) (by rfl) ?_;symm;refine⟨P,L,G,h,w,g,Ld,cl,rfl,X.P.same s2,fun p3 hp3=>?_⟩;symm;exact⟨_,p3,_,p2,A,M,_,y.cs,Lb,ms,_,_,z,s,h,w,g,rfl,hp3,Y.at_ _ _ _ ea ey,hin,s2 _ _ X.A,s2 _ _ X.T.M,fun H' s3=>q2 (by decide) H' (s2.trans s3)⟩
     . rw[Ls hp];refine iteF ?_;rw[aB];symm;rw[c6,Ga];by_cases hs:t=.step
       . subst hs;rw[Lv rfl];refine iteT ?_;symm;refine⟨_,_,p2,A,M,_,y.cs,Lb,ms,_,_,z,s,rfl,Y.at_ _ _ _ ea ey,hin,hz,mm,s2 _ _ X.A,s2 _ _ X.T.M,fun H' s3=>?_⟩;have q1:=q H' (s2.trans s3);rw[LX rfl] at q1;unfold rT at q1;rw[ey] at q1;exact q1
       . rw[Ls hs]
         have hpr:t=.pair:=by
          revert ht hc ho hp hs
          cases t <;> intro ht hc ho hp hs <;> first | rfl | exact absurd rfl hc | exact absurd rfl ho | exact absurd rfl hp | exact absurd rfl hs | cases ht
         subst hpr;refine iteF ?_;symm;exact⟨_,_,p2,A,M,_,y.cs,Lb,ms,_,_,z,s,rfl,Y.at_ _ _ _ ea ey,hin,mm,s2 _ _ X.A,s2 _ _ X.T.M,fun H' s3=>q2 (by decide) H' (s2.trans s3)⟩
def oK(K:Frag)(c:RCl RK)(d:RCl PzK):Sp:=fun vs H Q _=>∃ P L G A T M h w g Ld cl Lb t r z s ms,vs=[.ref P,.ref A,.ref T]/\Asks H c d P L G A T M h w g Ld cl Lb t r z s ms/\(∀ m∈Lb,0<=m/\m<64)/\formB h w g Ld t r z s=true/\∀ H',Same H H'->Q (.bl (strA h w g Ld cl Lb t r z s ms)) H'
def oM(K:Frag)(c:RCl RK)(d:RCl PzK):TS:=
 (tSeq (tIfS (tB (tInG iJ false (tOp cIx (tVar 2) (tC (.int 0))))) (tRet (tCall (gd K c d) [] E0 (tCons (tVar 0) (tCons (tVar 1) (tCons (tVar 2) tNil))))) tNext)
  (tSeq (tIfS (tB (tInG gn false (tOp cIx (tVar 2) (tC (.int 0))))) (tRet (tCall (eJ K c d) [] E0 (tCons (tVar 0) (tCons (tVar 1) (tCons (tVar 2) tNil))))) tNext)
  (tRet (tCall (eE K c d) [] E0 (tCons (tVar 0) (tCons (tVar 1) (tCons (tVar 2) tNil)))))))
theorem nbrA(h:nbrK t=true):t=.count\/t=.sum\/t=.ways:=by cases t <;> first | exact .inl rfl | exact .inr (.inl rfl) | exact .inr (.inr rfl) | cases h
theorem regA(h1:lineK t=false)(h2:nbrK t=false):Hq t:=by cases t <;> first | exact .inl rfl | exact .inr (.inl rfl) | exact .inr (.inr rfl) | (cases h1;done) | (cases h2;done)
theorem Bo(h:oK K c d vs H Q E):oM K c d (eD9 Q) (start ["puzzle","masks","thought"] vs) H:=by
 obtain⟨P,L,G,A,T,M,h,w,g,Ld,cl,Lb,t,r,z,s,ms,rfl,X,mm,f,q⟩:=h;show oM K c d _ [some (.ref P),some (.ref A),some (.ref T)] H;unfold oM;rw[ay,aB];symm;refine ixT X.T.T (v:=V.str (tx (tkC t))) rfl ?_;symm;rw[F5]
 cases e1:lineK t with
 | true=>
  refine iteT ?_;exact⟨P,L,G,A,T,M,h,w,g,Ld,cl,Lb,t,r,z,s,ms,rfl,X,e1,mm,f,q⟩
 | false=>
  unfold strA at q;rw[e1,LU Ly] at q;refine iteF ?_;rw[aB];symm;refine ixT X.T.T (v:=V.str (tx (tkC t))) rfl ?_;symm;rw[Hh]
  cases e2:nbrK t with
  | true=>
   rw[e2,LX rfl] at q;refine iteT ?_;exact⟨P,L,G,A,T,M,h,w,g,Ld,cl,Lb,t,r,z,s,ms,rfl,X,nbrA e2,mm,f,q⟩
  | false=>
   rw[e2,LU Ly] at q;refine iteF ?_;symm;exact⟨P,L,G,A,T,M,h,w,g,Ld,cl,Lb,t,r,z,s,ms,rfl,X,regA e1 e2,f,q⟩
noncomputable def alwA (h w g:Int) (Ld:List RR) (cl Lb:List Int) (t:TK) (r z s:Int) (ms:List Int):Bool:=formB h w g Ld t r z s&&strA h w g Ld cl Lb t r z s ms
def kY(K:Frag)(c:RCl RK)(d:RCl PzK):Sp:=fun vs H Q _=>∃ P L G A T M h w g Ld cl Lb t r z s ms,vs=[.ref P,.ref A,.ref T]/\Asks H c d P L G A T M h w g Ld cl Lb t r z s ms/\(∀ m∈Lb,0<=m/\m<64)/\∀ H',Same H H'->Q (.bl (alwA h w g Ld cl Lb t r z s ms)) H'
def oN(K:Frag)(c:RCl RK)(d:RCl PzK):TS:=
 (tRet (tAndV (tCall (mM K c d) [] E0 (tCons (tVar 0) (tCons (tVar 2) tNil))) (tCall (oK K c d) [] E0 (tCons (tVar 0) (tCons (tVar 1) (tCons (tVar 2) tNil))))))
theorem Bp(h:kY K c d vs H Q E):oN K c d (eD9 Q) (start ["puzzle","masks","thought"] vs) H:=by
 obtain⟨P,L,G,A,T,M,h,w,g,Ld,cl,Lb,t,r,z,s,ms,rfl,X,mm,q⟩:=h;show oN K c d _ [some (.ref P),some (.ref A),some (.ref T)] H;unfold oN;symm;refine⟨t,P,L,G,T,M,h,w,g,r,z,s,Ld,cl,ms,rfl,X.P,X.T,fun H1 s1=>?_⟩;unfold alwA at q
 cases hb:formB h w g Ld t r z s with
 | false=>
  rw[hb,LA] at q;exact⟨false,rfl,iteF (q _ s1)⟩
 | true=>
  rw[hb,LD] at q;refine⟨true,rfl,iteT ?_⟩;symm;exact⟨P,L,G,A,T,M,h,w,g,Ld,cl,Lb,t,r,z,s,ms,rfl,X.same s1,mm,hb,fun H' s2=>q H' (s1.trans s2)⟩
def stL(ms:List Int)(c s:Int):List Int:=(List.range ms.length).map fun(i:Nat)=>if (i:Int)=c then woI (ms.getD i 0) s else ms.getD i 0
def rV(K:Frag):Sp:=fun vs H Q _=>∃ p ms c s,vs=[.ref p,.int c,.int s]/\H p=some (.lst (ms.map V.int))/\ms.length<=900/\s<=100000/\∀ l H',Same H H'->H l=none->H' l=some (.lst ((stL ms c s).map V.int))->Q (.ref l) H'
def rW(K:Frag):TS:=
 (tRet (tComp [none,none,none,some 1,some 2] (iEnum K (tCons (tVar 0) tNil)) (gTup K 2 (gCons (gName 1) (gCons (gName 2) gNil))) tTrue (tIf (tTest (tOp (cEq K) (tVar 1) (tVar 3))) (tCall (l0 K) [] E0 (tCons (tVar 2) (tCons (tVar 4) tNil))) (tVar 2))))
variable{K:Frag}{H:Hp}
theorem Ev{vs:List V}{Q:VK}{E:XK}(h:rV K vs H Q E):rW K (eD9 Q) (start ["masks","cell","sign"] vs) H:=by
 obtain⟨p,ms,c,s,rfl,hp,hn,hs,k⟩:=h;show rW K _ [some (.ref p),some (.int c),some (.int s)] H;unfold rW;symm;refine⟨p,rfl,⟨_,LH hp⟩,?_⟩;refine vF (xs:=ms.map V.int) (fun _=>true) (fun i=>.int (if (i:Int)=c then woI (ms.getD i 0) s else ms.getD i 0)) (by rw[Lp];exact hn) (by decide) (LH hp) ?_ ?_ ?_
 . intro i x H1 R hx s1 k1;exact k1 _ (Lr _)
 . intro i x H1 Q1 hx hb s1 k1;obtain⟨m,hm,rfl⟩:=ba hx;have q:=k1 _ (Lr H1);rw[jf hm] at q;show tIf _ _ _ [none,some (.int i),some (.int m),some (.int c),some (.int s)] H1 Q1;symm;by_cases hc:(i:Int)=c
   . rw[LX hc] at q;rw[Lv hc];exact iteT ⟨m,s,rfl,hs,q⟩
   . rw[LU hc] at q;rw[Ls hc];exact iteF q
 . intro l H1 hl s1 el;refine k l H1 s1 hl ?_;rw[el,a9,Lp];unfold stL;rw[Mf];rfl
structure Tho where
 t:TK
 r:Int
 z:Int
 s:Int
 ms:List Int
structure Lk(H:Hp)(c:RCl RK)(d:RCl PzK)(P L G A:Addr)(h w g:Int)(Ld:List RR)(cl Lb:List Int):Prop where
 P:IsPz H c d P L G h w g Ld cl
 A:H A=some (.lst (Lb.map V.int))
 n:Lb.length=(h*w).toNat
 mm:∀ m∈Lb,0<=m/\m<2^g.toNat
variable{g:Int}
theorem zc(g0:1<=g)(g6:g<=6):(2:Int)^g.toNat<=64:=by
 have e:g=1\/g=2\/g=3\/g=4\/g=5\/g=6:=by omega
 rcases e with rfl | rfl | rfl | rfl | rfl | rfl <;> decide
structure IsBk(H:Hp)(l:Addr)(bs Ms:List Addr)(Li:List Tho):Prop where
 top:H l=some (.lst (bs.map V.ref))
 len:bs.length=Li.length
 lnM:Ms.length=Li.length
 nl:l∉Ms
 at_:∀(i:Nat) (b M:Addr) (th:Tho),bs[i]? =some b->Ms[i]? =some M->Li[i]? =some th->IsTh H b M th.t th.r th.z th.s th.ms
variable{l:Addr}{Ms:List Addr}{Li:List Tho}
theorem IsBk.same{H':Hp}{bs:List Addr}(x:IsBk H l bs Ms Li)(s:Same H H'):IsBk H' l bs Ms Li:=⟨s _ _ x.top,x.len,x.lnM,x.nl,fun i b M th h1 h2 h3=>(x.at_ i b M th h1 h2 h3).same s⟩
theorem IsBk.nil(h:H l=some (.lst [])):IsBk H l [] [] []:=⟨h,rfl,rfl,by simp,fun i b M th e _ _=>by simp at e⟩
variable{th:Tho}
theorem IsBk.app{H':Hp}{T M:Addr}{bs:List Addr}(x:IsBk H l bs Ms Li)(s:Same H H')(y:IsTh H' T M th.t th.r th.z th.s th.ms)(hM:M≠l):IsBk (upd H' l (.lst (bs.map V.ref++[V.ref T]))) l (bs++[T]) (Ms++[M]) (Li++[th]):=by
 have e:=s _ _ x.top;have up:∀{b N:Addr} {t:Tho},IsTh H' b N t.t t.r t.z t.s t.ms->N≠l->IsTh (upd H' l (.lst (bs.map V.ref++[V.ref T]))) b N t.t t.r t.z t.s t.ms:=fun z hn=>⟨by rw[ao (fun e'=>by have:=z.T;rw[e',e] at this;cases this)];exact z.T,by rw[ao hn];exact z.M,z.n⟩;have l1:=x.len;have l2:=x.lnM;refine⟨by rw[aj];simp,by simp[l1],by simp[l2],fun hm=>?_,fun i b N t h1 h2 h3=>?_⟩
 . rcases LR.mp hm with hm | hm
   . exact x.nl hm
   . exact hM (LE.mp hm).symm
 . by_cases hi:i<Li.length
   . rw[LT (by omega)] at h1;rw[LT (by omega)] at h2;rw[LT hi] at h3;exact up ((x.at_ i b N t h1 h2 h3).same s) fun e'=>x.nl (by rw[← e'];exact LB h2)
   . rw[L6 (by omega)] at h1 h2 h3;have i0:i-Li.length=0:=by have:=(Lx.mp h3).1;simp at this;omega
     rw[i0] at h3;rw[show i-bs.length=0 by omega] at h1;rw[show i-Ms.length=0 by omega] at h2;cases h1;cases h2;cases h3;exact up y hM
structure MkP(g:Int)(n:Nat)(ms:List Int):Prop where
 len:ms.length=n
 mm:∀ m∈ms,0<=m/\m<2^g.toNat
theorem Gg:((List.range 64).all fun m=>(List.range 6).all fun s=>decide (0<=woI (m:Int) (1+(s:Int))/\woI (m:Int) (1+(s:Int))<=m)&&((List.range 6).all fun x=>decide (x=s)||decide (stB (woI (m:Int) (1+(s:Int))) (1+(x:Int))=stB (m:Int) (1+(x:Int))))&&(!stB (m:Int) (1+(s:Int))||decide ((sgL (woI (m:Int) (1+(s:Int)))).length+1=(sgL (m:Int)).length)))=true:=by decide+kernel
variable{s:Int}
theorem Ew{m:Int}(m0:0<=m)(m1:m<64)(s0:1<=s)(s6:s<=6):(0<=woI m s/\woI m s<=m)/\(∀ x,1<=x->x<=6->x≠s->stB (woI m s) x=stB m x)/\(stB m s=true->(sgL (woI m s)).length+1=(sgL m).length):=by
 have t:=LM.mp (LM.mp Gg m.toNat (LL.mpr (by omega))) (s-1).toNat (LL.mpr (by omega));rw[show((m.toNat:Nat):Int)=m by omega,show 1+(((s-1).toNat:Nat):Int)=s by omega,Ma,Ma] at t;refine⟨L9 t.1.1,fun x x0 x6 ne=>?_,fun hs=>?_⟩
 . have:=LM.mp t.1.2 (x-1).toNat (LL.mpr (by omega));rw[show 1+(((x-1).toNat:Nat):Int)=x by omega,Ls (by omega),MK] at this;exact L9 this
 . have:=t.2;rw[hs,Nf,MK] at this;exact L9 this
variable{ms:List Int}
theorem Gh{z:Int}:(stL ms z s).length=ms.length:=by unfold stL;rw[Lp,Mp]
theorem eP{k:Nat}(hk:k<ms.length):ms.getD k 0∈ms:=by rw[List.getD,Lq hk];exact L1 _
theorem MkP.stL{z:Int}{n:Nat}(X:MkP g n ms)(g0:1<=g)(g6:g<=6)(s0:1<=s)(s6:s<=6):MkP g n (stL ms z s):=by
 have p:=zc g0 g6;refine⟨by rw[Gh];exact X.len,fun m hm=>?_⟩;unfold L2.stL at hm;obtain⟨i,hi,rfl⟩:=LK.mp hm;have b:=X.mm _ (eP (LL.mp hi))
 split
 . have:=(Ew (s:=s) b.1 (by omega) s0 s6).1;omega
 . exact b
def dBk(th:Tho):PyData:=dTh th.t th.r th.z th.s th.ms
theorem FG{bs:List Addr}(x:IsBk H l bs Ms Li):DV K H (.ref l) (.list (Li.map dBk)):=by
 have l1:=x.len;have l2:=x.lnM;refine .lst (LH x.top) (DVs.of_get (by simp[x.len]) fun i y d h1 h2=>?_);obtain⟨a,ha,rfl⟩:=fX h1;rw[Lu] at h2;obtain⟨th,hth,rfl⟩:=M9.mp h2;have hi:i<Li.length:=(Lx.mp hth).1;exact HW (x.at_ i a _ th ha (Lq (by omega)) hth)
theorem B0(t:TK)(r z s:Int)(ms:List Int):PyData.canLay0 (dTh t r z s ms)=true/\PyData.depth (dTh t r z s ms)<=2:=by
 have a1:PyData.strOk (tx (tkC t))=true:=Cp (by cases t <;> decide);unfold dTh;simp[PyData.canLay0,PyData.canLayAll0,a1,pV,PyData.depth,PyData.depthAll,lT]
theorem Ex(Li:List Tho):SeqAt.shaped (.list (Li.map dBk))=true:=by
 have h1:PyData.canLayAll0 (Li.map dBk)=true:=tz fun d hd=>by obtain⟨x,_,rfl⟩:=LK.mp hd;exact(B0 _ _ _ _ _).1
 have h2:PyData.depthAll (Li.map dBk)<=2:=rn fun d hd=>by obtain⟨x,_,rfl⟩:=LK.mp hd;exact(B0 _ _ _ _ _).2
 simp[SeqAt.shaped,PyData.canLay0,h1,PyData.depth];omega
abbrev txk(t:TK):Str:=tx (tkC t)
def allT:List TK:=[.clue,.only,.place,.count,.step,.sum,.square,.reach,.turn,.pair,.ways]
theorem Gi{a b:TK}:decide (txk a=txk b)=decide (a=b):=by cases a <;> cases b <;> decide+kernel
def KdL(H:Hp)(Kd:Addr)(ks:List TK):Prop:=H Kd=some (.lst ((ks.map txk).map V.str))
def OkT(h w g:Int)(Ld:List RR)(cl:List Int)(ks:List TK)(m:List Int)(th:Tho):Prop:=0∉m/\th.t∈ks/\(0<=th.z/\th.z<h*w)/\(1<=th.s/\th.s<=g)/\stB (m.getD th.z.toNat 0) th.s=true/\alwA h w g Ld cl m th.t th.r th.z th.s th.ms=true
def Wlk(h w g:Int)(Ld:List RR)(cl:List Int)(ks:List TK):List Int->List Tho->List Int->Prop
 | m,[],m'=>m=m'
 | m,th::r,m'=>OkT h w g Ld cl ks m th/\Wlk h w g Ld cl ks (stL m th.z th.s) r m'
theorem Wlk.trans{h w g:Int}{Ld:List RR}{cl:List Int}{ks:List TK}:∀{a b:List Tho} {m m1 m2:List Int},Wlk h w g Ld cl ks m a m1->Wlk h w g Ld cl ks m1 b m2->Wlk h w g Ld cl ks m (a++b) m2
 | [],_,_,_,_,h1,h2=>by cases (show _=_ from h1);exact h2
 | _::_,_,_,_,_,h1,h2=>⟨h1.1,Wlk.trans h1.2 h2⟩
variable{h w:Int}{Ld:List RR}{cl:List Int}{ks:List TK}
theorem Wlk.snoc{a:List Tho}{m m1:List Int}(h1:Wlk h w g Ld cl ks m a m1)(h2:OkT h w g Ld cl ks m1 th):Wlk h w g Ld cl ks m (a++[th]) (stL m1 th.z th.s):=h1.trans ⟨h2,rfl⟩
def btA(ms:List Int):Nat:=(ms.map fun m=>(sgL m).length).sum
theorem Ai(f:Int->Nat):∀(ms:List Int) (k:Nat) (x:Int),k<ms.length->((ms.set k x).map f).sum+f (ms.getD k 0)=(ms.map f).sum+f x
 | [],_,_,h=>by simp at h
 | m::r,0,x,_=>by simp;omega
 | m::r,k+1,x,h=>by
  have ih:=Ai f r k x (by simpa using h);simp only[List.set_cons_succ,L3,OG,List.getD_cons_succ];omega
theorem Gj{z:Int}(z0:0<=z):stL ms z s=ms.set z.toNat (woI (ms.getD z.toNat 0) s):=by
 refine MB fun i=>?_;unfold stL;rw[Lu,List.getElem?_set];by_cases hi:i<ms.length
 . rw[Mv hi];show some (if (i:Int)=z then woI (ms.getD i 0) s else ms.getD i 0)=_;by_cases e:z.toNat=i
   . rw[LX (by omega),LX e,LX (by omega),e]
   . rw[LU (by omega),LU e,List.getD,Lq hi];rfl
 . rw[LP (by rw[Mp];omega)]
   split
   . rw[LU (by omega)];rfl
   . rw[LP (by omega)];rfl
theorem OkT.bits{m:List Int}(X:OkT h w g Ld cl ks m th)(M:MkP g (h*w).toNat m)(g0:1<=g)(g6:g<=6):btA (stL m th.z th.s)+1=btA m:=by
 obtain⟨_,_,z,s,st,_⟩:=X;have p64:=zc g0 g6;have ml:=M.len;have mz:=M.mm _ (eP (k:=th.z.toNat) (ms:=m) (by omega));have a:=(Ew (s:=th.s) mz.1 (by omega) s.1 (by omega)).2.2 st;have b:=Ai (fun m=>(sgL m).length) m th.z.toNat (woI (m.getD th.z.toNat 0) th.s) (by omega);unfold btA;rw[Gj z.1]
 try dsimp only at b
 omega
theorem Wlk.okM{h w g:Int}{Ld:List RR}{cl:List Int}{ks:List TK}(g0:1<=g)(g6:g<=6):∀{a:List Tho} {m m':List Int},Wlk h w g Ld cl ks m a m'->MkP g (h*w).toNat m->MkP g (h*w).toNat m'/\btA m'+a.length=btA m
 | [],_,_,h,M=>by cases (show _=_ from h);exact⟨M,by simp⟩
 | th::r,m,m',h,M=>by
  have s:=h.1.2.2.2.1;have b:=h.1.bits M g0 g6;have:=Wlk.okM g0 g6 (a:=r) h.2 (M.stL g0 g6 s.1 (by omega));refine⟨this.1,?_⟩;rw[L0];omega
theorem IsBk.keep{x:Addr}{bs:List Addr}{xs ys:List V}(X:IsBk H l bs Ms Li)(hx:H x=some (.lst xs))(nl:l≠x)(nM:x∉Ms):IsBk (upd H x (.lst ys)) l bs Ms Li:=
 ⟨by rw[ao nl];exact X.top,X.len,X.lnM,X.nl,fun i b M th h1 h2 h3=>by
  have z:=X.at_ i b M th h1 h2 h3;have nM':M≠x:=fun e=>nM (by rw[← e];exact LB h2);exact⟨by rw[ao (fun e=>by have:=z.T;rw[e,hx] at this;cases this)];exact z.T,by rw[ao nM'];exact z.M,z.n⟩⟩
structure Hs(H:Hp)(f C:Addr)(fl:List Int)(cs:List Nat):Prop where
 f:H f=some (.lst (fl.map V.int))
 C:H C=some (.lst ((cs.map fun(n:Nat)=>(n:Int)).map V.int))
 lt:∀ c∈cs,c<fl.length
 len:cs.length<=16
 sg:∀ x∈fl,1<=x/\x<=6
abbrev iN(cs:List Nat):List Int:=cs.map fun(n:Nat)=>(n:Int)
variable{cs:List Nat}
theorem Aj{c:Int}(h:c∈iN cs):0<=c/\c.toNat∈cs:=by
 obtain⟨n,hn,rfl⟩:=LK.mp h;exact⟨by omega,by rw[MG];exact hn⟩
def Chn(b:Bool)(fl:List Int)(ds:List Nat):Prop:=if b=true then risB (sgAt fl (iN ds))=true else(sgAt fl (iN ds)).Nodup
theorem Ak:∀{xs:List Int} {x:Int},risB xs=true->(∀ y,xs.getLast? =some y->y<x)->risB (xs++[x])=true
 | [],_,_,_=>rfl
 | [y],x,_,h=>by
  show(decide (y<x)&&risB [x])=true;rw[Lv (h y rfl)];rfl
 | y::z::r,x,h1,h2=>by
  have e:risB (y::z::r)=(decide (y<z)&&risB (z::r)):=rfl;rw[e,Ma] at h1;show(decide (y<z)&&risB (z::r++[x]))=true;rw[h1.1,Ak h1.2 (fun u hu=>h2 u (by rw[List.getLast?_cons_cons];exact hu))];rfl
theorem Ey(fl:List Int)(ds:List Nat)(n:Nat):sgAt fl (iN (ds++[n]))=sgAt fl (iN ds)++[fl.getD n 0]:=by
 unfold sgAt iN;simp
theorem CG{i:Int}(h0:0<=i)(h1:i<100):Str.ofString (toString i)=tx (numC i.toNat)/\i.natAbs.log2<1920:=by
 have e:i=((i.toNat:Nat):Int):=by omega
 have a:=tF (n:=i.toNat) (by omega);have b:=tG (n:=i.toNat) (by omega);rw[← e] at a b;exact⟨a,b⟩
theorem Ht{Q:VK}{C:Addr}{σ:St}{i:Nat}(hi:σ[i]? =some (some (.ref C)))(hC:H C=some (.lst ((iN cs).map V.int)))(hl:cs.length<=16)(hc:∀ c∈cs,c<100)(q:∀ H',Same H H'->Q (.str (tx (catL 32 (cs.map numC)))) H'):tBM K "str" ju (tC (.str (tx [32]))) (tCons (tComp [none,none] (iList K (tVar i)) (gName 1) tTrue (tCB kStr (tCons (tVar 1) tNil))) tNil) σ H Q:=by
 simp only[fG,w_c,bR,da,br,Fz];refine⟨Ci,V.ref C,hi,C,rfl,⟨_,LH hC⟩,?_⟩;refine yi hC (by omega) hc fun l H1 hl s1 el=>?_
 refine BR el (rA (by simp;omega) (fun t ht=>by
  obtain⟨z,hz,rfl⟩:=LK.mp ht;obtain⟨x,_,rfl⟩:=LK.mp hz;rw[fk];exact Lz fY (by decide)) (by rw[fk];decide)) ?_
 rw[zI,tD];exact q _ s1
structure Cs58(h w:Int)(cs:List Nat):Prop where
 ne:cs≠[]
 nd:cs.Nodup
 lt:∀ c∈cs,(c:Int)<h*w
 len:cs.length<=16
theorem Cs58.sub{ds:List Nat}(X:Cs58 h w cs)(s:ds.Sublist cs)(ne:ds≠[]):Cs58 h w ds:=⟨ne,X.nd.sublist s,fun c hc=>X.lt c (s.subset hc),Lz s.length_le X.len⟩
theorem Cs58.lt100(X:Cs58 h w cs)(F:FlOk h w g):∀ c∈cs,c<100:=fun c hc=>by
 have:=X.lt c hc;have:=F.m;omega
theorem Fs{fl:List Int}(Y:Cs58 h w cs)(fll:fl.length=(h*w).toNat)(sg:∀ x∈fl,1<=x/\x<=g){x:Int}(hx:x∈iN cs):0<=x/\x<fl.length/\1<=fl.getD x.toNat 0/\fl.getD x.toNat 0<=g:=by
 have m:=Aj hx;have l:=Y.lt _ m.2;have:x.toNat<fl.length:=by omega
 have e:fl.getD x.toNat 0=fl[x.toNat]:=by rw[List.getD,Lq this];rfl
 have:=sg _ (L1 this);rw[e];omega
theorem mU(h:cs≠[]):cs.map numC≠[]:=by simp[h]
theorem Al:∀(xs:List Int),(∀ x∈xs,0<=x/\x<=6)->0<=xs.sum/\xs.sum<=6*xs.length
 | [],_=>by simp
 | x::r,h=>by
  have a:=h x LQ;have b:=Al r fun y hy=>h y (LI _ hy);rw[OG,L0];omega
def mV(K:Frag):Sp:=fun vs H Q _=>∃ a h w g,vs=[.ref a]/\IsFl H a h w g/\1<=g/\g<=6/\Q (.int (2^g.toNat-1)) H
def mW(K:Frag):TS:=
 (tRet (tOp cSub (tCall (nF K) [] E0 (tCons (tOp cAdd (tOp cIx (tVar 0) (tC (.int 2))) (tC (.int 1))) tNil)) (tC (.int 1))))
theorem Am{K:Frag}{vs:List V}{H:Hp}{Q:VK}{E:XK}(h:mV K vs H Q E):mW K (eD9 Q) (start ["floor"] vs) H:=by
 obtain⟨a,h,w,g,rfl,ha,g0,g1,q⟩:=h;show mW K _ [some (.ref a)] H;unfold mW;symm;refine ixT ha (v:=V.int g) rfl ?_;symm;refine⟨g+1,rfl,by omega,by omega,?_⟩;symm;rw[Int.add_sub_cancel];exact q
theorem Ez{fl cs:List Int}{j:Nat}(hj:j<cs.length):(sgAt fl cs).getD j 0=fl.getD (cs.getD j 0).toNat 0:=by
 unfold sgAt;rw[List.getD,Lu,Lq hj];show fl.getD (cs[j]).toNat 0=_;rw[show cs.getD j 0=cs[j] by rw[List.getD,Lq hj];rfl]
theorem Ft(n:Nat)(m:Int):(List.replicate n [V.int m]).flatten=(List.replicate n m).map V.int:=by
 induction n with
 | zero=>rfl
 | succ n ih=>rw[MR,Ng,ih];rfl
def xB(K:Frag):Sp:=fun vs H Q _=>∃ a h w g,vs=[.ref a]/\IsFl H a h w g/\FlOk h w g/\∀ l H',Same H H'->H l=none->H' l=some (.lst ((List.replicate (h*w).toNat (2^g.toNat-1)).map V.int))->Q (.ref l) H'
def xC(K:Frag):TS:=
 (tRet (tOp cRepL (tLst (tCons (tCall (mV K) [] E0 (tCons (tVar 0) tNil)) tNil)) (tCall (b9 K) [] E0 (tCons (tVar 0) tNil))))
theorem Gk{K:Frag}{vs:List V}{H:Hp}{Q:VK}{E:XK}(h:xB K vs H Q E):xC K (eD9 Q) (start ["floor"] vs) H:=by
 obtain⟨a,h,w,g,rfl,ha,F,k⟩:=h;obtain⟨h0,h1,w0,w1,m16,g0,g1⟩:=F;have mpos:0<=h*w:=M8 (by omega) (by omega);show xC K _ [some (.ref a)] H;unfold xC;symm;refine⟨a,h,w,g,rfl,ha,g0,g1,lnR rfl,fun p hp=>?_⟩;have s1:Same H (upd H p (.lst [V.int (2^g.toNat-1)])):=(Lr H).laid hp;refine⟨a,h,w,g,rfl,s1 _ _ ha,h0,h1,?_⟩;refine DN aj mpos (by omega) (by show(1:Nat)<=1;decide) fun l hl=>?_;rw[Ft];exact k l _ (s1.laid hl) (s1.free hl) aj
abbrev fuL(h w g:Int):List Int:=List.replicate (h*w).toNat (2^g.toNat-1)
theorem wn{h w g:Int}(g0:1<=g)(g6:g<=6):MkP g (h*w).toNat (fuL h w g):=⟨Oy,fun m hm=>by
 rw[(Nt.mp hm).2];have e:g=1\/g=2\/g=3\/g=4\/g=5\/g=6:=by omega
 rcases e with rfl | rfl | rfl | rfl | rfl | rfl <;> decide⟩
section
variable{c:RCl RK}{h w g:Int}{Ld:List RR}{cl cl':List Int}{ks:List TK}
open Classical in
end
theorem wo:∀{ds:List PyData},(∀ d∈ds,PyData.eqv d d=true)->PyData.eqvAll ds ds=true
 | [],_=>by rw[PyData.eqvAll]
 | d::r,h=>by rw[PyData.eqvAll,h d (.head _),wo fun x hx=>h x (.tail _ hx)];rfl
theorem bF{b:Bool}{A B:Prop}(e:b=true)(h:A):if b=true then A else B:=by rw[e];exact iteT h
theorem bO{b:Bool}{A B:Prop}(e:b=false)(h:B):if b=true then A else B:=by rw[e];exact iteF h
structure Z5 where
 P:Program
 w:World
 K:Frag
 mg:Str->Option Value
 base:Heap
structure Bt3(Z:Z5):Prop extends Bt2 Z.mg where
 ns:∀{x:Str} {v:Value},nsIn Z.K mainGlobals x=some (some v)->Z.mg x=some v
def Nn(K:Frag)(b:Str):Prop:=nsIn K mainGlobals b=some none
def Zn(K:Frag):Prop:=Nn K "len"/\Nn K "abs"/\Nn K "min"/\Nn K "max"/\Nn K "sorted"/\Nn K "any"/\Nn K "isinstance"/\Nn K "list"/\Nn K "int"/\Nn K "bool"/\Nn K "str"/\Nn K "tuple"/\Nn K "reversed"/\Nn K "set"/\Nn K "range"/\Nn K "zip"/\Nn K "all"/\Nn K "sum"/\Nn K "enumerate"
theorem Hu{Z:Z5}{h:Heap}(X:Z.K.In h)(G:h.Ns mainGlobals Z.mg)(z:Zn Z.K):Bt3 Z:=by
 obtain⟨a,b,c,d,e,f,g,i,j,k,l,m,n,o,p,q,r,s,t⟩:=z;have N:∀{b:Str},Nn Z.K b->Z.mg b=none:=fun h=>PySem.W.mg_none_of X G h;exact⟨⟨⟨N a,N b,N c,N d,N e,N f,N g,N i,N j,N k,N l,N m,N n,N o,N p,N q⟩,N r,N s,N t⟩,fun h=>PySem.W.mg_of X G h⟩
structure De(K:Frag)(x:Str)(st:Stmt):Prop where
 ex:∃(f:Addr) (fd:FuncData),nsIn K mainGlobals x=some (some (.ref f))/\Fun K x x st f fd
structure Me(K:Frag)(x qual:Str)(st:Stmt)(f:Addr):Prop where
 ex:∃ fd:FuncData,Fun K x qual st f fd/\isFn K (.ref f)=true
structure ClsP(K:Frag)(x:Str)(A f:Addr):Prop where
 q:nsIn K mainGlobals x=some (some (.ref A))
 m1:PySem.W.makesIn K A=true
 m2:findIn K (.ref A) "__init__"=some (some (.ref f))
 m4:keepIn K (.ref A)=true
 cl:Cls K A
def mkC(x1 x2 x3 x4 x5 x6 x7 x8:Addr):RCl RK:=⟨fun k=>match k with | .Rule=>x1 | .Unlike=>x1 | .Sum=>x2 | .Rising=>x3 | .Seen=>x4 | .Count=>x5 | .Joined=>x6 | .NoSquare=>x7 | .Ring=>x8,fun k=>match k with | .Rule=>false | _=>true⟩
def mk1(c:RCl RK)(k:RK):RCl RK:=⟨c.A,match k with | .Joined=>(fun i=>match i with | .Joined=>true | _=>false) | .Ring=>(fun i=>match i with | .Ring=>true | _=>false) | _=>fun _=>false⟩
def mkD(y:Addr):RCl PzK:=⟨fun _=>y,fun _=>true⟩
theorem o8{c:RCl RK}{k i:RK}(h:(mk1 c k).ok i=true):i=k:=by cases k <;> cases i <;> first | rfl | cases h
def At8(K:Frag)(m:Str)(v:Option Value)(x1 x2 x3 x4 x5 x6 x7 x8:Addr):Prop:=findIn K (.ref x1) m=some v/\findIn K (.ref x2) m=some v/\findIn K (.ref x3) m=some v/\findIn K (.ref x4) m=some v/\findIn K (.ref x5) m=some v/\findIn K (.ref x6) m=some v/\findIn K (.ref x7) m=some v/\findIn K (.ref x8) m=some v
def C8(K:Frag)(x1 x2 x3 x4 x5 x6 x7 x8:Addr):Prop:=Cls K x1/\Cls K x2/\Cls K x3/\Cls K x4/\Cls K x5/\Cls K x6/\Cls K x7/\Cls K x8
section
variable{Z:Z5}{K:Frag}{x1 x2 x3 x4 x5 x6 x7 x8 f:Addr}{m:Str}{v:Option Value}
theorem at8(h:At8 K m v x1 x2 x3 x4 x5 x6 x7 x8)(k:RK):findIn K (.ref ((mkC x1 x2 x3 x4 x5 x6 x7 x8).A k)) m=some v:=by
 obtain⟨a,b,c,d,e,f,g,i⟩:=h;cases k <;> assumption
theorem c8(h:C8 K x1 x2 x3 x4 x5 x6 x7 x8)(k:RK):Cls K ((mkC x1 x2 x3 x4 x5 x6 x7 x8).A k):=by
 obtain⟨a,b,c,d,e,f,g,i⟩:=h;cases k <;> assumption
theorem fk8(C:C8 K x1 x2 x3 x4 x5 x6 x7 x8)(h:At8 K m none x1 x2 x3 x4 x5 x6 x7 x8):FldK K (mkC x1 x2 x3 x4 x5 x6 x7 x8) m:=⟨fun k _=>⟨c8 C k,at8 h k⟩⟩
theorem fk1{c:RCl RK}{k:RK}(hk:c.ok k=true)(F:FldK K c m):FldK K (mk1 c k) m:=⟨fun i hi=>by cases o8 hi;exact F.ex k hk⟩
variable{N ps:List Str}{k k':Nat}{sp sp':Sp}{t:TS}{x qual:Str}{st:Stmt}
abbrev Hb(Z:Z5)(N:List Str)(qual:Str)(st:Stmt)(f:Addr)(k:Nat)(t:TS):Prop:=∀{Le:Value} {A:Around} {outer:List Env} {s:Shared} {H:Hp} {E:XK},Room k (A.deeper (envOfC qual (aY st) s.heap.objs.size f Le))->(A.deeper (envOfC qual (aY st) s.heap.objs.size f Le)).units+64<cLine->N.Nodup->PSs (cxOf CX0 Z.P Z.w Z.K Z.mg Z.base N qual (aY st) f Le A outer s H E).nox (ck st) t
abbrev Rk(N:List Str)(sp:Sp)(t:TS):Prop:=∀{vs H Q E},sp vs H Q E->t (eD9 Q) (start N vs) H
abbrev Ln(ps:List Str)(sp:Sp):Prop:=∀{vs H Q E},sp vs H Q E->vs.length=ps.length
abbrev Bd(x qual:Str)(st:Stmt)(ps:List Str):Prop:=∀(kV doc pm:Value) (an:Option Addr) (Le ct:Value) (us:List Value),us.length=ps.length->bindArgs (fnOf x qual (dh st) (ck st) (aY st) .none kV doc pm an Le ct) ⟨us,[]⟩=pure (ps.zip us)
theorem okf{f:Addr}{fd:FuncData}(F:Fun Z.K x qual st f fd)(S:md N ps (aY st))(rk:Rk N sp t)(hb:Hb Z N qual st f k t)(len:Ln ps sp):FnOk Z.P Z.w Z.K Z.mg Z.base CX0 (k+1) f fd ps sp:=F.ok S (fun _ _ _ _ h=>len h) fun Le A outer s H vs Q E hr h=>⟨t,hb hr hr.units S.nd,rk h⟩
local macro_rules | `(tactic| walk_at "l")=>`(tactic| (intro vs H Q E h; (repeat obtain ⟨_,h⟩:=h); subst_vars; rfl))
theorem uZ{α:Type}{us:List α}{n:Nat}(e:us.length=n+1):∃ u t,t.length=n/\us=u::t:=by
 cases us with
 | nil=>cases e
 | cons u t=>exact⟨u,t,Nat.succ.inj e,rfl⟩
theorem bd1{a0:Str}(h:∀ kV doc pm an Le ct u0,bindArgs (fnOf x qual (dh st) (ck st) (aY st) .none kV doc pm an Le ct) ⟨[u0],[]⟩=pure ([a0].zip [u0]):=by intros;rfl):Bd x qual st [a0]:=by
 intro _ _ _ _ _ _ _ e;(iterate 1 (obtain⟨_,_,f,rfl⟩:=uZ e;clear e;have e:=f;clear f));cases Mu e;exact h ..
theorem bd2{a0 a1:Str}(h:∀ kV doc pm an Le ct u0 u1,bindArgs (fnOf x qual (dh st) (ck st) (aY st) .none kV doc pm an Le ct) ⟨[u0,u1],[]⟩=pure ([a0,a1].zip [u0,u1]):=by intros;rfl):Bd x qual st [a0,a1]:=by
 intro _ _ _ _ _ _ _ e;(iterate 2 (obtain⟨_,_,f,rfl⟩:=uZ e;clear e;have e:=f;clear f));cases Mu e;exact h ..
theorem bd3{a0 a1 a2:Str}(h:∀ kV doc pm an Le ct u0 u1 u2,bindArgs (fnOf x qual (dh st) (ck st) (aY st) .none kV doc pm an Le ct) ⟨[u0,u1,u2],[]⟩=pure ([a0,a1,a2].zip [u0,u1,u2]):=by intros;rfl):Bd x qual st [a0,a1,a2]:=by
 intro _ _ _ _ _ _ _ e;(iterate 3 (obtain⟨_,_,f,rfl⟩:=uZ e;clear e;have e:=f;clear f));cases Mu e;exact h ..
theorem bd4{a0 a1 a2 a3:Str}(h:∀ kV doc pm an Le ct u0 u1 u2 u3,bindArgs (fnOf x qual (dh st) (ck st) (aY st) .none kV doc pm an Le ct) ⟨[u0,u1,u2,u3],[]⟩=pure ([a0,a1,a2,a3].zip [u0,u1,u2,u3]):=by intros;rfl):Bd x qual st [a0,a1,a2,a3]:=by
 intro _ _ _ _ _ _ _ e;(iterate 4 (obtain⟨_,_,f,rfl⟩:=uZ e;clear e;have e:=f;clear f));cases Mu e;exact h ..
theorem bd5{a0 a1 a2 a3 a4:Str}(h:∀ kV doc pm an Le ct u0 u1 u2 u3 u4,bindArgs (fnOf x qual (dh st) (ck st) (aY st) .none kV doc pm an Le ct) ⟨[u0,u1,u2,u3,u4],[]⟩=pure ([a0,a1,a2,a3,a4].zip [u0,u1,u2,u3,u4]):=by intros;rfl):Bd x qual st [a0,a1,a2,a3,a4]:=by
 intro _ _ _ _ _ _ _ e;(iterate 5 (obtain⟨_,_,f,rfl⟩:=uZ e;clear e;have e:=f;clear f));cases Mu e;exact h ..
theorem bd6{a0 a1 a2 a3 a4 a5:Str}(h:∀ kV doc pm an Le ct u0 u1 u2 u3 u4 u5,bindArgs (fnOf x qual (dh st) (ck st) (aY st) .none kV doc pm an Le ct) ⟨[u0,u1,u2,u3,u4,u5],[]⟩=pure ([a0,a1,a2,a3,a4,a5].zip [u0,u1,u2,u3,u4,u5]):=by intros;rfl):Bd x qual st [a0,a1,a2,a3,a4,a5]:=by
 intro _ _ _ _ _ _ _ e;(iterate 6 (obtain⟨_,_,f,rfl⟩:=uZ e;clear e;have e:=f;clear f));cases Mu e;exact h ..
theorem bd8{a0 a1 a2 a3 a4 a5 a6 a7:Str}(h:∀ kV doc pm an Le ct u0 u1 u2 u3 u4 u5 u6 u7,bindArgs (fnOf x qual (dh st) (ck st) (aY st) .none kV doc pm an Le ct) ⟨[u0,u1,u2,u3,u4,u5,u6,u7],[]⟩=pure ([a0,a1,a2,a3,a4,a5,a6,a7].zip [u0,u1,u2,u3,u4,u5,u6,u7]):=by intros;rfl):Bd x qual st [a0,a1,a2,a3,a4,a5,a6,a7]:=by
 intro _ _ _ _ _ _ _ e;(iterate 8 (obtain⟨_,_,f,rfl⟩:=uZ e;clear e;have e:=f;clear f));cases Mu e;exact h ..
local macro_rules | `(tactic| ac_rfl)=>`(tactic| exact ⟨rfl,rfl,rfl,by decide+kernel,rfl,by decide+kernel,by decide+kernel⟩)
theorem okc(B:Bt3 Z)(D:De Z.K x st)(rk:Rk N sp t)(b:Bd x x st ps)(hb:∀{f},Hb Z N x st f k t)(S:md N ps (aY st):=by ac_rfl)(len:Ln ps sp:=by walk_at "l"):Cal Z.P Z.w Z.K Z.mg Z.base (k+1) x ps sp:=
 let ⟨f,fd,a,F⟩:=D.ex
 ⟨f,fd,okf F S rk hb len,B.ns a,F.kp,F.binds b⟩
structure Mo(Z:Z5)(k:Nat)(f:Addr)(ps:List Str)(sp:Sp):Prop where
 ex:∃ fd:FuncData,FnOk Z.P Z.w Z.K Z.mg Z.base CX0 k f fd ps sp/\Binds Z.K fd ps []/\isFn Z.K (.ref f)=true/\keepIn Z.K (.ref f)=true
theorem okm(D:Me Z.K x qual st f)(rk:Rk N sp t)(b:Bd x qual st ps)(hb:Hb Z N qual st f k t)(S:md N ps (aY st):=by ac_rfl)(len:Ln ps sp:=by walk_at "l"):Mo Z (k+1) f ps sp:=
 let ⟨fd,F,n⟩:=D.ex
 ⟨fd,okf F S rk hb len,F.binds b,n,F.kp⟩
theorem Mo.at{C:Addr}(T:Mo Z k f ps sp)(cl:Cls Z.K C)(a:findIn Z.K (.ref C) m=some (some (.ref f)))(imp:∀ vs H Q E,sp' vs H Q E->sp vs H Q E)(hk:k<=k':=by decide):∃(f:Addr) (fd:FuncData),Cls Z.K C/\Meth Z.K C m f/\FnOk Z.P Z.w Z.K Z.mg Z.base CX0 k' f fd ps sp'/\Binds Z.K fd ps []:=
 let ⟨fd,F,b,n,kp⟩:=T.ex
 ⟨f,fd,cl,⟨a,n,kp⟩,(F.mono hk).imp imp,b⟩
theorem Mo.mke{C:Addr}(T:Mo Z k f ps sp)(B:Bt3 Z)(c:ClsP Z.K x C f):KCal Z.P Z.w Z.K Z.mg Z.base k x C ps sp:=
 let ⟨fd,F,b,n,_⟩:=T.ex
 ⟨f,fd,⟨c.m1,c.m2,n,c.m4⟩,F,B.ns c.q,b⟩
theorem De.of{K:Frag}{f:Addr}{fd:FuncData}(a:nsIn K mainGlobals x=some (some (.ref f)))(F:Fun K x x st f fd):De K x st:=⟨f,fd,a,F⟩
theorem Me.of{K:Frag}{f:Addr}{fd:FuncData}(F:Fun K x qual st f fd)(n:isFn K (.ref f)=true):Me K x qual st f:=⟨fd,F,n⟩
structure GT0(K:Frag)(x:Str)(ws:List Str):Prop where
 ex:∃(p:Addr) (o:Obj) (Lg:Array Value) (n:Nat),nsIn K mainGlobals x=some (some (.ref p))/\K.lookup p=some o/\o.cls=.type "tuple"/\o.data=.seq Lg n/\Lg.size<=sizeLine/\Vals (ws.map V.str) Lg.toList
theorem GT0.mk'{K:Frag}{ws:List Str}{p:Addr}{o:Obj}{Lg:Array Value}{n:Nat}(a:nsIn K mainGlobals x=some (some (.ref p)))(b:K.lookup p=some o)(c:o.cls=.type "tuple")(d:o.data=.seq Lg n)(e:Lg.size<=sizeLine)(v:Vals (ws.map V.str) Lg.toList):GT0 K x ws:=⟨p,o,Lg,n,a,b,c,d,e,v⟩
theorem GT0.of{ws:List Str}(g:GT0 Z.K x ws)(B:Bt3 Z):GTup Z.K Z.mg x ws:=let ⟨p,o,i,n,a,r⟩:=g.ex;⟨p,o,i,n,B.ns a,r⟩
structure GD0(w:World)(K:Frag)(x:Str)(D:List (Str × List Str)):Prop where
 ex:∃(p:Addr) (o:Obj) (es:Array DictEntry) (ep:Nat),nsIn K mainGlobals x=some (some (.ref p))/\K.lookup p=some o/\o.ExactDict/\o.data=.dict es ep/\DRows w K es.toList D/\(D.map fun x=>x.1).Nodup
theorem GD0.of{D:List (Str × List Str)}(g:GD0 Z.w Z.K x D)(B:Bt3 Z):GDict Z.w Z.K Z.mg x D:=let ⟨p,o,i,n,a,r⟩:=g.ex;⟨p,o,i,n,B.ns a,r⟩
end
section
variable{X:Cx}{a b e:Expr}{ta tb te:TE}{pos pos' p:Pos}{x:Str}{es:List Expr}{t:TA}{ps:List Str}{sp:Sp}{k n:Nat}
theorem kcal(C:Cal X.prog X.w X.K X.mg X.base k x ps sp)(hr:Room n X.A)(ha:PA X (e::es) t)(hk:k<=n:=by decide)(hg:Gl X x:=by exact rfl)(hdb:(x==("__debug__":Str))=false:=by decide)(he:starEach (e::es) X.env=(false,eval e X.env)::starEach es X.env:=by rfl)(hpl:(backTo pos (starEach es X.env)).any (·.1)=false:=by rfl):PE X (.Call (.Name x p) (e::es) [] pos) (tCall sp [] E0 t):=GZ C hr hk hg ha hdb he hpl
theorem kix(hu:X.A.units+64<cLine)(ha:PE X a ta)(hb:PE X b tb)(hs:xf b:=by exact fun _ _=>rfl):PE X (.Subscript a b pos) (tOp cIx ta tb):=vp (E7 hu) ha hb hs
theorem kset(i:Nat)(hN:X.N.Nodup)(he:PE X e te)(hi:X.N[i]? =some x:=by exact rfl)(hx:Loc X.env.scope x:=by exact Or.inl rfl)(hs:swapsWith e (some (.Name x pos')) pos.line X.env=pure false:=by rfl)(hf:X.fn x=true\/X.env.scope.names.lookup x=some .local:=by first | exact .inl rfl | exact .inr rfl | assumption):PS X (.Assign [.Name x pos'] e pos) (tAsg te (gName i)):=fR hN hi hx he hs hf
end
section
variable{Z:Z5}{N ps:List Str}{k:Nat}{sp:Sp}{t:TS}{b x:Str}{st:Stmt}
local macro_rules | `(tactic| walk_at "l")=>`(tactic| (intro vs H Q E h; (repeat obtain ⟨_,h⟩:=h); subst_vars; rfl))
local macro_rules | `(tactic| ac_rfl)=>`(tactic| exact ⟨rfl,rfl,rfl,by decide+kernel,rfl,by decide+kernel,by decide+kernel⟩)
end
def jZ(K:Frag):Sp:=fun vs H Q _=>∃ T M t r z s ms,vs=[.ref T]/\IsTh H T M t r z s ms/\Q (.bl true) H
def mX(K:Frag):TS:=
 (tRet (tAndV (tCB kIsi (tCons (tVar 0) (tCons (tC (.ty "tuple")) tNil))) (tOp (cEq K) (tCB kLen (tCons (tVar 0) tNil)) (tC (.int 5)))))
variable{K:Frag}{vs:List V}{H:Hp}{Q:VK}{E:XK}
theorem An(h:jZ K vs H Q E):mX K (eD9 Q) (start ["thought"] vs) H:=by
 obtain⟨T,M,t,r,z,s,ms,rfl,X,q⟩:=h;show mX K _ [some (.ref T)] H;unfold mX;symm;refine zH X.T ?_;symm;rw[zA X.T];exact q
def j2(K:Frag):Sp:=fun vs H Q _=>∃ T M t r z s ms,vs=[.ref T]/\IsTh H T M t r z s ms/\Q (.bl false) H
def j3(K:Frag):TS:=
 (tRet (tAndV (tCall (jZ K) [] E0 (tCons (tVar 0) tNil)) (tOp (cEq K) (tOp cIx (tVar 0) (tC (.int 0))) (tC (.str (tx [115,117,112,112,111,115,101]))))))
theorem wp(h:j2 K vs H Q E):j3 K (eD9 Q) (start ["thought"] vs) H:=by
 obtain⟨T,M,t,r,z,s,ms,rfl,X,q⟩:=h;show j3 K _ [some (.ref T)] H;unfold j3;symm;refine⟨T,M,t,r,z,s,ms,rfl,X,?_⟩;symm;refine ixT X.T (v:=V.str (tx (tkC t))) rfl ?_;symm;have e:decide (tx (tkC t)=tx [115,117,112,112,111,115,101])=false:=by cases t <;> decide
 rw[e];exact q
def gf(K:Frag)(c:RCl RK)(d:RCl PzK):Sp:=fun vs H Q _=>∃ P L G T M h w g Ld cl t r z s ms,vs=[.ref P,.ref T]/\IsPz H c d P L G h w g Ld cl/\IsTh H T M t r z s ms/\0<=z/\z<h*w/\1<=s/\s<=g/\Q (.bl true) H
def gg(K:Frag)(c:RCl RK)(d:RCl PzK):TS:=
 (tSeq (tAsg (aJ d d.ok "place" (iV K c d) (tVar 0) tNil) (gName 2))
  (tRet (tAndV (tCall (jZ K) [] E0 (tCons (tVar 1) tNil)) (tAndV (tCall (jC K) [] E0 (tCons (tVar 2) (tCons (tOp cIx (tVar 1) (tC (.int 2))) tNil))) (tCall (jD K) [] E0 (tCons (tVar 2) (tCons (tOp cIx (tVar 1) (tC (.int 3))) tNil)))))))
variable{c:RCl RK}{d:RCl PzK}
theorem qS(h:gf K c d vs H Q E):gg K c d (eD9 Q) (start ["puzzle","thought","floor"] vs) H:=by
 obtain⟨P,L,G,T,M,h,w,g,Ld,cl,t,r,z,s,ms,rfl,pz,X,z0,z1,s0,s1,q⟩:=h;obtain⟨dx,p,rs,h1,h2,h3⟩:=pz.ex;show gg K c d _ [some (.ref P),some (.ref T),none] H;unfold gg;symm;refine methE (k:=.Puzzle) rfl pz.ok h1 (by rfl) ?_;symm;refine⟨P,L,G,h,w,g,Ld,cl,rfl,pz,fun p hp=>?_⟩;symm;refine⟨T,M,t,r,z,s,ms,rfl,X,?_⟩;symm;refine ixT X.T (v:=V.int z) rfl ?_;refine⟨p,h,w,g,z,rfl,hp,pz.R.F,?_⟩;symm;refine bF (by rw[Lv z0,Lv z1];rfl) ?_;symm;refine ixT X.T (v:=V.int s) rfl ?_;refine⟨p,h,w,g,s,rfl,hp,?_⟩;rw[Lv s0,Lv s1];exact q
def eQ(K:Frag)(c:RCl RK)(d:RCl PzK):Sp:=fun vs H Q _=>∃ P L G A T M h w g Ld cl Lb t r z s ms,vs=[.ref P,.ref A,.ref T]/\Asks H c d P L G A T M h w g Ld cl Lb t r z s ms/\0<=z/\z<h*w/\1<=s/\s<=g/\stB (Lb.getD z.toNat 0) s=true/\Q (.bl true) H
def eW(K:Frag)(c:RCl RK)(d:RCl PzK):TS:=
 (tRet (tAndV (tCall (gf K c d) [] E0 (tCons (tVar 0) (tCons (tVar 2) tNil))) (tCall (gG K) [] E0 (tCons (tOp cIx (tVar 1) (tOp cIx (tVar 2) (tC (.int 2)))) (tCons (tOp cIx (tVar 2) (tC (.int 3))) tNil)))))
theorem oO(h:eQ K c d vs H Q E):eW K c d (eD9 Q) (start ["puzzle","masks","thought"] vs) H:=by
 obtain⟨P,L,G,A,T,M,h,w,g,Ld,cl,Lb,t,r,z,s,ms,rfl,X,z0,z1,s0,s1,st,q⟩:=h;have hn:=X.n;show eW K c d _ [some (.ref P),some (.ref A),some (.ref T)] H;unfold eW;symm;refine⟨P,L,G,T,M,h,w,g,Ld,cl,t,r,z,s,ms,rfl,X.P,X.T,z0,z1,s0,s1,?_⟩;symm;refine ixT X.T.T (v:=V.int z) rfl ?_;symm;refine ixI X.A z0 (by omega) ?_;refine ixT X.T.T (v:=V.int s) rfl ?_;refine⟨_,s,rfl,?_⟩;rw[st];exact q
def oP(K:Frag)(c:RCl RK)(d:RCl PzK):Sp:=fun vs H Q _=>∃ P L G A T M h w g Ld cl Lb t r z s ms,vs=[.ref P,.ref A,.ref T]/\Asks H c d P L G A T M h w g Ld cl Lb t r z s ms/\(∀ m∈Lb,0<=m/\m<64)/\alwA h w g Ld cl Lb t r z s ms=true/\∀ H',Same H H'->Q .non H'
def xD(K:Frag)(c:RCl RK)(d:RCl PzK):TS:=
 (tSeq (tIfS (tNot (tB jj)) (tRet (tLst tNil)) tNext)
  (tSeq (tAsg jj (gName 3))
  (tSeq (tFor (iEnum K (tCons (tOp cIx (tVar 2) (tC (.int 4))) tNil)) (gTup K 2 (gCons (gName 4) (gCons (gName 5) gNil)))
  (tSeq (tIfS (tB jj) (tRet (tC .non)) tNext)
  (tIfS (tNot (tB jj)) (tSeq (tAsg jj (gName 6))
  (tSeq (tIfS (tTest (tOp rNotN (tVar 6) (tC .non))) (tRet (tOp cAdd (tLst (tCons (tVar 4) tNil)) (tVar 6))) tNext)
  (tAsg jj (gName 3)))) tNext)))
  (tRet (tIf (tB jj) (tC .non) (tLst tNil))))))
def oQ(K:Frag)(c:RCl RK)(d:RCl PzK):TS:=
 (tSeq (tIfS (tNot (tB (tCall (j2 K) [] E0 (tCons (tVar 2) tNil)))) (tRet (tIf (tB (tCall (kY K c d) [] E0 (tCons (tVar 0) (tCons (tVar 1) (tCons (tVar 2) tNil))))) (tC .non) (tLst tNil))) tNext)
  (xD K c d))
theorem Bq(h:oP K c d vs H Q E):oQ K c d (eD9 Q) (start ["puzzle","masks","thought","now","place","inner","fault"] vs) H:=by
 obtain⟨P,L,G,A,T,M,h,w,g,Ld,cl,Lb,t,r,z,s,ms,rfl,X,mm,al,q⟩:=h;show oQ K c d _ [some (.ref P),some (.ref A),some (.ref T),none,none,none,none] H;unfold oQ;rw[ay,aB];symm;refine⟨T,M,t,r,z,s,ms,rfl,X.T,?_⟩;symm;refine⟨P,L,G,A,T,M,h,w,g,Ld,cl,Lb,t,r,z,s,ms,rfl,X,mm,fun H1 s1=>?_⟩;rw[al];exact⟨true,rfl,iteT (q H1 s1)⟩
def fv(K:Frag)(c:RCl RK)(d:RCl PzK):Sp:=fun vs H Q _=>∃ P L G A B bs Ms h w g Ld cl Lb now ks Li,vs=[.ref P,.ref A,.ref B]/\Lk H c d P L G A h w g Ld cl Lb/\IsBk H B bs Ms Li/\Wlk h w g Ld cl ks Lb Li now/\Li.length<=900/\∀ l H',Same H H'->H l=none->H' l=some (.lst (now.map V.int))->Q (.ref l) H'
def kH(K:Frag)(c:RCl RK)(d:RCl PzK):TS:=
 (tSeq (tAsg (tCB kList (tCons (tVar 1) tNil)) (gName 3))
  (tSeq (tFor (iEnum K (tCons (tVar 2) tNil)) (gTup K 2 (gCons (gName 4) (gCons (gName 5) gNil)))
  (tSeq (tIfS (tOr (tB (tCall (jQ K) [] E0 (tCons (tVar 3) tNil))) (tNot (tB (tCall (eQ K c d) [] E0 (tCons (tVar 0) (tCons (tVar 3) (tCons (tVar 5) tNil))))))) cu tNext)
  (tSeq (tAsg (tCall (oP K c d) [] E0 (tCons (tVar 0) (tCons (tVar 3) (tCons (tVar 5) tNil)))) (gName 6))
  (tSeq (tIfS (tTest (tOp rNotN (tVar 6) (tC .non))) cu tNext)
  (tAsg (tCall (rV K) [] E0 (tCons (tVar 3) (tCons (tOp cIx (tVar 5) (tC (.int 2))) (tCons (tOp cIx (tVar 5) (tC (.int 3))) tNil)))) (gName 3))))))
  (tRet (tVar 3))))
theorem xE(h:fv K c d vs H Q E):kH K c d (eD9 Q) (start ["puzzle","masks","book","now","place","thought","fault"] vs) H:=by
 obtain⟨P,L,G,A,B,bs,Ms,h,w,g,Ld,cl,Lb,now,ks,Li,rfl,X,bk,W,tn,q⟩:=h;have g0:=X.P.R.F.g0;have g6:=X.P.R.F.g1;have m16:=X.P.R.F.m;have bl:=bk.len;have bm:=bk.lnM;show kH K c d _ [some (.ref P),some (.ref A),some (.ref B),none,none,none,none] H;unfold kH;symm;refine lg X.A fun N hN=>?_;obtain⟨H1,z9,s1,eN⟩:=aS (.lst (Lb.map V.int)) hN;rw[z9];symm;refine⟨B,rfl,⟨_,LH (s1 _ _ bk.top)⟩,?_⟩
 refine Fc (xs:=bs.map V.ref) (fun i σ H'=>∃(N:Addr) (v4 v5 v6:Option V) (m:List Int),σ=[some (.ref P),some (.ref A),some (.ref B),some (.ref N),v4,v5,v6]/\Same H H'/\H N=none/\H' N=some (.lst (m.map V.int))/\MkP g (h*w).toNat m/\Wlk h w g Ld cl ks m (Li.drop i) now)
  ⟨N,none,none,none,Lb,rfl,s1,hN,eN,⟨X.n,X.mm⟩,W⟩ (fun i σ H' _ ⟨_,_,_,_,_,_,s,_⟩=>LH (s _ _ bk.top)) ?_ ?_
 . rintro i x T σ H2 hx ⟨N,v4,v5,v6,m,rfl,s2,fN,e2,mk,W2⟩ hT;obtain⟨b,hb,rfl⟩:=fX hx;have hi:i<bs.length:=(Lx.mp hb).1;have hM:Ms[i]? =some Ms[i]:=Lq (by omega);have hth:Li[i]? =some Li[i]:=Lq (by omega);have ed:Li.drop i=Li[i]::Li.drop (i+1):=N6 (by omega);rw[ed] at W2;obtain⟨ok,W3⟩:=W2;have Th:=bk.at_ i b _ _ hb hM hth;generalize Ms[i]=M at*;generalize Li[i]=th at*;obtain⟨n0,_,⟨z0,z1⟩,⟨t0,t1⟩,st,al⟩:=ok;have s3:Same H2 (upd H2 T (.tup [V.int (i:Int),V.ref b])):=(Lr H2).laid hT;refine rz aj rfl ?_;rw[p6];generalize upd H2 T (.tup [V.int (i:Int),V.ref b])=H3 at*;have s13:=s2.trans s3;have e3:=s3 _ _ e2;have mm64:∀ x∈m,0<=x/\x<64:=fun x hx=>by have a:=mk.mm x hx;have b:=zc g0 g6;omega
   have As:Asks H3 c d P L G N b M h w g Ld cl m th.t th.r th.z th.s th.ms:=⟨X.P.same s13,Th.same s13,e3,mk.len⟩;symm;rw[aB];symm;refine⟨N,m,rfl,e3,?_⟩;rw[Ls n0];symm;refine⟨P,L,G,N,b,M,h,w,g,Ld,cl,m,th.t,th.r,th.z,th.s,th.ms,rfl,As,z0,z1,t0,t1,st,?_⟩;symm;refine⟨P,L,G,N,b,M,h,w,g,Ld,cl,m,th.t,th.r,th.z,th.s,th.ms,rfl,As,mm64,al,fun H4 s4=>?_⟩;symm;rw[aB];symm;refine ixT ((Th.same (s13.trans s4)).T) (v:=V.int th.z) rfl ?_;symm;refine ixT ((Th.same (s13.trans s4)).T) (v:=V.int th.s) rfl ?_;refine⟨N,m,th.z,th.s,rfl,s4 _ _ e3,by have:=mk.len;omega,by omega,fun N' H5 s5 hN' e5=>?_⟩;exact⟨N',_,_,_,_,rfl,(s13.trans s4).trans s5,(s13.trans s4).free hN',e5,mk.stL g0 g6 t0 (by omega),W3⟩
 . rintro σ H2 ⟨N,v4,v5,v6,m,rfl,s2,fN,e2,mk,W2⟩;rw[Lp,bl,Oi] at W2;cases (show m=now from W2);symm;exact q N H2 s2 fN e2
section
variable{K:Frag}{c:RCl RK}{d:RCl PzK}{h w g:Int}{Ld:List RR}{cl:List Int}{ks:List TK}
open Classical in
end
def j4(K:Frag):Sp:=fun vs H Q _=>∃ n:Int,vs=[.int n]/\∀(p:Addr) (h w g:Int) (H':Hp),Same H H'->H p=none->IsFl H' p h w g->FlOk h w g->h*w<=9->g<=4->Q (.ref p) H'
def j5(K:Frag):TS:=
 (tSeq (tAsg (tOp cAdd (tC (.int 1)) (tOp cMod (tVar 0) (tC (.int 3)))) (gName 1))
  (tSeq (tAsg (tOp cAdd (tC (.int 1)) (tOp cMod (tOp cDiv (tVar 0) (tC (.int 3))) (tCB kMin (tCons (tC (.int 5)) (tCons (tOp cDiv (tC (.int 9)) (tVar 1)) tNil))))) (gName 2))
  (tRet (tTup (tCons (tVar 1) (tCons (tVar 2) (tCons (tOp cAdd (tC (.int 1)) (tOp cMod (tOp cDiv (tVar 0) (tC (.int 15))) (tC (.int 4)))) tNil)))))))
theorem Gm:∀ a∈([1,2,3]:List Int),∀ b∈([1,2,3,4,5]:List Int),b<=(if (9/a)<5 then 9/a else 5)->a*b<=9:=by decide
theorem wq(h:j4 K vs H Q E):j5 K (eD9 Q) (start ["_law_cell","_law_high","_law_wide"] vs) H:=by
 obtain⟨n,rfl,q⟩:=h;show j5 K _ [some (.int n),none,none] H;unfold j5;symm;have a0:=Mc n (show(3:Int)≠0 by decide);have a1:=Mb n (show(0:Int)<3 by decide);refine⟨by decide,?_⟩;generalize hh:1+n%3=h at*;have h3:h=1\/h=2\/h=3:=by omega
 symm;refine⟨⟨by omega,by omega⟩,⟨by omega,by omega⟩,?_⟩;have m5:3<=(if 9/h<5 then 9/h else(5:Int))/\(if 9/h<5 then 9/h else(5:Int))<=5:=by rcases h3 with rfl | rfl | rfl <;> decide
 have sz:=Gm h (by rcases h3 with rfl | rfl | rfl <;> decide);symm;generalize (if 9/h<5 then 9/h else(5:Int))=m at*;have b0:=Mc (n/3) (show m≠0 by omega);have b1:=Mb (n/3) (show 0<m by omega);refine⟨by omega,?_⟩;generalize hw:1+n/3%m=w at*
 have hwm:h*w<=9:=sz w (by
  have:w=1\/w=2\/w=3\/w=4\/w=5:=by omega
  rcases this with rfl | rfl | rfl | rfl | rfl <;> decide) (by omega)
 have g0:=Mc (n/15) (show(4:Int)≠0 by decide);have g1:=Mb (n/15) (show(0:Int)<4 by decide);symm;refine⟨⟨by decide,by decide⟩,by decide,?_⟩;generalize hg:1+n/15%4=g at*;refine⟨lnR rfl,fun p hp=>?_⟩;exact q p h w g _ ((Lr H).laid hp) hp aj ⟨by omega,by omega,by omega,by omega,by omega,by omega,by omega⟩ hwm (by omega)
def gq(K:Frag):Sp:=fun vs H Q _=>∃ num many size,vs=[.int num,.int many,.int size]/\many<=16/\0<=size/\size<=many/\
 ∀(l:Addr) (cs:List Nat) (H':Hp),Same H H'->H l=none->H' l=some (.lst ((iN cs).map V.int))->cs.Nodup->(∀ c∈cs,(c:Int)<many)->(cs.length:Int)=size->Q (.ref l) H'
def j6(K:Frag):TS:=
 (tSeq (tAsg (lj (tCons (tVar 1) tNil)) (gName 3))
  (tSeq (tAsg (tLst tNil) (gName 4))
  (tSeq (tFor (fD (tCons (tVar 2) tNil)) (gName 5)
  (tSeq (tDrop (tBM K "list" bD (tVar 4) (tCons (tBM K "list" vI (tVar 3) (tCons (tOp cMod (tVar 0) (tCB kLen (tCons (tVar 3) tNil))) tNil)) tNil)))
  (tAsg (tOp cMod (tOp cMul (tVar 0) (tC (.int 48271))) (tC (.int 2147483647))) (gName 0))))
  (tRet (tVar 4)))))
theorem wr(h:gq K vs H Q E):j6 K (eD9 Q) (start ["_law_number","_law_many","_law_size","_law_left","_law_found","_law_k"] vs) H:=by
 obtain⟨num,many,size,rfl,m1,c0,c1,q⟩:=h;show j6 K _ [some (.int num),some (.int many),some (.int size),none,none,none] H;unfold j6;symm;refine⟨many,rfl,by omega,by omega,fun L hL=>?_⟩;obtain⟨H1,z9,s1,eL⟩:=aS (.lst ((rngL 0 many).map V.int)) hL;rw[z9];symm;refine⟨aW (by decide),fun R hR=>?_⟩;have nRL:R≠L:=fun e=>by rw[e,eL] at hR;cases hR
 refine⟨size,rfl,by omega,by omega,?_⟩
 refine qX (fun i σ H'=>∃(num:Int) (kv:Option V) (fs ls:List Int),σ=[some (.int num),some (.int many),some (.int size),some (.ref L),some (.ref R),kv]/\Same H H'/\H' L=some (.lst (ls.map V.int))/\H' R=some (.lst (fs.map V.int))/\(fs++ls).Perm (rngL 0 many)/\fs.length=i)
  ⟨num,none,[],rngL 0 many,rfl,s1.laid hR,by rw[ao nRL.symm];exact eL,by rw[aj];rfl,List.Perm.refl _,rfl⟩ ?_ ?_
 . rintro i σ H2 hi ⟨num,kv,fs,ls,rfl,s2,e1,e2,hp,hl⟩;have Lj:=hp.length_eq;rw[LC,kz] at Lj;symm;refine⟨bA e2,bA e1,?_⟩;rw[aN e1,Lp];have hpos:0 < (ls.length:Int):=by omega
   have j0:=Mc num (Int.ne_of_gt hpos);have j1:=Mb num hpos;symm;refine⟨hpos,?_⟩;generalize num % (ls.length:Int)=j at*;have hj:j.toNat<ls.length:=by omega
   refine F0 e1 j0 (by rw[Lp];omega) (y:=V.int ls[j.toNat]) (by rw[Lu,Lq hj];rfl) ?_;have e2':(upd H2 L (.lst ((ls.map V.int).eraseIdx j.toNat))) R=some (.lst (fs.map V.int)):=by rw[ao nRL];exact e2
   symm;rw[gA e2'];refine⟨by rw[Lp];exact aH (by omega),?_⟩;symm;refine⟨.inr ⟨by decide,by decide⟩,by decide,_,_,fs++[ls[j.toNat]],ls.eraseIdx j.toNat,rfl,(s2.own hL).own (s1.free hR),?_,?_,?_,by simp[hl]⟩
   . rw[ao nRL.symm,aj,yh]
   . rw[aj];simp
   . have p1:=vO ls j.toNat hj;have p2:=List.Perm.append_left fs p1;refine List.Perm.trans ?_ hp;rw[N7];exact p2
 . rintro σ H2 ⟨num,kv,fs,ls,rfl,s2,e1,e2,hp,hl⟩;symm;have hnd:(fs++ls).Nodup:=hp.nodup_iff.mpr (Eb many);have hm:∀ x∈fs,0<=x/\x<many:=fun x hx=>BS (hp.mem_iff.mp (LR.mpr (.inl hx)))
   have ef:iN (fs.map Int.toNat)=fs:=by
    unfold iN;rw[Mf]
    conv=>rhs;rw[← List.map_id fs]
    exact NT fun x hx=>by have:=hm x hx;show((x.toNat:Nat):Int)=x;omega
   refine q R (fs.map Int.toNat) H2 s2 (s1.free hR) (by rw[ef];exact e2) ?_ ?_ ?_
   . have h1:=(MY.mp hnd).1;rw[← ef] at h1;exact rE _ h1
   . intro c hc;obtain⟨x,hx,rfl⟩:=LK.mp hc;have:=hm x hx;omega
   . rw[Lp,hl];omega
def gr(K:Frag):Sp:=fun vs H Q _=>∃ f C fl cs,vs=[.ref f,.ref C]/\Hs H f C fl cs/\∀(l:Addr) (ds:List Nat) (H':Hp),Same H H'->H l=none->H' l=some (.lst ((iN ds).map V.int))->ds.Sublist cs->(cs≠[]->ds≠[])->Chn true fl ds->Q (.ref l) H'
def Fu(K:Frag):TS:=
 (tIfS (tOr (tTest (tOp (cEq K) (tVar 2) (tLst tNil))) (tTest (tOp (cCmp fun i j=>decide (j<i)) (tOp cIx (tVar 0) (tVar 3)) (tOp cIx (tVar 0) (tOp cIx (tVar 2) (tUn (rU fun i=>.int (-i)) (tC (.int 1)))))))) (tDrop (tBM K "list" bD (tVar 2) (tCons (tVar 3) tNil))) tNext)
def j7(K:Frag):TS:=
 (tSeq (tAsg (tLst tNil) (gName 2))
  (tSeq (tFor (iList K (tVar 1)) (gName 3)
  (Fu K))
  (tRet (tVar 2))))
theorem Gn {D:Ends} {f R:Addr} {fl:List Int} {ds:List Nat} {n:Nat} {v1:Option V} (ef:H f=some (.lst (fl.map V.int))) (eR:H R=some (.lst ((iN ds).map V.int))) (hl:ds.length<=16) (hd:∀ x∈ds,x<fl.length) (hn:n<fl.length) (hC:Chn true fl ds)
  (k1:Chn true fl (ds++[n])->∀ H',Same H H'->D.nx [some (.ref f),v1,some (.ref R),some (.int (n:Int))] (upd H' R (.lst ((iN (ds++[n])).map V.int))))
  (k2:ds≠[]->∀ H',Same H H'->D.nx [some (.ref f),v1,some (.ref R),some (.int (n:Int))] H'):
  Fu K D [some (.ref f),v1,some (.ref R),some (.int (n:Int))] H:=by
 have app:∀ H',Same H H'->Chn true fl (ds++[n])->tyV K "list" (V.ref R) H'/\bD (V.ref R) [V.int (n:Int)] H' fun x H1=>D.nx [some (.ref f),v1,some (.ref R),some (.int (n:Int))] H1:=fun H' s c=>⟨bA (s _ _ eR),by
  rw[gA (s _ _ eR)];exact⟨by rw[Lp];unfold iN;rw[Lp];exact aH (by omega),by have:=k1 c H' s;unfold iN at this ⊢;rw[My,My] at this;exact this⟩⟩
 unfold Fu;rw[aB];symm;refine⟨aW (by decide),fun e he=>?_⟩;obtain⟨H1,z9,s1,ee⟩:∃ z,upd H e (.lst [])=z/\Same H z/\z e=some (.lst (([]:List Int).map V.int)):=aS _ he;rw[z9];refine lU (s1 _ _ eR) ee ?_;symm;by_cases h0:ds=[]
 . refine bF (Lv (by rw[h0];rfl)) ?_;symm;refine app H1 s1 ?_;rw[h0];unfold Chn;simp[sgAt,risB,iN]
 . refine bO (Ls (by unfold iN;simp[h0])) ?_;have dp:0<ds.length:=List.length_pos_iff.mpr h0;have il:(iN ds).length=ds.length:=by unfold iN;rw[Lp]
   have sl:(sgAt fl (iN ds)).length=ds.length:=by unfold sgAt iN;simp
   have la:atI ((iN ds).map V.int) (-1)=some (V.int ((iN ds).getD ((iN ds).length-1) 0)):=wd (by omega);have lm:=Aj (eP (ms:=iN ds) (k:=(iN ds).length-1) (by omega));have lt:=hd _ lm.2
   have sg:fl.getD ((iN ds).getD ((iN ds).length-1) 0).toNat 0=(sgAt fl (iN ds)).getD ((sgAt fl (iN ds)).length-1) 0:=by
    rw[sl,← il];exact(Ez (by omega)).symm
   symm;refine ixI (s1 _ _ ef) (by omega) (by omega) ?_;refine ixL (s1 _ _ eR) la ?_;refine ixI (s1 _ _ ef) lm.1 (by omega) ?_;symm;rw[sg,MG];by_cases h1:(sgAt fl (iN ds)).getD ((sgAt fl (iN ds)).length-1) 0<fl.getD n 0
   . refine bF (Lv h1) ?_;symm;refine app H1 s1 ?_;unfold Chn at hC ⊢;rw[LX rfl] at hC ⊢;rw[Ey];refine Ak hC fun y hy=>?_;rw[List.getLast?_eq_getElem?] at hy;rw[List.getD,hy] at h1;exact h1
   . refine bO (Ls h1) ?_;symm;exact k2 h0 H1 s1
theorem wt(h:gr K vs H Q E):j7 K (eD9 Q) (start ["_law_filling","_law_cells","_law_found","_law_cell"] vs) H:=by
 obtain⟨f,C,fl,cs,rfl,X,q⟩:=h;show j7 K _ [some (.ref f),some (.ref C),none,none] H;unfold j7;symm;refine⟨aW (by decide),fun R hR=>?_⟩;obtain⟨H1,z9,s1,eR⟩:∃ z,upd H R (.lst [])=z/\Same H z/\z R=some (.lst ((iN []).map V.int)):=aS _ hR;rw[z9];refine⟨⟨_,LH (s1 _ _ X.C)⟩,?_⟩;have c0:Chn true fl []:=by unfold Chn;simp[sgAt,risB,iN]
 refine dn (K:=K) (xs:=(iN cs).map V.int) (fun i σ H'=>∃(v3:Option V) (ds:List Nat),σ=[some (.ref f),some (.ref C),some (.ref R),v3]/\Same H H'/\H' R=some (.lst ((iN ds).map V.int))/\ds.Sublist (cs.take i)/\(0<i->ds≠[])/\Chn true fl ds) ⟨none,[],rfl,s1,eR,List.nil_sublist _,fun h=>absurd h (MI _),c0⟩ (fun i σ H' _ ⟨_,_,_,s,_⟩=>LH (s _ _ X.C)) ?_ ?_
 . rintro i v σ H2 hv ⟨v3,ds,rfl,s2,e2,sub,ne,hC⟩;obtain⟨c,hc,rfl⟩:=ba hv
   have hcn:∃ n,cs[i]? =some n/\c=(n:Int):=by
    unfold iN at hc;rw[Lu] at hc;obtain⟨n,hn,rfl⟩:=M9.mp hc;exact⟨n,hn,rfl⟩
   obtain⟨n,hn,rfl⟩:=hcn;have dl:ds.length<=16:=Lz sub.length_le (by rw[Mm];have:=X.len;omega);have dlt:∀ x∈ds,x<fl.length:=fun x hx=>X.lt x (MW (sub.subset hx));have tk:cs.take (i+1)=cs.take i++[n]:=by rw[Nj,hn];rfl
   rw[aR];refine Gn (s2 _ _ X.f) e2 dl dlt (X.lt n (LB hn)) hC (fun c H3 s3=>?_) (fun h0 H3 s3=>?_)
   . exact⟨_,ds++[n],rfl,(s2.trans s3).own hR,aj,by rw[tk];exact sub.append (List.Sublist.refl _),fun _=>by simp,c⟩
   . exact⟨_,ds,rfl,s2.trans s3,s3 _ _ e2,sub.trans (by rw[tk];exact Of _ _),fun _=>h0,hC⟩
 . rintro σ H2 ⟨v3,ds,rfl,s2,e2,sub,ne,hC⟩;rw[Lp] at ne;rw[Lp] at sub;have il:(iN cs).length=cs.length:=by unfold iN;rw[Lp]
   rw[il] at ne sub;rw[M7] at sub;symm;exact q R ds H2 s2 hR e2 sub (fun h=>ne (by cases cs with | nil=>exact absurd rfl h | cons _ _=>simp)) hC
theorem Fv:((List.range 64).all fun m=>(List.range 6).all fun o=>decide (decide (Builtin.bitAnd ((m:Int)/2^o) 1=1)=stB (m:Int) (1+(o:Int))))=true:=by decide+kernel
theorem Hv{m o:Int}(m0:0<=m)(m1:m<64)(o0:1<=o)(o1:o<=6):decide (Builtin.bitAnd (m/2^(o-1).toNat) 1=1)=stB m o:=by
 have t:=L9 (LM.mp (LM.mp Fv m.toNat (LL.mpr (by omega))) (o-1).toNat (LL.mpr (by omega)));have e1:((m.toNat:Nat):Int)=m:=by omega
 have e2:1+(((o-1).toNat:Nat):Int)=o:=by omega
 rw[e1,e2] at t;exact t
def j8(K:Frag):Sp:=fun vs H Q _=>∃ m:Int,vs=[.int m]/\0<=m/\m<64/\∀(l:Addr) (ss:List Int) (H':Hp),Same H H'->H l=none->H' l=some (.lst (ss.map V.int))->ss.length<=4->(∀ s∈ss,1<=s/\s<=4/\stB m s=true)->Q (.ref l) H'
def j9(K:Frag):TS:=
 (tRet (tComp [none,none,some 0] (sW (tCons (tC (.int 1)) (tCons (tC (.int 5)) tNil))) (gName 1) (tTest (tOp (cEq K) (tOp cAnd (tOp cShr (tVar 2) (tOp cSub (tVar 1) (tC (.int 1)))) (tC (.int 1))) (tC (.int 1)))) (tVar 1)))
theorem wu(h:j8 K vs H Q E):j9 K (eD9 Q) (start ["_law_mask"] vs) H:=by
 obtain⟨m,rfl,m0,m1,q⟩:=h;show j9 K _ [some (.int m)] H;unfold j9;symm;refine⟨1,5,rfl,⟨by decide,by decide,by decide,by decide⟩,?_⟩;refine d6 (fun(i:Nat)=>stB m (1+(i:Int))) (fun(i:Nat)=>1+(i:Int)) (by decide) ?_ ?_ ?_
 . intro i H4 R4 hi s4 k4;have hi':i<4:=hi;show tTest _ [none,some (.int (1+(i:Int))),some (.int m)] H4 R4;symm;refine⟨by omega,?_⟩;rw[Hv m0 m1 (by omega) (by omega)];exact k4 _ (Lr _)
 . intro i H4 Q4 hi hb4 s4 k4;show tVar 1 [none,some (.int (1+(i:Int))),some (.int m)] H4 Q4;symm;exact k4 _ (Lr _)
 . intro l H1 hl s1 el;refine q l _ H1 s1 hl el ?_ ?_
   . rw[Lp];exact Lz (LO _ _) (by decide)
   . intro s hs;obtain⟨i,hi,rfl⟩:=LK.mp hs;have h1:=L4.mp hi;have h2:i<4:=LL.mp h1.1;exact⟨by omega,by omega,h1.2⟩
theorem CH:Ad (fun h w=>(List.range (h*w).toNat).all fun(c:Nat)=>decide (nearL h w c).Nodup)=true:=by decide+kernel
variable{h w g:Int}
theorem Hw{c:Int}(F:FlOk h w g)(c0:0<=c)(c1:c<h*w):(nearL h w c).Nodup:=by
 have t:=LM.mp (yn CH F) c.toNat (LL.mpr (by omega));have e1:((c.toNat:Nat):Int)=c:=by omega
 rw[e1,Lw] at t;exact t
theorem qr{c:Int}(F:FlOk h w g)(c0:0<=c)(c1:c<h*w):(nearL h w c).length<=16:=by
 have t:=wk F c0 c1;rw[t.1];exact Lz (uM ..) (by decide)
def ja(K:Frag):Sp:=fun vs H Q _=>∃(p S:Addr) (h w g:Int) (ss:List Int),vs=[.ref p,.ref S]/\IsFl H p h w g/\FlOk h w g/\H S=some (.lst (ss.map V.int))/\ss.length<=16/\(∀ x∈ss,0<=x/\x<h*w)/\∀ b H',Same H H'->Q (.bl b) H'
def gh(K:Frag):TS:=
 (tRet (tOp (cEq K) (tCB kLen (tCons (tVar 2) tNil)) (tCB kLen (tCons (tVar 1) tNil))))
def ki(K:Frag):TS:=
 (tSeq (zg (tTest (tOp (cCmp fun i j=>decide (i<j)) (tVar 3) (tCB kLen (tCons (tVar 2) tNil))))
  (tSeq (tAsg (tOp cAdd (tVar 2) (tComp [none,none,some 2,some 1] (iList K (tCall (gO K) [] E0 (tCons (tVar 0) (tCons (tOp cIx (tVar 2) (tVar 3)) tNil)))) (gName 1) (tAnd (tTest (tOp (cIn K false) (tVar 1) (tVar 3))) (tTest (tOp (cIn K true) (tVar 1) (tVar 2)))) (tVar 1))) (gName 2))
  (tAsg (tOp cAdd (tVar 3) (tC (.int 1))) (gName 3))))
  (gh K))
def jb(K:Frag):TS:=
 (tSeq (tAsg (tSl ky (tVar 1) fW (tPart (tC (.int 1)))) (gName 2))
  (tSeq (tAsg (tC (.int 0)) (gName 3))
  (ki K)))
theorem u8(h:ja K vs H Q E):jb K (eD9 Q) (start ["_law_floor_here","_law_some","_law_seen","_law_at"] vs) H:=by
 obtain⟨p,S,h,w,g,ss,rfl,hp,F,hS,sn,sin,q⟩:=h;show jb K _ [some (.ref p),some (.ref S),none,none] H;unfold jb;symm;refine pZ hS fun L hL=>?_;rw[show(some (1:Int))=some (((1:Nat):Int)) from rfl,z6 V.int];obtain⟨H1,z9,s1,eL⟩:=aS (.lst ((ss.take 1).map V.int)) hL;rw[z9]
 have n1:(ss.take 1).Nodup:=by
  cases ss with
  | nil=>simp
  | cons x r=>simp
 symm;unfold ki;rw[ay];generalize hW:gh K=W at*
 refine⟨fun m σ H'=>∃(L:Addr) (xs:List Int) (i:Nat),σ=[some (.ref p),some (.ref S),some (.ref L),some (.int (i:Int))]/\Same H H'/\H' L=some (.lst (xs.map V.int))/\xs.Nodup/\(∀ x∈xs,x∈ss)/\i<=xs.length/\m=17-i,
  ⟨_,L,ss.take 1,0,rfl,s1,eL,n1,fun x hx=>MW hx,Ml _,rfl⟩,?_⟩
 rintro m σ H2 ⟨L2,xs,i,rfl,s2,e2,nd,sub,il,rfl⟩;have xl:xs.length<=ss.length:=jt nd sub;symm;rw[aN e2,Lp];symm;by_cases hi:(i:Int) < (xs.length:Int)
 . refine bF (Lv hi) ?_;refine⟨fun σ H'=>∃(L:Addr) (xs:List Int),σ=[some (.ref p),some (.ref S),some (.ref L),some (.int ((i+1:Nat):Int))]/\Same H H'/\H' L=some (.lst (xs.map V.int))/\xs.Nodup/\(∀ x∈xs,x∈ss)/\i+1<=xs.length,fun σ' H' ⟨L',xs',e,s',e',nd',sub',il'⟩=>⟨17 - (i+1),by omega,L',xs',i+1,e,s',e',nd',sub',il',rfl⟩,?_⟩;have hxm:xs.getD i 0∈ss:=sub _ (eP (by omega));have hxb:=sin _ hxm;symm;refine ixI e2 (by omega) (by omega) ?_;rw[MG];refine⟨p,h,w,g,_,rfl,s2 _ _ hp,F,fun N H3 s3 hN eN=>?_⟩;have s23:=s2.trans s3;symm;refine⟨⟨_,LH eN⟩,?_⟩;refine aT (fun z=>decide (z∈ss)&&!decide (z∈xs)) (fun z=>z) (Lz (qr F hxb.1 hxb.2) (by decide)) (LH eN) ?_ ?_ ?_
   . intro x H4 R4 hx s4 k4;show tAnd _ _ [none,some (.int x),some (.ref L2),some (.ref S)] H4 R4;symm;rw[pW ((s23.trans s4) _ _ hS)];symm
     cases hb:decide (x∈ss) with
     | false=>
      rw[hb,LA] at k4;exact k4 _ (Lr _)
     | true=>
      rw[hb,LD] at k4;refine iteT ?_;symm;rw[jq ((s3.trans s4) _ _ e2)];symm;exact k4 _ (Lr _)
   . intro x H4 Q4 hx hb4 s4 k4;show tVar 1 [none,some (.int x),some (.ref L2),some (.ref S)] H4 Q4;symm;exact k4 _ (Lr _)
   . intro A H4 hA s4 eA;have eA:H4 A=some (.lst (((nearL h w (xs.getD i 0)).filter fun z=>decide (z∈ss)&&!decide (z∈xs)).map V.int)):=by rw[MM] at eA;exact eA
     have nd2:((nearL h w (xs.getD i 0)).filter fun z=>decide (z∈ss)&&!decide (z∈xs)).Nodup:=(Hw F hxb.1 hxb.2).filter _
     have sub2:∀ z∈(nearL h w (xs.getD i 0)).filter fun z=>decide (z∈ss)&&!decide (z∈xs),z∈ss/\z∉xs:=fun z hz=>by
      have:=(L4.mp hz).2;rw[Ma,Lw,Oa,Nu] at this;exact this
     generalize (nearL h w (xs.getD i 0)).filter (fun z=>decide (z∈ss)&&!decide (z∈xs))=ys at*;have nd3:(xs++ys).Nodup:=MY.mpr ⟨nd,nd2,fun a ha b hb e=>(sub2 b hb).2 (e ▸ ha)⟩
     have sub3:∀ x∈xs++ys,x∈ss:=fun x hx=>by
      rcases LR.mp hx with hx | hx
      . exact sub x hx
      . exact(sub2 x hx).1
     have l3:=jt nd3 sub3;rw[LC] at l3;refine o4 ((s3.trans s4) _ _ e2) eA (by rw[Lp,Lp];omega) fun r hr=>?_;have s5:Same H4 (upd H4 r (.lst (xs.map V.int++ys.map V.int))):=(Lr H4).laid hr;have er:(upd H4 r (.lst (xs.map V.int++ys.map V.int))) r=some (.lst ((xs++ys).map V.int)):=by rw[aj,My]
     generalize upd H4 r (.lst (xs.map V.int++ys.map V.int))=H5 at*;symm;exact⟨r,xs++ys,rfl,(s23.trans s4).trans s5,er,nd3,sub3,by rw[LC];omega⟩
 . refine bO (Ls hi) ?_;subst hW;unfold gh;symm;rw[aN e2,aN (s2 _ _ hS)];symm;exact q _ H2 s2
def gP(K:Frag):Sp:=fun vs H Q _=>∃(p f:Addr) (h w g s:Int) (fl:List Int) (x:Str),vs=[.ref p,.ref f,.str x,.int s]/\IsFl H p h w g/\FlOk h w g/\H f=some (.lst (fl.map V.int))/\fl.length=(h*w).toNat/\∀ b H',Same H H'->Q (.bl b) H'
def CI(K:Frag):TS:=
 (tSeq (tAsg (tLst (tCons (tVar 4) (tCons (tOp cAdd (tVar 4) (tC (.int 1))) (tCons (tOp cAdd (tVar 4) (tOp cIx (tVar 0) (tC (.int 1)))) (tCons (tOp cAdd (tOp cAdd (tVar 4) (tOp cIx (tVar 0) (tC (.int 1)))) (tC (.int 1))) tNil))))) (gName 6))
  (tIfS (tAnd (tTest (tOp (cCmp fun i j=>decide (j<i)) (tOp cMod (tOp cAdd (tVar 4) (tC (.int 1))) (tOp cIx (tVar 0) (tC (.int 1)))) (tC (.int 0)))) (tTest (tOp (cEq K) (tComp [none,none,some 5] (iList K (tVar 6)) (gName 1) (tTest (tOp (cIn K true) (tVar 1) (tVar 2))) (tVar 1)) (tLst tNil)))) (tRet (tC (.bl false))) tNext))
def cX(K:Frag):TS:=
 (tRet (tOp (cEq K) (tComp [none,none,some 0,some 5] (iList K (tVar 5)) (gName 1) (tTest (tOp (cNe K) (tCB kLen (tCons (tComp [none,none,some 3] (iList K (tCall (gO K) [] E0 (tCons (tVar 2) (tCons (tVar 1) tNil)))) (gName 1) (tTest (tOp (cIn K false) (tVar 1) (tVar 2))) (tVar 1)) tNil)) (tC (.int 2)))) (tVar 1)) (tLst tNil)))
def fw(K:Frag):TS:=
 (tSeq (tIfS (tTest (tOp (cEq K) (tVar 2) (tC (.str (tx [106,111,105,110,101,100]))))) (tRet (tC (.bl true))) tNext)
  (cX K))
def bP(K:Frag):TS:=
 (tSeq (tIfS (tNot (tB (tCall (ja K) [] E0 (tCons (tVar 0) (tCons (tVar 5) tNil))))) (tRet (tC (.bl false))) tNext)
  (fw K))
def jk(K:Frag):TS:=
 (tSeq (tIfS (tTest (tOp (cEq K) (tVar 2) (tC (.str (tx [110,111,115,113,117,97,114,101]))))) (tSeq (tFor (iList K (tVar 5)) (gName 4)
  (CI K))
  (tRet (tC (.bl true)))) tNext)
  (bP K))
def gQ(K:Frag):TS:=
 (tSeq (tAsg (tComp [none,none,some 1,some 3] (fD (tCons (tCB kLen (tCons (tVar 1) tNil)) tNil)) (gName 1) (tTest (tOp (cEq K) (tOp cIx (tVar 2) (tVar 1)) (tVar 3))) (tVar 1)) (gName 5))
  (jk K))
section
variable{K:Frag}{H:Hp}{Q:VK}{p f S:Addr}{h w g s:Int}{fl ss:List Int}{x:Str}
theorem CJ{v2 v3 v4 v6:Option V}(hp:IsFl H p h w g)(F:FlOk h w g)(eS:H S=some (.lst (ss.map V.int)))(sn:ss.length<=16)(sin:∀ x∈ss,0<=x/\x<h*w)(q:∀ b H',Same H H'->Q (.bl b) H'):
  cX K (eD9 Q) [some (.ref p),some (.ref f),v2,v3,v4,some (.ref S),v6] H:=by
 unfold cX;symm;refine⟨⟨_,LH eS⟩,?_⟩;refine aT (fun z=>!decide ((((nearL h w z).filter fun y=>decide (y∈ss)).length:Int)=2)) (fun z=>z) (by omega) (LH eS) ?_ ?_ ?_
 . intro z H4 R4 hz s4 k4;have bz:=sin z hz;show tTest _ [none,some (.int z),some (.ref p),some (.ref S)] H4 R4;symm;refine⟨p,h,w,g,_,rfl,s4 _ _ hp,F,fun N H5 s5 hN eN=>?_⟩;symm;refine⟨⟨_,LH eN⟩,?_⟩;refine aT (fun y=>decide (y∈ss)) (fun y=>y) (Lz (qr F bz.1 bz.2) (by decide)) (LH eN) ?_ ?_ ?_
   . intro y H6 R6 hy s6 k6;show tTest _ [none,some (.int y),some (.ref S)] H6 R6;symm;rw[pW ((s4.trans (s5.trans s6)) _ _ eS)];symm;exact k6 _ (Lr _)
   . intro y H6 Q6 hy hb6 s6 k6;show tVar 1 [none,some (.int y),some (.ref S)] H6 Q6;symm;exact k6 _ (Lr _)
   . intro A H6 hA s6 eA;rw[aN eA,Lp,Lp];symm;exact k4 _ (s5.trans s6)
 . intro z H4 Q4 hz hb4 s4 k4;show tVar 1 [none,some (.int z),some (.ref p),some (.ref S)] H4 Q4;symm;exact k4 _ (Lr _)
 . intro A H4 hA s4 eA;symm;refine⟨aW (by decide),fun e he=>?_⟩;obtain⟨H5,z9,s5,ee⟩:∃ z,upd H4 e (.lst [])=z/\Same H4 z/\z e=some (.lst (([]:List Int).map V.int)):=aS _ he;rw[z9];refine lU (s5 _ _ eA) ee ?_;exact q _ H5 (s4.trans s5)
theorem CK{v3 v4 v6:Option V}(hp:IsFl H p h w g)(F:FlOk h w g)(eS:H S=some (.lst (ss.map V.int)))(sn:ss.length<=16)(sin:∀ x∈ss,0<=x/\x<h*w)(q:∀ b H',Same H H'->Q (.bl b) H'):
  bP K (eD9 Q) [some (.ref p),some (.ref f),some (.str x),v3,v4,some (.ref S),v6] H:=by
 unfold bP;rw[ay,aB];generalize hW:fw K=W at*;symm;refine⟨p,S,h,w,g,ss,rfl,hp,F,eS,sn,sin,fun b H1 s1=>?_⟩
 cases b with
 | false=>
  refine⟨false,rfl,iteT ?_⟩;symm;exact q _ H1 s1
 | true=>
  refine⟨true,rfl,iteF ?_⟩;symm;subst hW;unfold fw;rw[ay,aB];generalize hW:cX K=W at*;symm;by_cases hx:x=tx [106,111,105,110,101,100]
  . refine bF (Lv hx) ?_;symm;exact q _ H1 s1
  . refine bO (Ls hx) ?_;symm;subst hW;exact CJ (s1 _ _ hp) F (s1 _ _ eS) sn sin fun b H' s'=>q b H' (s1.trans s')
theorem Go {D:Ends} {z:Int} {v1 v2 v3 v6:Option V} (hp:IsFl H p h w g) (F:FlOk h w g) (eS:H S=some (.lst (ss.map V.int)))
  (k1:∀ H',Same H H'->D.rt (.bl false) H') (k2:∀ v6 H',Same H H'->D.nx [some (.ref p),v1,v2,v3,some (.int z),some (.ref S),v6] H'):
  CI K D [some (.ref p),v1,v2,v3,some (.int z),some (.ref S),v6] H:=by
 have w0:=F.w0;unfold CI;symm;refine ixT hp (v:=V.int w) rfl ?_;symm;refine ixT hp (v:=V.int w) rfl ?_;symm;refine⟨lnR rfl,fun M hM=>?_⟩;obtain⟨H1,z9,s1,eM⟩:∃ z8,upd H M (.lst [V.int z,V.int (z+1),V.int (z+w),V.int (z+w+1)])=z8/\Same H z8/\z8 M=some (.lst (([z,z+1,z+w,z+w+1]:List Int).map V.int)):=aS _ hM;rw[z9];rw[aB];symm;refine ixT (s1 _ _ hp) (v:=V.int w) rfl ?_;symm;refine⟨by omega,?_⟩
 cases hb:decide (0 < (z+1)%w) with
 | false=>
  refine iteF ?_;exact k2 _ H1 s1
 | true=>
  refine iteT ?_;symm;refine⟨⟨_,LH eM⟩,?_⟩;refine aT (fun y=>!decide (y∈ss)) (fun y=>y) (by show(4:Nat)<=900;decide) (LH eM) ?_ ?_ ?_
  . intro y H6 R6 hy s6 k6;show tTest _ [none,some (.int y),some (.ref S)] H6 R6;symm;rw[jq ((s1.trans s6) _ _ eS)];symm;exact k6 _ (Lr _)
  . intro y H6 Q6 hy hb6 s6 k6;show tVar 1 [none,some (.int y),some (.ref S)] H6 Q6;symm;exact k6 _ (Lr _)
  . intro A H6 hA s6 eA;symm;refine⟨aW (by decide),fun e he=>?_⟩;obtain⟨H7,z9,s7,ee⟩:∃ z,upd H6 e (.lst [])=z/\Same H6 z/\z e=some (.lst (([]:List Int).map V.int)):=aS _ he;rw[z9];have s17:=s1.trans (s6.trans s7);refine lU (s7 _ _ eA) ee ?_;symm
    split
    . exact k1 H7 s17
    . exact k2 _ H7 s17
theorem rX{vs:List V}{E:XK}(h:gP K vs H Q E):gQ K (eD9 Q) (start ["_law_floor_here","_law_filling","_law_word","_law_sign","_law_cell","_law_some","_law_square"] vs) H:=by
 obtain⟨p,f,h,w,g,s,fl,x,rfl,hp,F,ef,fn,q⟩:=h;have m16:=F.m;show gQ K _ [some (.ref p),some (.ref f),some (.str x),some (.int s),none,none,none] H;unfold gQ;symm;rw[aN ef,Lp];refine⟨_,rfl,by omega,by omega,?_⟩;refine d6 (fun(i:Nat)=>decide (fl.getD i 0=s)) (fun(i:Nat)=>(i:Int)) (by omega) ?_ ?_ ?_
 . intro i H4 R4 hi s4 k4;have hi':i<fl.length:=by have:i < ((fl.length:Nat):Int).toNat:=hi;omega
   show tTest _ [none,some (.int (0+(i:Int))),some (.ref f),some (.int s)] H4 R4;rw[ML];symm;refine ixI (s4 _ _ ef) (by omega) (by omega) ?_;rw[MG];symm;exact k4 _ (Lr _)
 . intro i H4 Q4 hi hb4 s4 k4;show tVar 1 [none,some (.int (0+(i:Int))),some (.ref f),some (.int s)] H4 Q4;rw[ML];symm;exact k4 _ (Lr _)
 . intro S H1 hS s1 eS
   have sin:∀ x∈((List.range ((fl.length:Nat):Int).toNat).filter fun(i:Nat)=>decide (fl.getD i 0=s)).map (fun(i:Nat)=>(i:Int)),0<=x/\x<h*w:=fun x hx=>by
    obtain⟨i,hi,rfl⟩:=LK.mp hx;have:=LL.mp (L4.mp hi).1;omega
   have sn:(((List.range ((fl.length:Nat):Int).toNat).filter fun(i:Nat)=>decide (fl.getD i 0=s)).map (fun(i:Nat)=>(i:Int))).length<=16:=by
    rw[Lp];refine Lz (LO _ _) ?_;rw[Mp];omega
   generalize ((List.range ((fl.length:Nat):Int).toNat).filter fun(i:Nat)=>decide (fl.getD i 0=s)).map (fun(i:Nat)=>(i:Int))=ss at*;have fin:∀ H2,Same H1 H2->bP K (eD9 Q) [some (.ref p),some (.ref f),some (.str x),some (.int s),none,some (.ref S),none] H2:=fun H2 s2=>CK ((s1.trans s2) _ _ hp) F (s2 _ _ eS) sn sin fun b H' s'=>q b H' ((s1.trans s2).trans s');symm;unfold jk;rw[ay,aB];generalize hW:bP K=W at*;symm;by_cases hx:x=tx [110,111,115,113,117,97,114,101]
   . refine bF (Lv hx) ?_;generalize hV:CI K=V' at*;symm;subst hV;refine⟨⟨_,LH eS⟩,?_⟩;refine dn (K:=K) (xs:=ss.map V.int) (fun i σ H'=>∃ v4 v6:Option V,σ=[some (.ref p),some (.ref f),some (.str x),some (.int s),v4,some (.ref S),v6]/\Same H1 H') ⟨none,none,rfl,Lr _⟩ (fun i σ H' _ ⟨_,_,_,s'⟩=>LH (s' _ _ eS)) ?_ ?_
     . rintro i v σ H2 hv ⟨v4,v6,rfl,s2⟩;obtain⟨z,hz,rfl⟩:=ba hv;rw[aR];exact Go ((s1.trans s2) _ _ hp) F (s2 _ _ eS) (fun H' s'=>q _ H' ((s1.trans s2).trans s')) fun v6 H' s'=>⟨_,_,rfl,s2.trans s'⟩
     . rintro σ H2 ⟨v4,v6,rfl,s2⟩;symm;exact q _ H2 (s1.trans s2)
   . refine bO (Ls hx) ?_;symm;exact fin H1 (Lr _)
end
structure Rl40(H:Hp)(p f:Addr)(h w g:Int)(fl:List Int):Prop where
 p:IsFl H p h w g
 F:FlOk h w g
 m9:h*w<=9
 f:H f=some (.lst (fl.map V.int))
 fll:fl.length=(h*w).toNat
 sg:∀ x∈fl,1<=x/\x<=g
structure IsRl(H:Hp)(T C:Addr)(r:RR):Prop where
 top:H T=some (.tup [.str (tx (nmC r.k)),.ref C,.int r.m,.str r.txt])
 C:H C=some (.lst (r.cs.map V.int))
variable{r:RR}
theorem IsRl.same{H':Hp}{T C:Addr}(x:IsRl H T C r)(s:Same H H'):IsRl H' T C r:=⟨s _ _ x.top,s _ _ x.C⟩
def RlP(Q:VK)(H:Hp)(h w g:Int):Prop:=∀(T C:Addr) (r:RR) (H':Hp),Same H H'->IsRl H' T C r->r.Ok h w g->Q (.ref T) H'
theorem RlP.of{H1:Hp}(q:RlP Q H h w g)(s:Same H H1):RlP Q H1 h w g:=fun T C r H' s' x O=>q T C r H' (s.trans s') x O
def kI(K:Frag):Sp:=fun vs H Q _=>∃ p f n h w g fl,vs=[.int n,.ref p,.ref f]/\Rl40 H p f h w g fl/\RlP Q H h w g
def CL(K:Frag):TS:=
 (tIfS (tTest (tOp (cIn K true) (tOp cIx (tVar 2) (tVar 7)) (tComp [none,none,some 2] (iList K (tVar 10)) (gName 1) tTrue (tOp cIx (tVar 2) (tVar 1))))) (tDrop (tBM K "list" bD (tVar 10) (tCons (tVar 7) tNil))) tNext)
def d5(K:Frag):TS:=
 (tSeq (tAsg (tLst tNil) (gName 10))
  (tSeq (tFor (iList K (tCall (gq K) [] E0 (tCons (tOp cMod (tOp cDiv (tVar 0) (tC (.int 32))) (tC (.int 2147483647))) (tCons (tVar 3) (tCons (tVar 3) tNil))))) (gName 7)
  (CL K))
  (tRet (tTup (tCons (tC (.str (tx [117,110,108,105,107,101]))) (tCons (tVar 10) (tCons (tC (.int 0)) (tCons (tOp cAdd (tC (.str (tx [117,110,108,105,107,101,32]))) (tBM K "str" ju (tC (.str (tx [32]))) (tCons (tComp [none,none] (iList K (tVar 10)) (gName 1) tTrue (tCB kStr (tCons (tVar 1) tNil))) tNil))) tNil))))))))
def eX(K:Frag):TS:=
 (tSeq (tIfS (tTest (tOp (cEq K) (tVar 4) (tC (.str (tx [114,105,115,105,110,103]))))) (tSeq (tAsg (tCall (gr K) [] E0 (tCons (tVar 2) (tCons (tVar 6) tNil))) (gName 6))
  (tRet (tTup (tCons (tVar 4) (tCons (tVar 6) (tCons (tC (.int 0)) (tCons (tOp cAdd (tC (.str (tx [114,105,115,105,110,103,32]))) (tBM K "str" ju (tC (.str (tx [32]))) (tCons (tComp [none,none] (iList K (tVar 6)) (gName 1) tTrue (tCB kStr (tCons (tVar 1) tNil))) tNil))) tNil))))))) tNext)
  (d5 K))
def e6(K:Frag):TS:=
 (tSeq (tIfS (tTest (tOp (cEq K) (tVar 4) (tC (.str (tx [99,111,117,110,116]))))) (tSeq (tAsg (tCB kLen (tCons (tComp [none,none,some 2,some 5] (iList K (tVar 6)) (gName 1) (tTest (tOp (cEq K) (tOp cIx (tVar 2) (tVar 1)) (tVar 3))) (tVar 1)) tNil)) (gName 9))
  (tRet (tTup (tCons (tVar 4) (tCons (tVar 6) (tCons (tVar 5) (tCons (tOp cAdd (tOp cAdd (tOp cAdd (tOp cAdd (tOp cAdd (tC (.str (tx [99,111,117,110,116,32]))) (tCB kStr (tCons (tVar 9) tNil))) (tC (.str (tx [32])))) (tCB kStr (tCons (tVar 5) tNil))) (tC (.str (tx [32])))) (tVar 8)) tNil))))))) tNext)
  (eX K))
def e7(K:Frag):TS:=
 (tSeq (tIfS (tTest (tOp (cEq K) (tVar 4) (tC (.str (tx [115,101,101,110]))))) (tRet (tTup (tCons (tVar 4) (tCons (tVar 6) (tCons (tC (.int 0)) (tCons (tOp cAdd (tOp cAdd (tOp cAdd (tC (.str (tx [115,101,101,110,32]))) (tCB kStr (tCons (tCB kLen (tCons (tCall (gr K) [] E0 (tCons (tVar 2) (tCons (tVar 6) tNil))) tNil)) tNil))) (tC (.str (tx [32])))) (tVar 8)) tNil)))))) tNext)
  (e6 K))
def e9(K:Frag):TS:=
 (tSeq (tIfS (tTest (tOp (cEq K) (tVar 4) (tC (.str (tx [115,117,109]))))) (tRet (tTup (tCons (tVar 4) (tCons (tVar 6) (tCons (tC (.int 0)) (tCons (tOp cAdd (tOp cAdd (tOp cAdd (tC (.str (tx [115,117,109,32]))) (tCB kStr (tCons (tCB kSum (tCons (tComp [none,none,some 2] (iList K (tVar 6)) (gName 1) tTrue (tOp cIx (tVar 2) (tVar 1))) tNil)) tNil))) (tC (.str (tx [32])))) (tVar 8)) tNil)))))) tNext)
  (e7 K))
def c7(K:Frag):TS:=
 (tSeq (tAsg (tBM K "str" ju (tC (.str (tx [32]))) (tCons (tComp [none,none] (iList K (tVar 6)) (gName 1) tTrue (tCB kStr (tCons (tVar 1) tNil))) tNil)) (gName 8))
  (e9 K))
def fc(K:Frag):TS:=
 (tSeq (tIfS (tAnd (tTest (tOp (cCmp fun i j=>decide (j<i)) (tOp cMod (tVar 0) (tC (.int 8))) (tC (.int 4)))) (tB (tCall (gP K) [] E0 (tCons (tVar 1) (tCons (tVar 2) (tCons (tVar 4) (tCons (tVar 5) tNil))))))) (tRet (tTup (tCons (tVar 4) (tCons (lj (tCons (tVar 3) tNil)) (tCons (tVar 5) (tCons (tOp cAdd (tOp cAdd (tVar 4) (tC (.str (tx [32])))) (tCB kStr (tCons (tVar 5) tNil))) tNil)))))) tNext)
  (c7 K))
def im(K:Frag):TS:=
 (tSeq (tAsg (tOp cAdd (tC (.int 1)) (tOp cMod (tOp cDiv (tVar 0) (tC (.int 8))) (tOp cIx (tVar 1) (tC (.int 2))))) (gName 5))
  (tSeq (tAsg (tCall (gq K) [] E0 (tCons (tOp cMod (tOp cDiv (tVar 0) (tC (.int 32))) (tC (.int 2147483647))) (tCons (tVar 3) (tCons (tOp cAdd (tC (.int 1)) (tOp cMod (tOp cDiv (tVar 0) (tC (.int 32))) (tCB kMin (tCons (tVar 3) (tCons (tC (.int 5)) tNil))))) tNil)))) (gName 6))
  (fc K)))
def io(K:Frag):TS:=
 (tSeq (tAsg (tOp cIx (tLst (tCons (tC (.str (tx [117,110,108,105,107,101]))) (tCons (tC (.str (tx [115,117,109]))) (tCons (tC (.str (tx [114,105,115,105,110,103]))) (tCons (tC (.str (tx [115,101,101,110]))) (tCons (tC (.str (tx [99,111,117,110,116]))) (tCons (tC (.str (tx [106,111,105,110,101,100]))) (tCons (tC (.str (tx [110,111,115,113,117,97,114,101]))) (tCons (tC (.str (tx [114,105,110,103]))) tNil))))))))) (tOp cMod (tVar 0) (tC (.int 8)))) (gName 4))
  (im K))
def kJ(K:Frag):TS:=
 (tSeq (tAsg (tCB kLen (tCons (tVar 2) tNil)) (gName 3))
  (io K))
section
variable{K:Frag}{H:Hp}{Q:VK}{p f C:Addr}{h w g:Int}{fl:List Int}{cs:List Nat}
theorem Rl40.same{H':Hp}(X:Rl40 H p f h w g fl)(s:Same H H'):Rl40 H' p f h w g fl:=⟨s _ _ X.p,X.F,X.m9,s _ _ X.f,X.fll,X.sg⟩
theorem Rl40.ac(X:Rl40 H p f h w g fl)(Y:Cs58 h w cs)(eC:H C=some (.lst ((iN cs).map V.int))):Hs H f C fl cs:=⟨X.f,eC,fun c hc=>by have:=Y.lt c hc;have:=X.fll;omega,Y.len,fun x hx=>by have:=X.sg x hx;have:=X.F.g1;omega⟩
theorem tI{r:RR}(q:RlP Q H h w g)(O:r.Ok h w g)(eC:H C=some (.lst (r.cs.map V.int))):([V.str (tx (nmC r.k)),V.ref C,V.int r.m,V.str r.txt]:List V).length<=sizeLine/\∀ t,H t=none->Q (.ref t) (upd H t (.tup [V.str (tx (nmC r.k)),V.ref C,V.int r.m,V.str r.txt])):=
 ⟨lnR rfl,fun t ht=>q t C r _ ((Lr H).laid ht) ⟨aj,(Lr H).laid ht _ _ eC⟩ O⟩
theorem kK:∀ x y:List Nat,x.length+y.length<=1000->(tx x).length+(tx y).length<=sizeLine:=fun x y h=>by rw[fk,fk];exact aW h
theorem wv{k:RK}{n m:Nat}(F:FlOk h w g)(Y:Cs58 h w cs)(ha:allK k=false)(k0:k≠.Rule)(n0:n<=99)(nz:numK k=false->n=0)(m0:sgnK k=true->1<=(m:Int)/\(m:Int)<=g)(mz:sgnK k=false->m=0):RR.Ok ⟨k,n,m,cs,iN cs⟩ h w g:=CF F Y.ne Y.lt Y.nd Y.len ha k0 n0 nz m0 mz
theorem Gp {D:Ends} {R:Addr} {ds:List Nat} {n:Nat} {v0 v1 v3 v4 v5 v6 v8 v9:Option V} (ef:H f=some (.lst (fl.map V.int))) (eR:H R=some (.lst ((iN ds).map V.int))) (hl:ds.length<=16) (hd:∀ x∈ds,x<fl.length) (hn:n<fl.length)
  (k1:n∉ds->∀ H',Same H H'->D.nx [v0,v1,some (.ref f),v3,v4,v5,v6,some (.int (n:Int)),v8,v9,some (.ref R)] (upd H' R (.lst ((iN (ds++[n])).map V.int))))
  (k2:ds≠[]->∀ H',Same H H'->D.nx [v0,v1,some (.ref f),v3,v4,v5,v6,some (.int (n:Int)),v8,v9,some (.ref R)] H'):
  CL K D [v0,v1,some (.ref f),v3,v4,v5,v6,some (.int (n:Int)),v8,v9,some (.ref R)] H:=by
 unfold CL;rw[aB];symm;refine ixI ef (by omega) (by omega) ?_;refine⟨⟨_,LH eR⟩,?_⟩;refine aT (fun _=>true) (fun x=>fl.getD x.toNat 0) (by unfold iN;rw[Lp];omega) (LH eR) ?_ ?_ ?_
 . intro x H4 R4 hx s4 k4;exact k4 _ (Lr _)
 . intro x H4 Q4 hx hb4 s4 k4;show tOp cIx _ _ [none,some (.int x),some (.ref f)] H4 Q4;symm;have m:=Aj hx;have:=hd _ m.2;exact ixI (s4 _ _ ef) m.1 (by omega) (k4 _ (Lr _))
 . intro S H3 hS s3 eS;have eS:H3 S=some (.lst ((sgAt fl (iN ds)).map V.int)):=by rw[M2.mpr (fun _ _=>rfl)] at eS;exact eS
   rw[jq eS,MG];by_cases h1:fl.getD n 0∈sgAt fl (iN ds)
   . rw[Lv h1];symm;refine k2 (fun e=>?_) H3 s3;rw[e] at h1;cases h1
   . rw[Ls h1];symm;refine⟨bA (s3 _ _ eR),?_⟩;rw[gA (s3 _ _ eR)];refine⟨by rw[Lp];unfold iN;rw[Lp];exact aH (by omega),?_⟩;have:=k1 (fun hm=>h1 (by unfold sgAt iN;exact LK.mpr ⟨(n:Int),LK.mpr ⟨n,hm,rfl⟩,by rw[MG]⟩)) H3 s3;unfold iN at this ⊢;rw[My,My] at this;exact this
theorem EA{D:Addr}{ds:List Nat}{t:List Nat}{R:VK}(Y:Cs58 h w ds)(F:FlOk h w g)(tl:t.length<=100)(eD:H D=some (.lst ((iN ds).map V.int)))(k:∀ H',Same H H'->R (.str (tx (t++catL 32 (ds.map numC)))) H'):
  tyV K "str" (V.str (tx [32])) H/\(∃ xs,SqL K H D xs)/\CompR (Itl K D) (gName 1) tTrue (tCB kStr (tCons (tVar 1) tNil)) (fun l H'=>ju (V.str (tx [32])) [V.ref l] H' fun x H1=>cAdd (V.str (tx t)) x H1 R) [none,none] H:=by
 have jl:=kX Y.len;have eD:H D=some (.lst ((ds.map fun(n:Nat)=>(n:Int)).map V.int)):=eD;refine⟨Ci,⟨_,LH eD⟩,?_⟩;refine yi eD (by have:=Y.len;omega) (Y.lt100 F) fun l H2 hl s2 el=>?_
 refine BR el (rA (by have:=Y.len;simp;omega) (fun t ht=>by
  obtain⟨z,hz,rfl⟩:=LK.mp ht;obtain⟨x,_,rfl⟩:=LK.mp hz;rw[fk];exact Lz fY (by decide)) (by rw[fk];decide)) ?_
 rw[zI,tD];exact strL (by omega) (by omega) (k H2 s2)
theorem yQ{n:Int}{v4 v5 v6 v7 v8 v9:Option V}(X:Rl40 H p f h w g fl)(q:RlP Q H h w g):
  d5 K (eD9 Q) [some (.int n),some (.ref p),some (.ref f),some (.int (fl.length:Int)),v4,v5,v6,v7,v8,v9,none] H:=by
 have fll:=X.fll;have m9:=X.m9;have mp:1<=h*w:=by have:=X.F.h0;have:=X.F.w0;exact NL (by omega) (by omega)
 unfold d5;generalize hU:CL K=U at*;symm;refine⟨aW (by decide),fun R hR=>?_⟩;obtain⟨H1,z9,s1,eR⟩:∃ z,upd H R (.lst [])=z/\Same H z/\z R=some (.lst ((iN []).map V.int)):=aS _ hR;rw[z9];refine⟨⟨by decide,by decide⟩,by decide,?_⟩;refine⟨_,_,_,rfl,by omega,by omega,by omega,fun D cs H2 s2 hD eD nd lt ln=>?_⟩;subst hU;have s12:=s1.trans s2;refine⟨D,rfl,⟨_,LH eD⟩,?_⟩;have il:(iN cs).length=cs.length:=by unfold iN;rw[Lp]
 have nRD:H1 R=some (.lst ((iN []).map V.int)):=eR;refine dn (K:=K) (xs:=(iN cs).map V.int) (fun i σ H'=>∃(v7:Option V) (ds:List Nat),σ=[some (.int n),some (.ref p),some (.ref f),some (.int (fl.length:Int)),v4,v5,v6,v7,v8,v9,some (.ref R)]/\Same H H'/\H' D=some (.lst ((iN cs).map V.int))/\H' R=some (.lst ((iN ds).map V.int))/\ds.Sublist (cs.take i)/\(0<i->ds≠[])) ⟨_,[],rfl,s12,eD,s2 _ _ eR,List.nil_sublist _,fun h=>absurd h (MI _)⟩ (fun i σ H' _ ⟨_,_,_,_,e,_⟩=>LH e) ?_ ?_
 . rintro i v σ H3 hv ⟨v7,ds,rfl,s3,e3,eR3,sub,ne⟩;obtain⟨c,hc,rfl⟩:=ba hv
   have hcn:∃ n,cs[i]? =some n/\c=(n:Int):=by
    unfold iN at hc;rw[Lu] at hc;obtain⟨n,hn,rfl⟩:=M9.mp hc;exact⟨n,hn,rfl⟩
   obtain⟨k,hk,rfl⟩:=hcn;have dl:ds.length<=16:=Lz sub.length_le (by rw[Mm];omega);have dlt:∀ x∈ds,x<fl.length:=fun x hx=>by have:=lt x (MW (sub.subset hx));omega
   have tk:cs.take (i+1)=cs.take i++[k]:=by rw[Nj,hk];rfl
   have nD:R≠D:=fun e=>by rw[e] at eR;rw[eR] at hD;cases hD
   rw[aR];refine Gp (s3 _ _ X.f) eR3 dl dlt (by have:=lt k (LB hk);omega) (fun _ H4 s4=>?_) (fun h0 H4 s4=>?_)
   . exact⟨_,ds++[k],rfl,(s3.trans s4).own hR,by rw[ao nD.symm];exact s4 _ _ e3,aj,by rw[tk];exact sub.append (List.Sublist.refl _),fun _=>by simp⟩
   . exact⟨_,ds,rfl,s3.trans s4,s4 _ _ e3,s4 _ _ eR3,sub.trans (by rw[tk];exact Of _ _),fun _=>h0⟩
 . rintro σ H3 ⟨v7,ds,rfl,s3,e3,eR3,sub,ne⟩;rw[Lp,il] at sub ne;rw[M7] at sub;have Y:Cs58 h w ds:=⟨ne (by omega),nd.sublist sub,fun c hc=>by have:=lt c (sub.subset hc);omega,by have:=sub.length_le;omega⟩;symm;refine EA (K:=K) Y X.F (by decide) eR3 fun H4 s4=>?_
   have e:[117,110,108,105,107,101,32]++catL 32 (ds.map numC)=catL 32 (rowW .Unlike 0 0 ds):=by
    show _=catL 32 (nmC .Unlike::ds.map numC);rw[d8 (mU Y.ne),show nmC .Unlike=[117,110,108,105,107,101] from rfl];simp
   rw[e];exact tI (r:=⟨.Unlike,0,0,ds,iN ds⟩) (q.of (s3.trans s4)) (wv X.F Y rfl (by decide) (by decide) (fun _=>rfl) (fun e=>by cases e) (fun _=>rfl)) (s4 _ _ eR3)
theorem me(k j:RK)(hk:k≠.Rule)(hj:j≠.Rule):decide (tx (nmC k)=tx (nmC j))=decide (k=j):=by
 revert hk hj
 cases k <;> cases j <;> decide+kernel
theorem Ao{k:RK}{n:Int}{v5 v7 v8 v9:Option V}(hk:k≠.Rule)(X:Rl40 H p f h w g fl)(Y:Cs58 h w cs)(eC:H C=some (.lst ((iN cs).map V.int)))(q:RlP Q H h w g):
  eX K (eD9 Q) [some (.int n),some (.ref p),some (.ref f),some (.int (fl.length:Int)),some (.str (tx (nmC k))),v5,some (.ref C),v7,v8,v9,none] H:=by
 unfold eX;rw[ay,aB];generalize hW:d5 K=W at*;symm;rw[show tx [114,105,115,105,110,103]=tx (nmC .Rising) from rfl,me k .Rising hk (by decide)];by_cases e:k=.Rising
 . refine bF (Lv e) ?_;subst e;symm;refine⟨f,C,fl,cs,rfl,X.ac Y eC,fun D ds H1 s1 hD eD sub ne hC=>?_⟩;have Y1:=Y.sub sub (ne Y.ne);symm;refine EA (K:=K) Y1 X.F (by decide) eD fun H2 s2=>?_
   have e:[114,105,115,105,110,103,32]++catL 32 (ds.map numC)=catL 32 (rowW .Rising 0 0 ds):=by
    show _=catL 32 (nmC .Rising::ds.map numC);rw[d8 (mU Y1.ne),show nmC .Rising=[114,105,115,105,110,103] from rfl];simp
   rw[e];exact tI (r:=⟨.Rising,0,0,ds,iN ds⟩) (q.of (s1.trans s2)) (wv X.F Y1 rfl (by decide) (by decide) (fun _=>rfl) (fun e=>by cases e) (fun _=>rfl)) (s2 _ _ eD)
 . refine bO (Ls e) ?_;symm;subst hW;exact yQ X q
theorem Ap{k:RK}{n m:Int}{v7 v9:Option V}(hk:k≠.Rule)(X:Rl40 H p f h w g fl)(Y:Cs58 h w cs)(eC:H C=some (.lst ((iN cs).map V.int)))(m0:1<=m)(m1:m<=g)(q:RlP Q H h w g):
  e6 K (eD9 Q) [some (.int n),some (.ref p),some (.ref f),some (.int (fl.length:Int)),some (.str (tx (nmC k))),some (.int m),some (.ref C),v7,some (.str (tx (catL 32 (cs.map numC)))),v9,none] H:=by
 have g6:=X.F.g1;have cl:=Y.len;have jl:=kX cl;unfold e6;rw[ay,aB];generalize hW:eX K=W at*;symm;rw[show tx [99,111,117,110,116]=tx (nmC .Count) from rfl,me k .Count hk (by decide)];by_cases e:k=.Count
 . refine bF (Lv e) ?_;subst e;symm;refine⟨⟨_,LH eC⟩,?_⟩;refine aT (fun x=>decide (fl.getD x.toNat 0=m)) (fun x=>x) (by unfold iN;rw[Lp];omega) (LH eC) ?_ ?_ ?_
   . intro x H4 R4 hx s4 k4;show tTest _ [none,some (.int x),some (.ref f),some (.int m)] H4 R4;symm;have b:=Fs Y X.fll X.sg hx;refine ixI (s4 _ _ X.f) b.1 b.2.1 ?_;symm;exact k4 _ (Lr _)
   . intro x H4 Q4 hx hb4 s4 k4;show tVar 1 [none,some (.int x),some (.ref f),some (.int m)] H4 Q4;symm;exact k4 _ (Lr _)
   . intro S H3 hS s3 eS;have eS:H3 S=some (.lst ((mkAt fl (iN cs) m).map V.int)):=by rw[MM] at eS;exact eS
     have sl:(mkAt fl (iN cs) m).length<=cs.length:=by unfold mkAt;have:=LO (fun c=>decide (fl.getD c.toNat 0=m)) (iN cs);unfold iN at this ⊢;rw[Lp] at this;exact this
     symm;rw[aN eS,Lp];generalize hN:(mkAt fl (iN cs) m).length=N at*;have t:=CG (i:=m) (by omega) (by omega);symm;rw[tF (show N<100 by omega),t.1];simp only[mx];have ln:(numC N).length<=2:=fY;have lm:(numC m.toNat).length<=2:=fY;refine⟨tG (by omega),kK _ _ (by simp;omega),kK _ _ (by simp;omega),t.2,kK _ _ (by simp;omega),kK _ _ (by simp;omega),kK _ _ (by simp;omega),?_⟩
     have e:[99,111,117,110,116,32]++numC N++[32]++numC m.toNat++[32]++catL 32 (cs.map numC)=catL 32 (rowW .Count N m.toNat cs):=by
      show _=catL 32 (nmC .Count::numC N::numC m.toNat::cs.map numC);rw[d8 (by simp),d8 (by simp),d8 (mU Y.ne),show nmC .Count=[99,111,117,110,116] from rfl];simp
     rw[e,show m=(((m.toNat:Nat):Int)) by omega];exact tI (r:=⟨.Count,N,m.toNat,cs,iN cs⟩) (q.of s3) (wv X.F Y rfl (by decide) (by omega) (fun e=>by cases e) (fun _=>by omega) (fun e=>by cases e)) (s3 _ _ eC)
 . refine bO (Ls e) ?_;symm;subst hW;exact Ao hk X Y eC q
theorem Aq{k:RK}{n m:Int}{v7 v9:Option V}(hk:k≠.Rule)(X:Rl40 H p f h w g fl)(Y:Cs58 h w cs)(eC:H C=some (.lst ((iN cs).map V.int)))(m0:1<=m)(m1:m<=g)(q:RlP Q H h w g):
  e7 K (eD9 Q) [some (.int n),some (.ref p),some (.ref f),some (.int (fl.length:Int)),some (.str (tx (nmC k))),some (.int m),some (.ref C),v7,some (.str (tx (catL 32 (cs.map numC)))),v9,none] H:=by
 have cl:=Y.len;have jl:=kX cl;unfold e7;rw[ay,aB];generalize hW:e6 K=W at*;symm;rw[show tx [115,101,101,110]=tx (nmC .Seen) from rfl,me k .Seen hk (by decide)];by_cases e:k=.Seen
 . refine bF (Lv e) ?_;subst e;symm;refine⟨f,C,fl,cs,rfl,X.ac Y eC,fun D ds H1 s1 hD eD sub ne hC=>?_⟩;have dl:=sub.length_le;symm;rw[aN eD,Lp,show(iN ds).length=ds.length by unfold iN;rw[Lp]];symm;rw[tF (show ds.length<100 by omega)];simp only[mx];have ln:(numC ds.length).length<=2:=fY;refine⟨tG (by omega),kK _ _ (by simp;omega),kK _ _ (by simp;omega),kK _ _ (by simp;omega),?_⟩
   have e:[115,101,101,110,32]++numC ds.length++[32]++catL 32 (cs.map numC)=catL 32 (rowW .Seen ds.length 0 cs):=by
    show _=catL 32 (nmC .Seen::numC ds.length::cs.map numC);rw[d8 (by simp),d8 (mU Y.ne),show nmC .Seen=[115,101,101,110] from rfl];simp
   rw[e];exact tI (r:=⟨.Seen,ds.length,0,cs,iN cs⟩) (q.of s1) (wv X.F Y rfl (by decide) (by omega) (fun e=>by cases e) (fun e=>by cases e) (fun _=>rfl)) (s1 _ _ eC)
 . refine bO (Ls e) ?_;symm;subst hW;exact Ap hk X Y eC m0 m1 q
theorem Ar{k:RK}{n m:Int}{v7 v9:Option V}(hk:k≠.Rule)(X:Rl40 H p f h w g fl)(Y:Cs58 h w cs)(eC:H C=some (.lst ((iN cs).map V.int)))(m0:1<=m)(m1:m<=g)(q:RlP Q H h w g):
  e9 K (eD9 Q) [some (.int n),some (.ref p),some (.ref f),some (.int (fl.length:Int)),some (.str (tx (nmC k))),some (.int m),some (.ref C),v7,some (.str (tx (catL 32 (cs.map numC)))),v9,none] H:=by
 have g6:=X.F.g1;have cl:=Y.len;have jl:=kX cl;unfold e9;rw[ay,aB];generalize hW:e7 K=W at*;symm;rw[show tx [115,117,109]=tx (nmC .Sum) from rfl,me k .Sum hk (by decide)];by_cases e:k=.Sum
 . refine bF (Lv e) ?_;subst e;symm;refine⟨⟨_,LH eC⟩,?_⟩;refine aT (fun _=>true) (fun x=>fl.getD x.toNat 0) (by unfold iN;rw[Lp];omega) (LH eC) ?_ ?_ ?_
   . intro x H4 R4 hx s4 k4;exact k4 _ (Lr _)
   . intro x H4 Q4 hx hb4 s4 k4;show tOp cIx _ _ [none,some (.int x),some (.ref f)] H4 Q4;symm;have b:=Fs Y X.fll X.sg hx;exact ixI (s4 _ _ X.f) b.1 b.2.1 (k4 _ (Lr _))
   . intro S H3 hS s3 eS;have eS:H3 S=some (.lst ((sgAt fl (iN cs)).map V.int)):=by rw[M2.mpr (fun _ _=>rfl)] at eS;exact eS
     have bd:∀ x∈sgAt fl (iN cs),0<=x/\x<=6:=fun x hx=>by
      unfold sgAt at hx;obtain⟨z,hz,rfl⟩:=LK.mp hx;have b:=Fs Y X.fll X.sg hz;omega
     have sl:(sgAt fl (iN cs)).length=cs.length:=by unfold sgAt iN;simp
     have sb:=Al _ bd;symm;refine zb eS (fun x hx=>by have:=bd x hx;omega) (by omega) ?_;have s99:(sgAt fl (iN cs)).sum<100:=by omega
     generalize hsm:(sgAt fl (iN cs)).sum=sm at*;have t:=CG (i:=sm) sb.1 s99;symm;rw[t.1];simp only[mx];have ln:(numC sm.toNat).length<=2:=fY;refine⟨t.2,kK _ _ (by simp;omega),kK _ _ (by simp;omega),kK _ _ (by simp;omega),?_⟩
     have e:[115,117,109,32]++numC sm.toNat++[32]++catL 32 (cs.map numC)=catL 32 (rowW .Sum sm.toNat 0 cs):=by
      show _=catL 32 (nmC .Sum::numC sm.toNat::cs.map numC);rw[d8 (by simp),d8 (mU Y.ne),show nmC .Sum=[115,117,109] from rfl];simp
     rw[e];exact tI (r:=⟨.Sum,sm.toNat,0,cs,iN cs⟩) (q.of s3) (wv X.F Y rfl (by decide) (by omega) (fun e=>by cases e) (fun e=>by cases e) (fun _=>rfl)) (s3 _ _ eC)
 . refine bO (Ls e) ?_;symm;subst hW;exact Aq hk X Y eC m0 m1 q
theorem At{k:RK}{n m:Int}{v7 v9:Option V}(hk:k≠.Rule)(X:Rl40 H p f h w g fl)(Y:Cs58 h w cs)(eC:H C=some (.lst ((iN cs).map V.int)))(m0:1<=m)(m1:m<=g)(q:RlP Q H h w g):
  c7 K (eD9 Q) [some (.int n),some (.ref p),some (.ref f),some (.int (fl.length:Int)),some (.str (tx (nmC k))),some (.int m),some (.ref C),v7,none,v9,none] H:=by
 unfold c7;rw[ay,bI];refine Ht rfl eC Y.len (Y.lt100 X.F) fun H1 s1=>?_;generalize hW:e9 K=W at*;symm;subst hW;exact Ar hk (X.same s1) Y (s1 _ _ eC) m0 m1 (q.of s1)
theorem Au{k:RK}{n m:Int}{v7 v9:Option V}(hk:k≠.Rule)(ek:4<n%8->allK k=true)(X:Rl40 H p f h w g fl)(Y:Cs58 h w cs)(eC:H C=some (.lst ((iN cs).map V.int)))(m0:1<=m)(m1:m<=g)(q:RlP Q H h w g):
  fc K (eD9 Q) [some (.int n),some (.ref p),some (.ref f),some (.int (fl.length:Int)),some (.str (tx (nmC k))),some (.int m),some (.ref C),v7,none,v9,none] H:=by
 have g6:=X.F.g1;have m9:=X.m9;have fll:=X.fll;have fin:∀ H1,Same H H1->c7 K (eD9 Q) [some (.int n),some (.ref p),some (.ref f),some (.int (fl.length:Int)),some (.str (tx (nmC k))),some (.int m),some (.ref C),v7,none,v9,none] H1:=fun H1 s1=>At hk (X.same s1) Y (s1 _ _ eC) m0 m1 (q.of s1);unfold fc;rw[ay,aB];generalize hW:c7 K=W at*;symm;refine⟨by decide,?_⟩;by_cases h4:4<n%8
 . refine bF (Lv h4) ?_;symm;refine⟨p,f,h,w,g,m,fl,_,rfl,X.p,X.F,X.f,X.fll,fun b H1 s1=>?_⟩
   cases b with
   | false=>
    refine⟨false,rfl,?_⟩;exact fin H1 s1
   | true=>
    refine⟨true,rfl,?_⟩;have ka:=ek h4
    have kk:numK k=false/\sgnK k=true/\(nmC k).length<=10:=by
     revert ka
     cases k <;> decide
    refine iteT ?_;symm;refine⟨_,rfl,by omega,by omega,fun D hD=>?_⟩;obtain⟨H2,z9,s2,eD⟩:=aS (.lst ((rngL 0 (fl.length:Int)).map V.int)) hD;rw[z9];have t:=CG (i:=m) (by omega) (by omega);have lm:(numC m.toNat).length<=2:=fY;symm;rw[t.1];simp only[mx];refine⟨kK _ _ (by simp;omega),t.2,kK _ _ (by simp;omega),?_⟩
    have e:nmC k++[32]++numC m.toNat=catL 32 (rowW k 0 m.toNat []):=by
     unfold rowW;rw[kk.1,kk.2.1];show _=nmC k++32::numC m.toNat;simp
    have hm:(fl.length:Int)=h*w:=by
     have:=X.F.h0;have:=X.F.w0;have:0<=h*w:=M8 (by omega) (by omega);omega
    rw[e,show m=(((m.toNat:Nat):Int)) by omega];rw[hm] at eD;exact tI (r:=⟨k,0,m.toNat,[],rngL 0 (h*w)⟩) (q.of (s1.trans s2)) (Ef ka hk kk.1 kk.2.1 (by omega) (by omega)) eD
 . refine bO (Ls h4) ?_;exact fin H (Lr _)
abbrev xG:List V:=[V.str (tx [117,110,108,105,107,101]),V.str (tx [115,117,109]),V.str (tx [114,105,115,105,110,103]),V.str (tx [115,101,101,110]),V.str (tx [99,111,117,110,116]),V.str (tx [106,111,105,110,101,100]),V.str (tx [110,111,115,113,117,97,114,101]),V.str (tx [114,105,110,103])]
theorem Gq{j:Int}(j0:0<=j)(j1:j<8):∃ k:RK,k≠.Rule/\(4<j->allK k=true)/\atI xG j=some (V.str (tx (nmC k))):=by
 have e:j=0\/j=1\/j=2\/j=3\/j=4\/j=5\/j=6\/j=7:=by omega
 rcases e with rfl | rfl | rfl | rfl | rfl | rfl | rfl | rfl
 . exact⟨.Unlike,by decide,by decide,rfl⟩
 . exact⟨.Sum,by decide,by decide,rfl⟩
 . exact⟨.Rising,by decide,by decide,rfl⟩
 . exact⟨.Seen,by decide,by decide,rfl⟩
 . exact⟨.Count,by decide,by decide,rfl⟩
 . exact⟨.Joined,by decide,by decide,rfl⟩
 . exact⟨.NoSquare,by decide,by decide,rfl⟩
 . exact⟨.Ring,by decide,by decide,rfl⟩
theorem xH{vs:List V}{E:XK}(h:kI K vs H Q E):kJ K (eD9 Q) (start ["_law_number","_law_floor_here","_law_filling","_law_many","_law_word","_law_sign","_law_cells","_law_cell","_law_end","_law_count","_law_some"] vs) H:=by
 obtain⟨p,f,n,h,w,g,fl,rfl,X,q⟩:=h;have fll:=X.fll;have m9:=X.m9;have g0:=X.F.g0;have mp:1<=h*w:=by have:=X.F.h0;have:=X.F.w0;exact NL (by omega) (by omega)
 show kJ K _ [some (.int n),some (.ref p),some (.ref f),none,none,none,none,none,none,none,none] H;unfold kJ;rw[ay];generalize hW:io K=W at*;symm;rw[aN X.f,Lp];subst hW;unfold io;rw[ay];generalize hW:im K=W at*;symm;refine⟨lnR rfl,fun U hU=>?_⟩;refine⟨by decide,?_⟩;have s1:Same H (upd H U (.lst xG)):=(Lr H).laid hU;have eU:(upd H U (.lst xG)) U=some (.lst xG):=aj;show cIx (V.ref U) (V.int (n%8)) (upd H U (.lst xG)) _;generalize upd H U (.lst xG)=H1 at*;obtain⟨k,k0,ka,ek⟩:=Gq (j:=n%8) (Mc n (by decide)) (Mb n (by decide));refine ixL eU ek ?_;subst hW;unfold im;generalize hW:fc K=W at*;symm;refine⟨⟨by decide,by decide⟩,?_⟩;refine ixT (s1 _ _ X.p) (v:=V.int g) rfl ?_;symm;have b0:=Mc (n/8) (show g≠0 by omega);have b1:=Mb (n/8) (show 0<g by omega);refine⟨by omega,?_⟩;symm;have mn:1<=(if (5:Int) < (fl.length:Int) then(5:Int) else(fl.length:Int))/\(if (5:Int) < (fl.length:Int) then(5:Int) else(fl.length:Int))<=fl.length:=by split <;> omega
 refine⟨⟨by decide,by decide⟩,by decide,⟨by decide,by decide⟩,?_⟩;generalize (if (5:Int) < (fl.length:Int) then(5:Int) else(fl.length:Int))=mm at*;have d0:=Mc (n/32) (show mm≠0 by omega);have d1:=Mb (n/32) (show 0<mm by omega);refine⟨by omega,?_⟩;refine⟨_,_,_,rfl,by omega,by omega,by omega,fun C cs H2 s2 hC eC nd lt ln=>?_⟩;subst hW;have Y:Cs58 h w cs:=⟨fun e=>by rw[e] at ln;simp at ln;omega,nd,fun c hc=>by have:=lt c hc;omega,by omega⟩;have s12:=s1.trans s2;exact Au k0 ka (X.same s12) Y eC (by omega) (by omega) (q.of s12)
end
theorem CM{q:Addr}{ws:List Str}{w:Str}(hq:H q=some (.lst (ws.map V.str)))(hm:w∈ws)(ok:∀ x∈ws,PyData.strOk x=true)(hn:ws.length<=900)(h:Q (.int (ws.findIdx (· ==w):Nat)) H):jr K (.ref q) [.str w] H Q:=by
 have hlt:ws.findIdx (· ==w)<ws.length:=MZ ⟨w,hm,by simp⟩;refine⟨ws.map PyData.str,.str w,ws.findIdx (· ==w),.lst (LH hq) (.strs ws),.str w,tz fun d hd=>by obtain⟨x,hx,rfl⟩:=LK.mp hd;rw[PyData.canLay0];exact ok x hx,by rw[PyData.canLay0];exact ok w hm,?_,by omega,⟨.str ws[ws.findIdx (· ==w)],?_,?_⟩,fun m e hm2 he=>?_,h⟩
 . rw[show(PyData.str w).depth=0 by simp[PyData.depth]];omega
 . rw[Lu,Lq hlt];rfl
 . have:=List.findIdx_getElem (w:=hlt);rw[nt,Lw]
   simpa using this
 . have hml:m<ws.length:=by omega
   rw[Lu,Lq hml] at he;cases he;have:=Os hm2;rw[nt,Nu]
   simpa using this
def CN:List (List Nat)->(St->Hp->(List V->Hp->Prop)->Prop)
 | []=>tNil
 | x::r=>tCons (tC (.str (tx x))) (CN r)
def CO:List (List (List Nat))->(St->Hp->(List V->Hp->Prop)->Prop)
 | []=>tNil
 | p::r=>tCons (tLst (CN p)) (CO r)
theorem xI{σ:St}:∀(ps:List (List Nat)) (H:Hp) (Q:List V->Hp->Prop),Q (ps.map fun x=>V.str (tx x)) H->CN ps σ H Q
 | [],H,Q,h=>h
 | x::r,H,Q,h=>by
  unfold CN;symm;exact xI r H _ h
theorem Av{σ:St}:∀(ps:List (List (List Nat))) (H:Hp) (Q:List V->Hp->Prop),(∀ p∈ps,p.length<=1000)->(∀(as:List Addr) (H':Hp),Same H H'->(∀ a∈as,H a=none)->as.length=ps.length->(∀(j:Nat) (a:Addr) (p:List (List Nat)),as[j]? =some a->ps[j]? =some p->H' a=some (.lst (p.map fun x=>V.str (tx x))))->Q (as.map V.ref) H')->CO ps σ H Q
 | [],H,Q,_,h=>h [] H (Lr H) (fun _ h=>nomatch h) rfl fun j a p e _=>by simp at e
 | p::r,H,Q,hl,h=>by
  unfold CO;symm;refine xI p H _ ?_;refine⟨aW (by rw[Lp];exact hl p LQ),fun t ht=>?_⟩;obtain⟨H1,z9,s1,et⟩:=aS (.lst (p.map fun x=>V.str (tx x))) ht;rw[z9];refine Av r H1 _ (fun p hp=>hl p (LI _ hp)) fun as H2 s2 fr hl ha=>?_
  refine h (t::as) H2 (s1.trans s2) (fun a ha=>by
   rcases LW.mp ha with rfl | ha
   . exact ht
   . exact s1.free (fr a ha)) (by simp[hl]) fun j a q e1 e2=>?_
  match j,e1,e2 with
  | 0,e1,e2=>
   simp at e1 e2;subst e1 e2;exact s2 _ _ et
  | j+1,e1,e2=>exact ha j a q (by simpa using e1) (by simpa using e2)
def kL:RK->List TK
 | .Unlike=>[.only,.place,.pair,.only,.ways]
 | .Ring=>[.reach,.turn,.turn]
 | .Sum=>[.sum,.ways]
 | .Rising=>[.step,.ways]
 | .Seen=>[.ways]
 | .Count=>[.count,.ways]
 | .Joined=>[.reach]
 | .NoSquare=>[.square]
 | .Rule=>[]
abbrev ks40:List RK:=[.Sum,.Rising,.Seen,.Count,.Joined,.NoSquare]
def kb(K:Frag):Sp:=fun vs H Q _=>∃ k:RK,vs=[.str (tx (nmC k))]/\k≠.Rule/\∀(l:Addr) (H':Hp),Same H H'->H l=none->KdL H' l (kL k)->Q (.ref l) H'
def lp(K:Frag):TS:=
 (tRet (tOp cIx (tLst (tCons (tLst (tCons (tC (.str (tx [115,117,109]))) (tCons (tC (.str (tx [119,97,121,115]))) tNil))) (tCons (tLst (tCons (tC (.str (tx [115,116,101,112]))) (tCons (tC (.str (tx [119,97,121,115]))) tNil))) (tCons (tLst (tCons (tC (.str (tx [119,97,121,115]))) tNil)) (tCons (tLst (tCons (tC (.str (tx [99,111,117,110,116]))) (tCons (tC (.str (tx [119,97,121,115]))) tNil))) (tCons (tLst (tCons (tC (.str (tx [114,101,97,99,104]))) tNil)) (tCons (tLst (tCons (tC (.str (tx [115,113,117,97,114,101]))) tNil)) tNil))))))) (tBM K "list" (jr K) (tVar 1) (tCons (tVar 0) tNil))))
def gR(K:Frag):TS:=
 (tSeq (tAsg (tLst (tCons (tC (.str (tx [115,117,109]))) (tCons (tC (.str (tx [114,105,115,105,110,103]))) (tCons (tC (.str (tx [115,101,101,110]))) (tCons (tC (.str (tx [99,111,117,110,116]))) (tCons (tC (.str (tx [106,111,105,110,101,100]))) (tCons (tC (.str (tx [110,111,115,113,117,97,114,101]))) tNil))))))) (gName 1))
  (lp K))
def gS(K:Frag):TS:=
 (tSeq (tIfS (tTest (tOp (cEq K) (tVar 0) (tC (.str (tx [114,105,110,103]))))) (tRet (tLst (tCons (tC (.str (tx [114,101,97,99,104]))) (tCons (tC (.str (tx [116,117,114,110]))) (tCons (tC (.str (tx [116,117,114,110]))) tNil))))) tNext)
  (gR K))
def kc(K:Frag):TS:=
 (tSeq (tIfS (tTest (tOp (cEq K) (tVar 0) (tC (.str (tx [117,110,108,105,107,101]))))) (tRet (tLst (tCons (tC (.str (tx [111,110,108,121]))) (tCons (tC (.str (tx [112,108,97,99,101]))) (tCons (tC (.str (tx [112,97,105,114]))) (tCons (tC (.str (tx [111,110,108,121]))) (tCons (tC (.str (tx [119,97,121,115]))) tNil))))))) tNext)
  (gS K))
theorem ww(h:kb K vs H Q E):kc K (eD9 Q) (start ["_law_word","_law_words"] vs) H:=by
 obtain⟨k,rfl,hk,q⟩:=h;show kc K _ [some (.str (tx (nmC k))),none] H;unfold kc;rw[ay,aB];generalize hW:gS K=W at*;symm;rw[show tx [117,110,108,105,107,101]=tx (nmC .Unlike) from rfl,me k .Unlike hk (by decide)];by_cases e:k=.Unlike
 . refine bF (Lv e) ?_;subst e;symm;refine⟨lnR rfl,fun l hl=>?_⟩;exact q l _ ((Lr H).laid hl) hl aj
 refine bO (Ls e) ?_;symm;subst hW;unfold gS;rw[ay,aB];generalize hW:gR K=W at*;symm;rw[show tx [114,105,110,103]=tx (nmC .Ring) from rfl,me k .Ring hk (by decide)];by_cases e2:k=.Ring
 . refine bF (Lv e2) ?_;subst e2;symm;refine⟨lnR rfl,fun l hl=>?_⟩;exact q l _ ((Lr H).laid hl) hl aj
 refine bO (Ls e2) ?_;symm;subst hW;unfold gR;rw[ay,bI,db];refine xI (ks40.map nmC) H _ ?_;refine⟨lnR rfl,fun U hU=>?_⟩;obtain⟨H1,z9,s1,eU⟩:∃ z,upd H U (.lst ((ks40.map nmC).map fun x=>V.str (tx x)))=z/\Same H z/\z U=some (.lst ((ks40.map fun k=>tx (nmC k)).map V.str)):=aS _ hU;rw[z9];rw[aR];dsimp only[List.set_cons_succ,List.set_cons_zero];unfold lp;rw[ca,fF,db];refine Av ((ks40.map kL).map fun ts=>ts.map tkC) H1 _ (by decide) fun as H2 s2 fr hl ha=>?_;have hl6:as.length=6:=hl;refine⟨aW (by rw[Lp];omega),fun V2 hV=>?_⟩;obtain⟨H3,z9,s3,eV⟩:=aS (.lst (as.map V.ref)) hV;rw[z9];symm;refine⟨bA ((s2.trans s3) _ _ eU),?_⟩;have hmem:k∈ks40:=by revert e e2 hk;cases k <;> decide
 refine CM ((s2.trans s3) _ _ eU) (LK.mpr ⟨k,hmem,rfl⟩) (fun x hx=>by
  obtain⟨j,_,rfl⟩:=LK.mp hx;exact Cp (HP j)) (by decide) ?_
 have ei:∃ i:Nat,i<6/\(ks40.map fun k=>tx (nmC k)).findIdx (· ==tx (nmC k))=i/\((ks40.map kL).map fun ts=>ts.map tkC)[i]? =some ((kL k).map tkC):=by
  revert e e2 hk
  cases k
  case Rule=>intro h;exact absurd rfl h
  case Unlike=>intro _ h;exact absurd rfl h
  case Ring=>intro _ _ h;exact absurd rfl h
  case Sum=>intros;exact⟨0,by decide,by decide+kernel,rfl⟩
  case Rising=>intros;exact⟨1,by decide,by decide+kernel,rfl⟩
  case Seen=>intros;exact⟨2,by decide,by decide+kernel,rfl⟩
  case Count=>intros;exact⟨3,by decide,by decide+kernel,rfl⟩
  case Joined=>intros;exact⟨4,by decide,by decide+kernel,rfl⟩
  case NoSquare=>intros;exact⟨5,by decide,by decide+kernel,rfl⟩
 obtain⟨i,i6,hi,hp⟩:=ei;rw[hi];have ea:as[i]? =some (as[i]'(by omega)):=Lq (by omega);refine ixL eV (v:=V.ref (as[i]'(by omega))) (cR (by rw[Lu,ea];rfl)) ?_;have el:=s3 _ _ (ha i _ _ ea hp);refine q _ H3 ((s1.trans s2).trans s3) (s1.free (fr _ (L1 _))) ?_;unfold KdL;rw[el,Mf,Mf];rfl
theorem Gr(t u:TK):decide (tx (tkC t)=tx (tkC u))=decide (t=u):=Gi
variable{xs:List Int}
theorem EB{j:Int}(j0:0<=j)(j1:j<xs.length):atI (xs.map V.int) (-1-j)=some (V.int (xs.getD (xs.length-1-j.toNat) 0)):=by
 unfold atI ixN;rw[Lp,LU (by omega),LX (by omega)];show(xs.map V.int)[(-1-j+(xs.length:Int)).toNat]? =_;rw[show(-1-j+(xs.length:Int)).toNat=xs.length-1-j.toNat by omega,Lu,Lq (by omega),List.getD,Lq (by omega)];rfl
structure Mr40(H:Hp)(p A C:Addr)(h w g n z goal:Int)(cs ms:List Int)(t:TK):Prop where
 p:IsFl H p h w g
 F:FlOk h w g
 A:H A=some (.lst (ms.map V.int))
 mn:ms.length<=16
 C:H C=some (.lst (cs.map V.int))
 cn:cs.length<=16
 n0:0<=n
 z0:0<=z
 z1:z<h*w
 go:t=.reach->1<=goal/\goal<=6
def MrP(Q:VK)(H:Hp):Prop:=∀(M:Addr) (xs:List Int) (H':Hp),Same H H'->H M=none->H' M=some (.lst (xs.map V.int))->xs.length<=100->Q (.ref M) H'
theorem MrP.of{H1:Hp}(q:MrP Q H)(s:Same H H1):MrP Q H1:=fun M xs H' s' hM e l=>q M xs H' (s.trans s') (s.free hM) e l
def kM(K:Frag):Sp:=fun vs H Q _=>∃ p A C h w g n z s goal cs ms t,vs=[.str (tx (tkC t)),.int n,.ref p,.ref A,.ref C,.int z,.int s,.int goal]/\Mr40 H p A C h w g n z goal cs ms t/\MrP Q H
def CP(K:Frag):TS:=
 (tSeq (tAsg (tOp cAdd (tComp [none,none,some 5,some 7,some 3] (fD (tCons (tCB kLen (tCons (tVar 3) tNil)) tNil)) (gName 1) (tAnd (tTest (tOp (cNe K) (tVar 1) (tVar 2))) (tTest (tOp (cEq K) (tOp cIx (tVar 4) (tVar 1)) (tOp cShl (tC (.int 1)) (tOp cSub (tVar 3) (tC (.int 1))))))) (tVar 1)) (tLst (tCons (tC (.int 0)) tNil))) (gName 11))
  (tRet (tSl ky (tLst (tCons (tOp cIx (tVar 11) (tOp cMod (tVar 1) (tCB kLen (tCons (tVar 11) tNil)))) (tCons (tOp cIx (tVar 11) (tOp cSub (tUn (rU fun i=>.int (-i)) (tC (.int 1))) (tOp cMod (tOp cDiv (tVar 1) (tC (.int 16))) (tCB kLen (tCons (tVar 11) tNil))))) tNil))) fW (tPart (tOp cSub (tC (.int 2)) (tCB p8 (tCons (tOp (cEq K) (tVar 6) (tVar 7)) tNil)))))))
def gU(K:Frag):TS:=
 (tRet (tLst tNil))
def ip(K:Frag):TS:=
 (tSeq (tIfS (tAnd (tTest (tOp (cEq K) (tVar 0) (tC (.str (tx [116,117,114,110]))))) (tTest (tOp (cEq K) (tOp cMod (tVar 1) (tC (.int 2))) (tC (.int 1))))) (tRet (tLst (tCons (tOp cIx (tVar 12) (tOp cMod (tOp cDiv (tVar 1) (tC (.int 2))) (tCB kLen (tCons (tVar 12) tNil)))) tNil))) tNext)
  (gU K))
def fe(K:Frag):TS:=
 (tSeq (tAsg (tOp cAdd (tCall (gO K) [] E0 (tCons (tVar 2) (tCons (tVar 5) tNil))) (tLst (tCons (tC (.int 0)) tNil))) (gName 12))
  (ip K))
def ff(K:Frag):TS:=
 (tSeq (tIfS (tTest (tOp (cEq K) (tVar 0) (tC (.str (tx [114,101,97,99,104]))))) (CP K) tNext)
  (fe K))
def fg(K:Frag):TS:=
 (tSeq (tIfS (tTest (tOp (cEq K) (tVar 0) (tC (.str (tx [115,113,117,97,114,101]))))) (tRet (tLst (tCons (tCB kMax (tCons (tC (.int 0)) (tCons (tOp cSub (tVar 5) (tOp cIx (tLst (tCons (tC (.int 0)) (tCons (tC (.int 1)) (tCons (tOp cIx (tVar 2) (tC (.int 1))) (tCons (tOp cAdd (tOp cIx (tVar 2) (tC (.int 1))) (tC (.int 1))) tNil))))) (tOp cMod (tVar 1) (tC (.int 4))))) tNil))) tNil))) tNext)
  (ff K))
def iq(K:Frag):TS:=
 (tSeq (tIfS (tTest (tOp (cEq K) (tVar 0) (tC (.str (tx [112,97,105,114]))))) (tRet (tLst (tCons (tOp cIx (tVar 9) (tVar 8)) (tCons (tOp cIx (tVar 9) (tVar 10)) tNil)))) tNext)
  (fg K))
def iu(K:Frag):TS:=
 (tSeq (tIfS (tTest (tOp (cEq K) (tVar 0) (tC (.str (tx [112,108,97,99,101]))))) (tRet (tLst (tCons (tOp cAdd (tC (.int 1)) (tOp cMod (tVar 1) (tOp cIx (tVar 2) (tC (.int 2))))) tNil))) tNext)
  (iq K))
def fh(K:Frag):TS:=
 (tSeq (tIfS (tTest (tOp (cEq K) (tVar 0) (tC (.str (tx [111,110,108,121]))))) (tRet (tLst (tCons (tOp cIx (tVar 9) (tVar 8)) tNil))) tNext)
  (iu K))
def iw(K:Frag):TS:=
 (tSeq (tAsg (tOp cMod (tVar 1) (tCB kLen (tCons (tVar 9) tNil))) (gName 8))
  (tSeq (tAsg (tCB kMin (tCons (tOp cAdd (tOp cAdd (tVar 8) (tC (.int 1))) (tOp cMod (tOp cDiv (tVar 1) (tC (.int 16))) (tCB kLen (tCons (tVar 9) tNil)))) (tCons (tOp cSub (tCB kLen (tCons (tVar 9) tNil)) (tC (.int 1))) tNil))) (gName 10))
  (fh K)))
def kN(K:Frag):TS:=
 (tSeq (tAsg (tOp cAdd (tComp [none,none,some 5] (iList K (tVar 4)) (gName 1) (tTest (tOp (cNe K) (tVar 1) (tVar 2))) (tVar 1)) (tLst (tCons (tVar 5) tNil))) (gName 9))
  (iw K))
section
variable{K:Frag}{H:Hp}{Q:VK}{p A C O:Addr}{h w g n z s goal:Int}{cs ms os:List Int}{t:TK}
theorem Mr40.same{H':Hp}(X:Mr40 H p A C h w g n z goal cs ms t)(s:Same H H'):Mr40 H' p A C h w g n z goal cs ms t:=⟨s _ _ X.p,X.F,s _ _ X.A,X.mn,s _ _ X.C,X.cn,X.n0,X.z0,X.z1,X.go⟩
theorem zd(q:MrP Q H){x:Int}:([V.int x]:List V).length<=sizeLine/\∀ l,H l=none->Q (.ref l) (upd H l (.lst [V.int x])):=⟨lnR rfl,fun l hl=>q l [x] _ ((Lr H).laid hl) hl aj (by show(1:Nat)<=100;decide)⟩
theorem qt{x:Int}{xs:List Int}(h:0<xs.length):0<=x % ((xs.length:Nat):Int)/\x % ((xs.length:Nat):Int) < ((xs.length:Nat):Int):=⟨Mc x (by omega),Mb x (by omega)⟩
theorem Aw{v8 v9 v10 v11:Option V}(X:Mr40 H p A C h w g n z goal cs ms t)(q:MrP Q H):
  fe K (eD9 Q) [some (.str (tx (tkC t))),some (.int n),some (.ref p),some (.ref A),some (.ref C),some (.int z),some (.int s),some (.int goal),v8,v9,v10,v11,none] H:=by
 unfold fe;generalize hW:ip K=W at*;symm;refine⟨p,h,w,g,z,rfl,X.p,X.F,fun N H1 s1 hN eN=>?_⟩;have nl:=qr X.F X.z0 X.z1;symm;refine⟨lnR rfl,fun Z hZ=>?_⟩;obtain⟨H2,z9,s2,eZ⟩:∃ z,upd H1 Z (.lst [V.int 0])=z/\Same H1 z/\z Z=some (.lst (([0]:List Int).map V.int)):=aS _ hZ;rw[z9];refine o4 (s2 _ _ eN) eZ (by rw[Lp,Lp];simp;omega) fun Y hY=>?_;have s3:Same H2 (upd H2 Y (.lst ((nearL h w z).map V.int++([0]:List Int).map V.int))):=(Lr H2).laid hY;have eY:(upd H2 Y (.lst ((nearL h w z).map V.int++([0]:List Int).map V.int))) Y=some (.lst ((nearL h w z++[0]).map V.int)):=by rw[aj,My]
 generalize upd H2 Y (.lst ((nearL h w z).map V.int++([0]:List Int).map V.int))=H3 at*;have s13:=s1.trans (s2.trans s3);have yl:0 < (nearL h w z++[0]).length:=by simp
 generalize nearL h w z++[0]=ys at*;subst hW;unfold ip;rw[ay,aB];generalize hW:gU K=W at*
 have fin:W (eD9 Q) [some (.str (tx (tkC t))),some (.int n),some (.ref p),some (.ref A),some (.ref C),some (.int z),some (.int s),some (.int goal),v8,v9,v10,v11,some (.ref Y)] H3:=by
  subst hW;unfold gU;symm;exact⟨aW (by decide),fun l hl=>q l [] _ (s13.trans ((Lr H3).laid hl)) (s13.free hl) aj (by decide)⟩
 symm;by_cases e:tx (tkC t)=tx [116,117,114,110]
 . refine bF (Lv e) ?_;symm;refine⟨by decide,?_⟩;by_cases e1:n%2=1
   . refine bF (Lv e1) ?_;symm;rw[aN eY,Lp];have b:=qt (x:=n/2) yl;symm;refine⟨⟨by decide,by decide⟩,by omega,?_⟩;refine ixI eY b.1 b.2 ?_;exact zd (q.of s13)
   . refine bO (Ls e1) ?_;exact fin
 . refine bO (Ls e) ?_;exact fin
theorem Gs{v8 v9 v10:Option V}(hr:t=.reach)(X:Mr40 H p A C h w g n z goal cs ms t)(q:MrP Q H){D:Ends}(hD:D.rt=Q):
  CP K D [some (.str (tx (tkC t))),some (.int n),some (.ref p),some (.ref A),some (.ref C),some (.int z),some (.int s),some (.int goal),v8,v9,v10,none,none] H:=by
 have go:=X.go hr;have mn:=X.mn;unfold CP;symm;rw[aN X.A,Lp];refine⟨_,rfl,by omega,by omega,?_⟩;refine d6 (fun(i:Nat)=>!decide ((i:Int)=z)&&decide (ms.getD i 0=1*2^(goal-1).toNat)) (fun(i:Nat)=>(i:Int)) (by omega) ?_ ?_ ?_
 . intro i H4 R4 hi s4 k4;have hi':i<ms.length:=by have:i < ((ms.length:Nat):Int).toNat:=hi;omega
   show tAnd _ _ [none,some (.int (0+(i:Int))),some (.int z),some (.int goal),some (.ref A)] H4 R4;rw[ML];symm
   cases hb:decide ((i:Int)=z) with
   | true=>
    rw[hb] at k4;exact k4 _ (Lr _)
   | false=>
    rw[hb] at k4;refine iteT ?_;symm;refine ixI (s4 _ _ X.A) (by omega) (by omega) ?_;rw[MG];symm;refine⟨⟨by omega,by omega,by decide⟩,?_⟩;symm;exact k4 _ (Lr _)
 . intro i H4 Q4 hi hb4 s4 k4;show tVar 1 [none,some (.int (0+(i:Int))),some (.int z),some (.int goal),some (.ref A)] H4 Q4;rw[ML];symm;exact k4 _ (Lr _)
 . intro N H1 hN s1 eN
   have ul:(((List.range ((ms.length:Nat):Int).toNat).filter fun(i:Nat)=>!decide ((i:Int)=z)&&decide (ms.getD i 0=1*2^(goal-1).toNat)).map fun(i:Nat)=>(i:Int)).length<=16:=by
    rw[Lp];refine Lz (LO _ _) ?_;rw[Mp];omega
   generalize ((List.range ((ms.length:Nat):Int).toNat).filter fun(i:Nat)=>!decide ((i:Int)=z)&&decide (ms.getD i 0=1*2^(goal-1).toNat)).map (fun(i:Nat)=>(i:Int))=us at*;symm;refine⟨lnR rfl,fun Z hZ=>?_⟩;obtain⟨H2,z9,s2,eZ⟩:∃ z,upd H1 Z (.lst [V.int 0])=z/\Same H1 z/\z Z=some (.lst (([0]:List Int).map V.int)):=aS _ hZ;rw[z9];refine o4 (s2 _ _ eN) eZ (by rw[Lp,Lp];simp;omega) fun Y hY=>?_;have s3:Same H2 (upd H2 Y (.lst (us.map V.int++([0]:List Int).map V.int))):=(Lr H2).laid hY;have eY:(upd H2 Y (.lst (us.map V.int++([0]:List Int).map V.int))) Y=some (.lst ((us++[0]).map V.int)):=by rw[aj,My]
   generalize upd H2 Y (.lst (us.map V.int++([0]:List Int).map V.int))=H3 at*;have s13:=s1.trans (s2.trans s3);have yl:0 < (us++[0]).length:=by simp
   generalize us++[0]=ys at*;have b1:=qt (x:=n) yl;have b2:=qt (x:=n/16) yl;symm;rw[aN eY,Lp];symm;refine⟨by omega,?_⟩;refine ixI eY b1.1 b1.2 ?_;symm;refine⟨⟨by decide,by decide⟩,?_⟩;rw[aN eY,Lp];symm;refine⟨by omega,?_⟩;refine ixL eY (EB b2.1 b2.2) ?_;refine⟨lnR rfl,fun U hU=>?_⟩;obtain⟨H4,z9,s4,eU⟩:∃ z,upd H3 U (.lst [V.int (ys.getD (n % ((ys.length:Nat):Int)).toNat 0),V.int (ys.getD (ys.length-1 - (n/16 % ((ys.length:Nat):Int)).toNat) 0)])=z/\Same H3 z/\z U=some (.lst (([ys.getD (n % ((ys.length:Nat):Int)).toNat 0,ys.getD (ys.length-1 - (n/16 % ((ys.length:Nat):Int)).toNat) 0]:List Int).map V.int)):=aS _ hU;rw[z9];have zl:([ys.getD (n % ((ys.length:Nat):Int)).toNat 0,ys.getD (ys.length-1 - (n/16 % ((ys.length:Nat):Int)).toNat) 0]:List Int).length=2:=rfl;generalize ([ys.getD (n % ((ys.length:Nat):Int)).toNat 0,ys.getD (ys.length-1 - (n/16 % ((ys.length:Nat):Int)).toNat) 0]:List Int)=zs at*;symm
   have eb:∃ k:Nat,(2:Int) - (if decide (s=goal)=true then 1 else 0)=(k:Int):=by
    split
    . exact⟨1,rfl⟩
    . exact⟨2,rfl⟩
   obtain⟨k,ek⟩:=eb;rw[ek];refine pZ eU fun l hl=>?_;rw[z6 V.int];rw[hD];exact q l (zs.take k) _ ((s13.trans s4).trans ((Lr H4).laid hl)) ((s13.trans s4).free hl) aj (by rw[Mm];omega)
theorem Ax{v8 v9 v10:Option V}(X:Mr40 H p A C h w g n z goal cs ms t)(q:MrP Q H):
  ff K (eD9 Q) [some (.str (tx (tkC t))),some (.int n),some (.ref p),some (.ref A),some (.ref C),some (.int z),some (.int s),some (.int goal),v8,v9,v10,none,none] H:=by
 unfold ff;rw[ay,aB];generalize hW:fe K=W at*;generalize hV:CP K=V' at*;symm;rw[show tx [114,101,97,99,104]=tx (tkC .reach) from rfl,Gr t .reach];by_cases e:t=.reach
 . refine bF (Lv e) ?_;subst hV;exact Gs e X q rfl
 . refine bO (Ls e) ?_;symm;subst hW;exact Aw X q
theorem Ay{v8 v9 v10:Option V}(X:Mr40 H p A C h w g n z goal cs ms t)(q:MrP Q H):
  fg K (eD9 Q) [some (.str (tx (tkC t))),some (.int n),some (.ref p),some (.ref A),some (.ref C),some (.int z),some (.int s),some (.int goal),v8,v9,v10,none,none] H:=by
 unfold fg;rw[ay,aB];generalize hW:ff K=W at*;symm;by_cases e:tx (tkC t)=tx [115,113,117,97,114,101]
 . refine bF (Lv e) ?_;symm;refine ixT X.p (v:=V.int w) rfl ?_;refine ixT X.p (v:=V.int w) rfl ?_;symm;refine⟨lnR rfl,fun U hU=>?_⟩;obtain⟨H1,z9,s1,eU⟩:∃ z,upd H U (.lst [V.int 0,V.int 1,V.int w,V.int (w+1)])=z/\Same H z/\z U=some (.lst (([0,1,w,w+1]:List Int).map V.int)):=aS _ hU;rw[z9];have j0:=Mc n (show(4:Int)≠0 by decide);have j1:=Mb n (show(0:Int)<4 by decide);refine⟨by decide,?_⟩;refine ixI eU j0 (by show n%4<4;exact j1) ?_;symm;exact zd (q.of s1)
 . refine bO (Ls e) ?_;symm;subst hW;exact Ax X q
theorem Az{i j:Int}{v11:Option V}(X:Mr40 H p A C h w g n z goal cs ms t)(eO:H O=some (.lst (os.map V.int)))(i0:0<=i)(i1:i<os.length)(j0:0<=j)(j1:j<os.length)(q:MrP Q H):
  fh K (eD9 Q) [some (.str (tx (tkC t))),some (.int n),some (.ref p),some (.ref A),some (.ref C),some (.int z),some (.int s),some (.int goal),some (.int i),some (.ref O),some (.int j),none,none] H:=by
 have g0:=X.F.g0;unfold fh;rw[ay,aB];generalize hW:iu K=W at*;symm;by_cases e:tx (tkC t)=tx [111,110,108,121]
 . refine bF (Lv e) ?_;symm;refine ixI eO i0 i1 ?_;exact zd q
 refine bO (Ls e) ?_;symm;subst hW;unfold iu;rw[ay,aB];generalize hW:iq K=W at*;symm;by_cases e2:tx (tkC t)=tx [112,108,97,99,101]
 . refine bF (Lv e2) ?_;symm;refine ixT X.p (v:=V.int g) rfl ?_;symm;exact⟨by omega,zd q⟩
 refine bO (Ls e2) ?_;symm;subst hW;unfold iq;rw[ay,aB];generalize hW:fg K=W at*;symm;by_cases e3:tx (tkC t)=tx [112,97,105,114]
 . refine bF (Lv e3) ?_;symm;refine ixI eO i0 i1 ?_;refine ixI eO j0 j1 ?_;exact⟨lnR rfl,fun l hl=>q l [_,_] _ ((Lr H).laid hl) hl aj (by show(2:Nat)<=100;decide)⟩
 refine bO (Ls e3) ?_;symm;subst hW;exact Ay X q
theorem xJ{vs:List V}{E:XK}(h:kM K vs H Q E):kN K (eD9 Q) (start ["_law_kind","_law_number","_law_floor_here","_law_masks","_law_cells","_law_cell","_law_sign","_law_goal","_law_one","_law_others","_law_other","_law_must","_law_near_here"] vs) H:=by
 obtain⟨p,A,C,h,w,g,n,z,s,goal,cs,ms,t,rfl,X,q⟩:=h;have cn:=X.cn;have n0:=X.n0;show kN K _ [some (.str (tx (tkC t))),some (.int n),some (.ref p),some (.ref A),some (.ref C),some (.int z),some (.int s),some (.int goal),none,none,none,none,none] H;unfold kN;rw[ay];generalize hW:iw K=W at*;symm;refine⟨⟨_,LH X.C⟩,?_⟩;refine aT (xs:=cs) (fun x=>!decide (x=z)) (fun x=>x) (by omega) (LH X.C) ?_ ?_ ?_
 . intro x H4 R4 hx s4 k4;show tTest _ [none,some (.int x),some (.int z)] H4 R4;symm;exact k4 _ (Lr _)
 . intro x H4 Q4 hx hb4 s4 k4;show tVar 1 [none,some (.int x),some (.int z)] H4 Q4;symm;exact k4 _ (Lr _)
 . intro N H1 hN s1 eN
   have ul:((cs.filter fun x=>!decide (x=z)).map fun x=>x).length<=16:=by
    rw[Lp];exact Lz (LO _ _) cn
   generalize (cs.filter fun x=>!decide (x=z)).map (fun x=>x)=us at*;symm;refine⟨lnR rfl,fun Z hZ=>?_⟩;obtain⟨H2,z9,s2,eZ⟩:∃ z8,upd H1 Z (.lst [V.int z])=z8/\Same H1 z8/\z8 Z=some (.lst (([z]:List Int).map V.int)):=aS _ hZ;rw[z9];refine o4 (s2 _ _ eN) eZ (by rw[Lp,Lp];simp;omega) fun Y hY=>?_;have s3:Same H2 (upd H2 Y (.lst (us.map V.int++([z]:List Int).map V.int))):=(Lr H2).laid hY;have eY:(upd H2 Y (.lst (us.map V.int++([z]:List Int).map V.int))) Y=some (.lst ((us++[z]).map V.int)):=by rw[aj,My]
   generalize upd H2 Y (.lst (us.map V.int++([z]:List Int).map V.int))=H3 at*;have s13:=s1.trans (s2.trans s3);have yl:0 < (us++[z]).length:=by simp
   generalize us++[z]=ys at*;have b1:=qt (x:=n) yl;have b2:=qt (x:=n/16) yl;subst hW;unfold iw;generalize hW:fh K=W at*;symm;rw[aN eY,Lp];symm;refine⟨by omega,?_⟩;symm;rw[aN eY,Lp];symm;refine⟨⟨by decide,by decide⟩,by omega,?_⟩;symm;rw[aN eY,Lp];symm;subst hW;exact Az (v11:=none) (X.same s13) eY b1.1 b1.2 (by split <;> omega) (by split <;> omega) (q.of s13)
end
theorem EC{i j k o:Nat}{x y z u:V}{σ:St}{q:St->Hp->Prop}(h:q ((((σ.set i (some x)).set j (some y)).set k (some z)).set o (some u)) H):gCons (gName i) (gCons (gName j) (gCons (gName k) (gCons (gName o) gNil))) [x,y,z,u] σ H q:=⟨x,_,rfl,y,_,rfl,z,_,rfl,u,_,rfl,rfl,h⟩
structure Rs40(H:Hp)(Rl:Addr)(ts Cs:List Addr)(Ld:List RR):Prop where
 top:H Rl=some (.lst (ts.map V.ref))
 len:ts.length=Ld.length
 lnC:Cs.length=Ld.length
 at_:∀(i:Nat) (T C:Addr) (r:RR),ts[i]? =some T->Cs[i]? =some C->Ld[i]? =some r->IsRl H T C r
variable{Ld:List RR}
theorem Rs40.same{H':Hp}{Rl:Addr}{ts Cs:List Addr}(x:Rs40 H Rl ts Cs Ld)(s:Same H H'):Rs40 H' Rl ts Cs Ld:=⟨s _ _ x.top,x.len,x.lnC,fun i T C r a b c=>(x.at_ i T C r a b c).same s⟩
structure Th40(H:Hp)(p Rl A:Addr)(ts Cs:List Addr)(h w g n:Int)(Ld:List RR)(Lb:List Int):Prop where
 p:IsFl H p h w g
 F:FlOk h w g
 m9:h*w<=9
 R:Rs40 H Rl ts Cs Ld
 ok:∀ r∈Ld,r.Ok h w g
 r1:1<=Ld.length
 r2:Ld.length<=12
 A:H A=some (.lst (Lb.map V.int))
 ml:Lb.length=(h*w).toNat
 mm:∀ m∈Lb,0<=m/\m<64
 n0:0<=n
theorem Th40.same{H':Hp}{p Rl A:Addr}{ts Cs:List Addr}{n:Int}{Lb:List Int}(x:Th40 H p Rl A ts Cs h w g n Ld Lb)(s:Same H H'):Th40 H' p Rl A ts Cs h w g n Ld Lb:=⟨s _ _ x.p,x.F,x.m9,x.R.same s,x.ok,x.r1,x.r2,s _ _ x.A,x.ml,x.mm,x.n0⟩
def ThP40(Q:VK)(H:Hp)(h w:Int):Prop:=∀(T M:Addr) (th:Tho) (H':Hp),Same H H'->H T=none->H M=none->IsTh H' T M th.t th.r th.z th.s th.ms->0<=th.z->th.z<h*w->1<=th.s->th.s<=4->Q (.ref T) H'
def iy(K:Frag):Sp:=fun vs H Q _=>∃ p Rl A ts Cs h w g n Ld Lb,vs=[.int n,.ref p,.ref Rl,.ref A]/\Th40 H p Rl A ts Cs h w g n Ld Lb/\ThP40 Q H h w
def dc(K:Frag):TS:=
 (tSeq (tAsg (tCall (kb K) [] E0 (tCons (tVar 5) tNil)) (gName 12))
  (tSeq (tAsg (tOp cIx (tVar 12) (tOp cMod (tOp cDiv (tVar 0) (tC (.int 5000))) (tCB kLen (tCons (tVar 12) tNil)))) (gName 13))
  (tRet (tTup (tCons (tVar 13) (tCons (tVar 4) (tCons (tVar 9) (tCons (tVar 11) (tCons (tCall (kM K) [] E0 (tCons (tVar 13) (tCons (tOp cDiv (tVar 0) (tC (.int 40000))) (tCons (tVar 1) (tCons (tVar 3) (tCons (tVar 6) (tCons (tVar 9) (tCons (tVar 11) (tCons (tVar 7) tNil))))))))) tNil)))))))))
def de(K:Frag):TS:=
 (tSeq (tIfS (tTest (tOp (cEq K) (tOp cMod (tVar 0) (tC (.int 7))) (tC (.int 6)))) (tRet (tTup (tCons (tC (.str (tx [99,108,117,101]))) (tCons (tC (.int 0)) (tCons (tVar 9) (tCons (tVar 11) (tCons (tLst tNil) tNil))))))) tNext)
  (dc K))
def fO(K:Frag):TS:=
 (tSeq (tAsg (tOp cIx (tVar 6) (tOp cMod (tOp cDiv (tVar 0) (tC (.int 42))) (tCB kLen (tCons (tVar 6) tNil)))) (gName 9))
  (tSeq (tAsg (tOp cAdd (tCall (j8 K) [] E0 (tCons (tOp cIx (tVar 3) (tVar 9)) tNil)) (tLst (tCons (tC (.int 1)) tNil))) (gName 10))
  (tSeq (tAsg (tOp cIx (tVar 10) (tOp cMod (tOp cDiv (tVar 0) (tC (.int 672))) (tCB kLen (tCons (tVar 10) tNil)))) (gName 11))
  (de K))))
def iz(K:Frag):TS:=
 (tSeq (tAsg (tOp cMod (tOp cDiv (tVar 0) (tC (.int 7))) (tCB kLen (tCons (tVar 2) tNil))) (gName 4))
  (tSeq (tAsg (tOp cIx (tVar 2) (tVar 4)) (gTup K 4 (gCons (gName 5) (gCons (gName 6) (gCons (gName 7) (gCons (gName 8) gNil))))))
  (fO K)))
theorem HZ(O:r.Ok h w g)(F:FlOk h w g){t:TK}(ht:t∈kL r.k):t=.reach->1<=(r.m:Int)/\(r.m:Int)<=6:=fun e=>by
 have hs:sgnK r.k=true:=by
  subst e
  revert ht
  cases r.k <;> decide
 have:=O.m0 hs;have:=F.g1;omega
theorem xK(O:r.Ok h w g)(F:FlOk h w g):0<r.cs.length/\r.cs.length<=16:=by
 have mp:1<=h*w:=by have:=F.h0;have:=F.w0;exact NL (by omega) (by omega)
 have m16:=F.m
 cases ha:allK r.k with
 | true=>
  rw[(O.cl.all ha).2,kz];omega
 | false=>
  obtain⟨n1,n2,_,_,ec⟩:=O.cl.told ha;rw[ec,Lp];exact⟨List.length_pos_iff.mpr n1,n2⟩
section
variable{K:Frag}{H:Hp}{Q:VK}{p Rl A:Addr}{ts Cs:List Addr}{h w g n:Int}{Ld:List RR}{Lb:List Int}
theorem ThP40.of{H1:Hp}(q:ThP40 Q H h w)(s:Same H H1):ThP40 Q H1 h w:=fun T M th H' s' hT hM x a b c d=>q T M th H' (s.trans s') (s.free hT) (s.free hM) x a b c d
theorem wx{C:Addr}{r:RR}{i z s:Int}{v8 v10:Option V}(X:Th40 H p Rl A ts Cs h w g n Ld Lb)(O:r.Ok h w g)(k0:r.k≠.Rule)(eC:H C=some (.lst (r.cs.map V.int)))(z0:0<=z)(z1:z<h*w)(s0:1<=s)(s4:s<=4)(q:ThP40 Q H h w):
  dc K (eD9 Q) [some (.int n),some (.ref p),some (.ref Rl),some (.ref A),some (.int i),some (.str (tx (nmC r.k))),some (.ref C),some (.int r.m),v8,some (.int z),v10,some (.int s),none,none] H:=by
 have n0:=X.n0;have ml:=X.ml;have m9:=X.m9;unfold dc;symm;refine⟨r.k,rfl,k0,fun l H1 s1 hl el=>?_⟩;have kl:0 < (kL r.k).length:=by revert k0;cases r.k <;> decide
 have j0:=Mc (n/5000) (show(((kL r.k).length:Nat):Int)≠0 by omega);have j1:=Mb (n/5000) (show 0 < (((kL r.k).length:Nat):Int) by omega);symm;rw[aN el,Lp,Lp];symm;refine⟨⟨by decide,by decide⟩,by omega,?_⟩;generalize ej:n/5000 % (((kL r.k).length:Nat):Int)=j at*;have hj:j.toNat < (kL r.k).length:=by omega
 have ev:atI (((kL r.k).map txk).map V.str) ((j.toNat:Nat):Int)=some (V.str (tx (tkC (kL r.k)[j.toNat]))):=cR (by rw[Lu,Lu,Lq hj];rfl);rw[show((j.toNat:Nat):Int)=j by omega] at ev;have ht:=L1 hj;generalize (kL r.k)[j.toNat]=t at*;refine ixL el ev ?_;symm;refine⟨⟨by decide,by decide⟩,?_⟩;refine⟨p,A,C,h,w,g,n/40000,z,s,r.m,r.cs,Lb,t,rfl,⟨s1 _ _ X.p,X.F,s1 _ _ X.A,by omega,s1 _ _ eC,(xK O X.F).2,Int.ediv_nonneg n0 (by decide),z0,z1,HZ O X.F ht⟩,fun M xs H2 s2 hM eM xl=>?_⟩;refine⟨lnR rfl,fun T hT=>?_⟩;have s3:Same H2 (upd H2 T (.tup [V.str (tx (tkC t)),V.int i,V.int z,V.int s,V.ref M])):=(Lr H2).laid hT;exact q T M ⟨t,i,z,s,xs⟩ _ ((s1.trans s2).trans s3) ((s1.trans s2).free hT) (s1.free hM) ⟨aj,s3 _ _ eM,xl⟩ z0 z1 s0 s4
theorem wy{C:Addr}{r:RR}{i z s:Int}{v8 v10:Option V}(X:Th40 H p Rl A ts Cs h w g n Ld Lb)(O:r.Ok h w g)(k0:r.k≠.Rule)(eC:H C=some (.lst (r.cs.map V.int)))(z0:0<=z)(z1:z<h*w)(s0:1<=s)(s4:s<=4)(q:ThP40 Q H h w):
  de K (eD9 Q) [some (.int n),some (.ref p),some (.ref Rl),some (.ref A),some (.int i),some (.str (tx (nmC r.k))),some (.ref C),some (.int r.m),v8,some (.int z),v10,some (.int s),none,none] H:=by
 unfold de;rw[ay,aB];generalize hW:dc K=W at*;symm;refine⟨by decide,?_⟩;by_cases e:n%7=6
 . refine bF (Lv e) ?_;symm;refine⟨aW (by decide),fun M hM=>?_⟩;obtain⟨H1,z9,s1,eM⟩:∃ z,upd H M (.lst [])=z/\Same H z/\z M=some (.lst (([]:List Int).map V.int)):=aS _ hM;rw[z9];refine⟨lnR rfl,fun T hT=>?_⟩;have s3:Same H1 (upd H1 T (.tup [V.str (tx (tkC .clue)),V.int 0,V.int z,V.int s,V.ref M])):=(Lr H1).laid hT;exact q T M ⟨.clue,0,z,s,[]⟩ _ (s1.trans s3) (s1.free hT) hM ⟨aj,s3 _ _ eM,Ml _⟩ z0 z1 s0 s4
 . refine bO (Ls e) ?_;symm;subst hW;exact wx X O k0 eC z0 z1 s0 s4 q
theorem tQ{vs:List V}{E:XK}(h:iy K vs H Q E):iz K (eD9 Q) (start ["_law_number","_law_floor_here","_law_rules","_law_masks","_law_rule_here","_law_word","_law_cells","_law_goal","_law_line","_law_cell","_law_signs_here","_law_sign","_law_kinds_here","_law_kind"] vs) H:=by
 obtain⟨p,Rl,A,ts,Cs,h,w,g,n,Ld,Lb,rfl,X,q⟩:=h;have r1:=X.r1;have rl:=X.R.len;have rc:=X.R.lnC;have ml:=X.ml;have n0:=X.n0;show iz K _ [some (.int n),some (.ref p),some (.ref Rl),some (.ref A),none,none,none,none,none,none,none,none,none,none] H;unfold iz;generalize hW:fO K=W at*;symm;rw[aN X.R.top,Lp];have j0:=Mc (n/7) (show((ts.length:Nat):Int)≠0 by omega);have j1:=Mb (n/7) (show 0 < ((ts.length:Nat):Int) by omega);symm;refine⟨⟨by decide,by decide⟩,by omega,?_⟩;generalize n/7 % ((ts.length:Nat):Int)=i at*;have e1:ts[i.toNat]? =some (ts[i.toNat]'(by omega)):=Lq (by omega);have e2:Cs[i.toNat]? =some (Cs[i.toNat]'(by omega)):=Lq (by omega);have e3:Ld[i.toNat]? =some (Ld[i.toNat]'(by omega)):=Lq (by omega);generalize (ts[i.toNat]'(by omega))=T at*;generalize (Cs[i.toNat]'(by omega))=C at*;generalize (Ld[i.toNat]'(by omega))=r at*;have hr:=LB e3;have O:=X.ok r hr;have Y:=X.R.at_ i.toNat T C r e1 e2 e3;symm;refine ixL X.R.top (v:=V.ref T) (by rw[show i=((i.toNat:Nat):Int) by omega];exact cR (by rw[Lu,e1];rfl)) ?_;refine rz Y.top rfl ?_;refine EC ?_;dsimp only[List.set_cons_succ,List.set_cons_zero];subst hW;unfold fO;generalize hW:de K=W at*;have cl:=xK O X.F;have b:=qt (x:=n/42) cl.1;symm;rw[aN Y.C,Lp];symm;refine⟨⟨by decide,by decide⟩,by omega,?_⟩;refine ixI Y.C b.1 b.2 ?_;have cin:=RR.cin22 O X.F;have cz:=cin.2 _ (eP (ms:=r.cs) (k:=(n/42 % ((r.cs.length:Nat):Int)).toNat) (by omega));generalize r.cs.getD (n/42 % ((r.cs.length:Nat):Int)).toNat 0=z at*;have bz:0<=z/\z<h*w:=by omega
 symm;refine ixI X.A bz.1 (by omega) ?_;have bm:=X.mm _ (eP (ms:=Lb) (k:=z.toNat) (by omega));refine⟨_,rfl,bm.1,bm.2,fun S ss H1 s1 hS eS sl sb=>?_⟩;symm;refine⟨lnR rfl,fun Z hZ=>?_⟩;obtain⟨H2,z9,s2,eZ⟩:∃ z,upd H1 Z (.lst [V.int 1])=z/\Same H1 z/\z Z=some (.lst (([1]:List Int).map V.int)):=aS _ hZ;rw[z9];refine o4 (s2 _ _ eS) eZ (by rw[Lp,Lp];simp;omega) fun Y2 hY=>?_;have s3:Same H2 (upd H2 Y2 (.lst (ss.map V.int++([1]:List Int).map V.int))):=(Lr H2).laid hY;have eY:(upd H2 Y2 (.lst (ss.map V.int++([1]:List Int).map V.int))) Y2=some (.lst ((ss++[1]).map V.int)):=by rw[aj,My]
 generalize upd H2 Y2 (.lst (ss.map V.int++([1]:List Int).map V.int))=H3 at*;have s13:=s1.trans (s2.trans s3);have yl:0 < (ss++[1]).length:=by simp
 have yb:∀ x∈ss++[1],1<=x/\x<=4:=fun x hx=>by
  rcases LR.mp hx with hx | hx
  . have:=sb x hx;omega
  . rw[LE.mp hx];decide
 generalize ss++[1]=ys at*;have b1:=qt (x:=n/672) yl;symm;rw[aN eY,Lp];symm;refine⟨⟨by decide,by decide⟩,by omega,?_⟩;refine ixI eY b1.1 b1.2 ?_;have bs:=yb _ (eP (ms:=ys) (k:=(n/672 % ((ys.length:Nat):Int)).toNat) (by omega));generalize ys.getD (n/672 % ((ys.length:Nat):Int)).toNat 0=s at*;subst hW;exact wy (X.same s13) O O.k0 (s13 _ _ Y.C) bz.1 bz.2 bs.1 bs.2 (q.of s13)
end
theorem ED{ms:List Int}{z s:Int}(z0:0<=z)(z1:z<ms.length)(h:stB (ms.getD z.toNat 0) s=true):ms.set z.toNat (ms.getD z.toNat 0-1*2^(s-1).toNat)=stL ms z s:=by
 refine MB fun i=>?_;unfold stL;rw[Lu,List.getElem?_set];rcases OP i ms.length with hi | hi
 . rw[Mv hi];by_cases e:z.toNat=i
   . rw[LX e,LX (by omega)];show _=some (if (i:Int)=z then woI (ms.getD i 0) s else ms.getD i 0);rw[LX (by omega)];unfold woI;rw[← e,LX h,Int.one_mul]
   . rw[LU e];show _=some (if (i:Int)=z then woI (ms.getD i 0) s else ms.getD i 0);rw[LU (by omega),List.getD,Lq hi];rfl
 . rw[LU (by omega),LP hi,LP (by rw[Mp];exact hi)];rfl
variable{as:List Addr}{Lh:List (List Int)}
theorem IsLL.keep40{l r:Addr}{o:HO}(x:IsLL H l as Lh)(h:r≠l)(hr:r∉as):IsLL (upd H r o) l as Lh:=
 ⟨by rw[ao (Oj h)];exact x.top,x.len,fun j a xs h1 h2=>by
  have ne:a≠r:=fun e=>hr (e ▸ LB h1);rw[ao ne];exact x.at_ j a xs h1 h2⟩
theorem IsLL.snoc40{l a:Addr}(x:IsLL H l as Lh)(nl:l∉as)(na:a≠l)(ea:H a=some (.lst (xs.map V.int))):IsLL (upd H l (.lst (as.map V.ref++[V.ref a]))) l (as++[a]) (Lh++[xs]):=by
 have hx:=x.len;refine⟨by rw[aj,My];rfl,by rw[LC,LC,hx];rfl,fun j b ys h1 h2=>?_⟩;by_cases hj:j<as.length
 . rw[LT hj] at h1;rw[LT (by omega)] at h2;have ne:b≠l:=fun z=>nl (z ▸ LB h1);rw[ao ne];exact x.at_ j b ys h1 h2
 . rw[L6 (by omega)] at h1;rw[L6 (by omega)] at h2;have:j-as.length=0:=by have:=(Lx.mp h1).1;simp at this;omega
   rw[this] at h1;rw[← hx,this] at h2;cases h1;cases h2;rw[ao na];exact ea
structure Bk40(H0 H:Hp)(B S:Addr)(bs Ms as:List Addr)(h w g:Int)(Ld:List RR)(cl:List Int)(m0:List Int)(Li:List Tho)(mss:List (List Int))(Lb:List Int):Prop where
 sm:Same H0 H
 bk:IsBk H B bs Ms Li
 ll:IsLL H S as mss
 fB:H0 B=none
 fS:H0 S=none
 fM:∀ M∈Ms,H0 M=none
 fb:∀ b∈bs,H0 b=none
 fa:∀ a∈as,H0 a=none
 nBS:B≠S
 nSM:S∉Ms
 nBa:B∉as
 nSa:S∉as
 wl:Wlk h w g Ld cl allT m0 Li Lb
 ml:mss.length=Li.length+1
 at_:∀ i,i<=Li.length->∃ m,mss[i]? =some m/\Wlk h w g Ld cl allT m0 (Li.take i) m/\Wlk h w g Ld cl allT m (Li.drop i) Lb
section
variable{K:Frag}{c:RCl RK}{d:RCl PzK}{H0 H H':Hp}{Q:VK}{B S:Addr}{bs Ms as:List Addr}{h w g:Int}{Ld:List RR}{cl m0 Lb:List Int}{Li:List Tho}{mss:List (List Int)}
theorem Bk40.same(x:Bk40 H0 H B S bs Ms as h w g Ld cl m0 Li mss Lb)(s:Same H H'):Bk40 H0 H' B S bs Ms as h w g Ld cl m0 Li mss Lb:=⟨x.sm.trans s,x.bk.same s,x.ll.same s,x.fB,x.fS,x.fM,x.fb,x.fa,x.nBS,x.nSM,x.nBa,x.nSa,x.wl,x.ml,x.at_⟩
theorem Bk40.step{T M a:Addr}{th:Tho}(x:Bk40 H0 H B S bs Ms as h w g Ld cl m0 Li mss Lb)(ok:OkT h w g Ld cl allT Lb th):∀ i,i<=(Li++[th]).length->∃ m,(mss++[stL Lb th.z th.s])[i]? =some m/\Wlk h w g Ld cl allT m0 ((Li++[th]).take i) m/\Wlk h w g Ld cl allT m ((Li++[th]).drop i) (stL Lb th.z th.s):=fun i hi=>by
 have ml:=x.ml;rw[LC] at hi;by_cases e:i<=Li.length
 . obtain⟨m,e1,w1,w2⟩:=x.at_ i e;refine⟨m,by rw[LT (by omega)];exact e1,?_,?_⟩
   . rw[List.take_append_of_le_length e];exact w1
   . rw[List.drop_append_of_le_length e];exact w2.snoc ok
 . have ei:i=Li.length+1:=by simp at hi;omega
   refine⟨stL Lb th.z th.s,?_,?_,?_⟩
   . rw[L6 (by omega),show i-mss.length=0 by omega];rfl
   . rw[Mh (by rw[LC];simp;omega)];exact x.wl.snoc ok
   . rw[List.drop_of_length_le (by rw[LC];simp;omega)];rfl
end
structure Hy(K:Frag)(H:Hp)(c:RCl RK)(d:RCl PzK)(a P L G p Rl:Addr)(ts Cs:List Addr)(ns:List Int)(h w g:Int)(Ld:List RR)(cl:List Int):Prop where
 S:SqL K H a (ns.map V.int)
 n:ns.length<=63
 P:IsPz H c d P L G h w g Ld cl
 p:IsFl H p h w g
 m9:h*w<=9
 g4:g<=4
 R:Rs40 H Rl ts Cs Ld
 r1:1<=Ld.length
def kO(K:Frag)(c:RCl RK)(d:RCl PzK):Sp:=fun vs H Q _=>∃ a P L G p Rl ts Cs ns h w g Ld cl,vs=[.ref a,.ref P,.ref p,.ref Rl,.int (h*w)]/\Hy K H c d a P L G p Rl ts Cs ns h w g Ld cl/\
 ∀(T B S:Addr) (bs Ms as:List Addr) (Li:List Tho) (mss:List (List Int)) (Lb:List Int) (H':Hp),Bk40 H H' B S bs Ms as h w g Ld cl (fuL h w g) Li mss Lb->Li.length<=200->H' T=some (.tup [.ref B,.ref S])->Q (.ref T) H'
def CQ(K:Frag)(c:RCl RK)(d:RCl PzK):TS:=
 (tSeq (tDrop (tBM K "list" bD (tVar 6) (tCons (tVar 9) tNil)))
  (tSeq (tAsg (tOp cSub (tOp cIx (tVar 5) (tOp cIx (tVar 9) (tC (.int 2)))) (tOp cShl (tC (.int 1)) (tOp cSub (tOp cIx (tVar 9) (tC (.int 3))) (tC (.int 1))))) (gSub (tVar 5) (tOp cIx (tVar 9) (tC (.int 2))) cPut))
  (tDrop (tBM K "list" bD (tVar 7) (tCons (tCB kList (tCons (tVar 5) tNil)) tNil)))))
def CS(K:Frag)(c:RCl RK)(d:RCl PzK):TS:=
 (tSeq (tAsg (tCall (iy K) [] E0 (tCons (tCall (bh K) [] E0 (tCons (tVar 0) (tCons (tOp cAdd (tC (.int 20)) (tVar 8)) tNil))) (tCons (tVar 2) (tCons (tVar 3) (tCons (tVar 5) tNil))))) (gName 9))
  (tSeq (tAsg (tOp (cEq K) (tOp cAnd (tOp cShr (tOp cIx (tVar 5) (tOp cIx (tVar 9) (tC (.int 2)))) (tOp cSub (tOp cIx (tVar 9) (tC (.int 3))) (tC (.int 1)))) (tC (.int 1))) (tC (.int 1))) (gName 10))
  (tIfS (tAnd (tTest (tOp (cIn K true) (tC (.int 0)) (tVar 5))) (tAnd (tB (tVar 10)) (tB (tCall (kY K c d) [] E0 (tCons (tVar 1) (tCons (tVar 5) (tCons (tVar 9) tNil))))))) (CQ K c d) tNext)))
def iA(K:Frag)(c:RCl RK)(d:RCl PzK):TS:=
 (tSeq (tFor (fD (tCons (tOp cAdd (tCB kMin (tCons (tC (.int 60)) (tCons (tCB (kLenS K) (tCons (tVar 0) tNil)) tNil))) (tC (.int 60))) tNil)) (gName 8)
  (CS K c d))
  (tRet (tTup (tCons (tVar 6) (tCons (tVar 7) tNil)))))
def iB(K:Frag)(c:RCl RK)(d:RCl PzK):TS:=
 (tSeq (tAsg (tLst tNil) (gName 6))
  (tSeq (tAsg (tLst (tCons (tCB kList (tCons (tVar 5) tNil)) tNil)) (gName 7))
  (iA K c d)))
def kP(K:Frag)(c:RCl RK)(d:RCl PzK):TS:=
 (tSeq (sComp 5 [none,none,some 2] (fD (tCons (tVar 4) tNil)) (gName 1) tTrue (tOp cSub (tOp cShl (tC (.int 1)) (tOp cIx (tVar 2) (tC (.int 2)))) (tC (.int 1))))
  (iB K c d))
section
variable{K:Frag}{c:RCl RK}{d:RCl PzK}{H0 H:Hp}{Q:VK}{a P L G p Rl A B S:Addr}{ts Cs bs Ms as:List Addr}{ns:List Int}{h w g:Int}{Ld:List RR}{cl Lb:List Int}{Li:List Tho}{mss:List (List Int)}
structure Lp40(H0 H:Hp)(A B S:Addr)(bs Ms as:List Addr)(h w g:Int)(Ld:List RR)(cl:List Int)(Li:List Tho)(mss:List (List Int))(Lb:List Int)(i:Nat):Prop where
 b:Bk40 H0 H B S bs Ms as h w g Ld cl (fuL h w g) Li mss Lb
 eA:H A=some (.lst (Lb.map V.int))
 fA:H0 A=none
 nAB:A≠B
 nAS:A≠S
 nAM:A∉Ms
 nAa:A∉as
 ln:Li.length<=i
theorem Lp40.same{H':Hp}{i:Nat}(x:Lp40 H0 H A B S bs Ms as h w g Ld cl Li mss Lb i)(s:Same H H'):Lp40 H0 H' A B S bs Ms as h w g Ld cl Li mss Lb i:=⟨x.b.same s,s _ _ x.eA,x.fA,x.nAB,x.nAS,x.nAM,x.nAa,x.ln⟩
theorem Gu {D:Ends} {T M:Addr} {th:Tho} {i:Nat} {v0 v1 v2 v3 v4 v8 v10:Option V} (X:Lp40 H0 H A B S bs Ms as h w g Ld cl Li mss Lb i) (hi:i<=130) (Y:IsTh H T M th.t th.r th.z th.s th.ms) (fT:H0 T=none) (fM:H0 M=none) (nMB:M≠B) (nMS:M≠S) (nMA:M≠A) (ok:OkT h w g Ld cl allT Lb th) (ml:Lb.length=(h*w).toNat) (g6:g<=6)
  (k:∀(bs Ms as:List Addr) (Li:List Tho) (mss:List (List Int)) (Lb:List Int) (H':Hp),Lp40 H0 H' A B S bs Ms as h w g Ld cl Li mss Lb (i+1)->D.nx [v0,v1,v2,v3,v4,some (.ref A),some (.ref B),some (.ref S),v8,some (.ref T),v10] H'):
  CQ K c d D [v0,v1,v2,v3,v4,some (.ref A),some (.ref B),some (.ref S),v8,some (.ref T),v10] H:=by
 obtain⟨n0,_,hz,hs,st,al⟩:=id ok;have x:=X.b;have bl:=x.bk.len;have ln:=X.ln;have sl:=x.ml;have al2:=x.ll.len;unfold CQ;symm;refine⟨bA x.bk.top,?_⟩;rw[gA x.bk.top];refine⟨by rw[Lp];exact aH (by omega),?_⟩;have b1:=x.bk.app (Lr H) Y nMB;have nT:∀{y:Addr} {xs:List V},H y=some (.lst xs)->T≠y:=fun e h=>by rw[← h,Y.T] at e;cases e
 have eA1:(upd H B (.lst (bs.map V.ref++[V.ref T]))) A=some (.lst (Lb.map V.int)):=by rw[ao X.nAB];exact X.eA
 have eT1:(upd H B (.lst (bs.map V.ref++[V.ref T]))) T=some (.tup [.str (tx (tkC th.t)),.int th.r,.int th.z,.int th.s,.ref M]):=by rw[ao (nT x.bk.top)];exact Y.T
 have l1:IsLL (upd H B (.lst (bs.map V.ref++[V.ref T]))) S as mss:=x.ll.keep40 x.nBS x.nBa;have s1:Same H0 (upd H B (.lst (bs.map V.ref++[V.ref T]))):=x.sm.own x.fB;generalize upd H B (.lst (bs.map V.ref++[V.ref T]))=H1 at*;symm;refine ixT eT1 (v:=V.int th.z) rfl ?_;refine ixI eA1 hz.1 (by omega) ?_;refine ixT eT1 (v:=V.int th.s) rfl ?_;symm;refine⟨⟨by omega,by have:=hs.2;omega,by decide⟩,?_⟩;symm;refine ixT eT1 (v:=V.int th.z) rfl ?_;refine FC eA1 hz.1 (by rw[Lp];omega) ?_;rw[Bf,ED hz.1 (by omega) st]
 have nAM':A∉Ms++[M]:=fun h=>by
  rcases LR.mp h with h | h
  . exact X.nAM h
  . exact nMA (LE.mp h).symm
 have b2:=b1.keep (ys:=(stL Lb th.z th.s).map V.int) eA1 X.nAB.symm nAM';have l2:IsLL (upd H1 A (.lst ((stL Lb th.z th.s).map V.int))) S as mss:=l1.keep40 X.nAS X.nAa;have s2:Same H0 (upd H1 A (.lst ((stL Lb th.z th.s).map V.int))):=s1.own X.fA;have eA2:(upd H1 A (.lst ((stL Lb th.z th.s).map V.int))) A=some (.lst ((stL Lb th.z th.s).map V.int)):=aj;generalize upd H1 A (.lst ((stL Lb th.z th.s).map V.int))=H2 at*;symm;refine⟨bA l2.top,?_⟩;refine lg eA2 fun N hN=>?_;obtain⟨H3,z9,s3,eN⟩:=aS (.lst ((stL Lb th.z th.s).map V.int)) hN;rw[z9];have l3:=l2.same s3;have b3:=b2.same s3;rw[gA l3.top];refine⟨by rw[Lp];exact aH (by omega),?_⟩;have fr:∀{y:Addr} {o:HO},H2 y=some o->N≠y:=fun e h=>by rw[h,e] at hN;cases hN
 have nNS:N≠S:=fr l2.top;have l4:=l3.snoc40 x.nSa nNS eN
 have nSM':S∉Ms++[M]:=fun h=>by
  rcases LR.mp h with h | h
  . exact x.nSM h
  . exact nMS (LE.mp h).symm
 have b4:=b3.keep (ys:=as.map V.ref++[V.ref N]) l3.top x.nBS nSM';refine k (bs++[T]) (Ms++[M]) (as++[N]) (Li++[th]) (mss++[stL Lb th.z th.s]) (stL Lb th.z th.s) _ ⟨⟨(s2.trans s3).own x.fS,b4,l4,x.fB,x.fS,?_,?_,?_,x.nBS,nSM',?_,?_,x.wl.snoc ok,by rw[LC,LC,sl];rfl,x.step (T:=T) (M:=M) (a:=A) ok⟩,?_,X.fA,X.nAB,X.nAS,nAM',?_,by rw[LC];simp;omega⟩
 . intro y hy;rcases LR.mp hy with hy | hy
   . exact x.fM y hy
   . rw[LE.mp hy];exact fM
 . intro y hy;rcases LR.mp hy with hy | hy
   . exact x.fb y hy
   . rw[LE.mp hy];exact fT
 . intro y hy;rcases LR.mp hy with hy | hy
   . exact x.fa y hy
   . rw[LE.mp hy];exact s2.free hN
 . intro hy;rcases LR.mp hy with hy | hy
   . exact x.nBa hy
   . exact fr b2.top (LE.mp hy).symm
 . intro hy;rcases LR.mp hy with hy | hy
   . exact x.nSa hy
   . exact nNS (LE.mp hy).symm
 . rw[ao X.nAS];exact s3 _ _ eA2
 . intro hy;rcases LR.mp hy with hy | hy
   . exact X.nAa hy
   . exact fr eA2 (LE.mp hy).symm
end
section
variable{K:Frag}{c:RCl RK}{d:RCl PzK}{H0 H:Hp}{Q:VK}{a P L G p Rl A B S:Addr}{ts Cs bs Ms as:List Addr}{ns:List Int}{h w g:Int}{Ld:List RR}{cl Lb:List Int}{Li:List Tho}{mss:List (List Int)}
theorem Gv {D:Ends} {i:Nat} {v9 v10:Option V} (W:Hy K H0 c d a P L G p Rl ts Cs ns h w g Ld cl) (X:Lp40 H0 H A B S bs Ms as h w g Ld cl Li mss Lb i) (hi:i<=130)
  (k:∀(v9 v10:Option V) (bs Ms as:List Addr) (Li:List Tho) (mss:List (List Int)) (Lb:List Int) (H':Hp),Lp40 H0 H' A B S bs Ms as h w g Ld cl Li mss Lb (i+1)->D.nx [some (.ref a),some (.ref P),some (.ref p),some (.ref Rl),some (.int (h*w)),some (.ref A),some (.ref B),some (.ref S),some (.int (i:Int)),v9,v10] H'):
  CS K c d D [some (.ref a),some (.ref P),some (.ref p),some (.ref Rl),some (.int (h*w)),some (.ref A),some (.ref B),some (.ref S),some (.int (i:Int)),v9,v10] H:=by
 have F:=W.P.R.F;have g0:=F.g0;have g6:=F.g1;have p64:=zc g0 g6;have x:=X.b;have M:=(x.wl.okM g0 g6 (wn g0 g6)).1;have mn:=M.len;have sm:=x.sm;have m16:=F.m;unfold CS;generalize hB:CQ K c d=Bd at*;symm;refine⟨a,ns,_,rfl,sm.seq W.S,W.n,by omega,by omega,?_⟩;refine⟨p,Rl,A,ts,Cs,h,w,g,_,Ld,Lb,rfl,⟨sm _ _ W.p,F,W.m9,W.R.same sm,W.P.R.ok,W.r1,W.P.R.n,X.eA,mn,fun m hm=>⟨(M.mm m hm).1,by have:=(M.mm m hm).2;omega⟩,Fj _ _⟩,fun T N th H1 s1 hT hN Y z0 z1 t0 t4=>?_⟩;have X1:=X.same s1;have bm:=M.mm _ (eP (ms:=Lb) (k:=th.z.toNat) (by omega));symm;refine ixT Y.T (v:=V.int th.z) rfl ?_;refine ixI X1.eA z0 (by omega) ?_;refine ixT Y.T (v:=V.int th.s) rfl ?_;symm;refine⟨by omega,?_⟩;symm;rw[Hv bm.1 (by omega) t0 (by omega)];rw[aB];symm;rw[jq X1.eA];symm;have fin:∀(v10:Option V) (H2:Hp),Same H1 H2->D.nx [some (.ref a),some (.ref P),some (.ref p),some (.ref Rl),some (.int (h*w)),some (.ref A),some (.ref B),some (.ref S),some (.int (i:Int)),some (.ref T),v10] H2:=fun v10 H2 s2=>k _ _ bs Ms as Li mss Lb H2 ⟨(X1.same s2).b,(X1.same s2).eA,X.fA,X.nAB,X.nAS,X.nAM,X.nAa,by have:=X.ln;omega⟩;by_cases h0:(0:Int)∈Lb
 . rw[Lv h0];exact fin _ H1 (Lr _)
 rw[Ls h0];refine iteT ?_;symm
 cases hs:stB (Lb.getD th.z.toNat 0) th.s with
 | false=>
  exact fin _ H1 (Lr _)
 | true=>
  refine⟨P,L,G,A,T,N,h,w,g,Ld,cl,Lb,th.t,th.r,th.z,th.s,th.ms,rfl,⟨W.P.same (sm.trans s1),Y,X1.eA,mn⟩,fun m hm=>⟨(M.mm m hm).1,by have:=(M.mm m hm).2;omega⟩,fun H2 s2=>?_⟩
  cases ha:alwA h w g Ld cl Lb th.t th.r th.z th.s th.ms with
  | false=>
   refine⟨false,rfl,?_⟩;exact fin _ H2 s2
  | true=>
   refine⟨true,rfl,?_⟩;have fo:formB h w g Ld th.t th.r th.z th.s=true:=by unfold alwA at ha;rw[Ma] at ha;exact ha.1
   obtain⟨_,_,_,sg,_⟩:=nG fo;have X2:=X1.same s2;have fr:∀{y:Addr} {o:HO},H y=some o->N≠y:=fun e h=>by rw[h,e] at hN;cases hN
   subst hB;exact Gu (c:=c) (d:=d) X2 hi (Y.same s2) (sm.free hT) (sm.free hN) (fr x.bk.top) (fr x.ll.top) (fr X.eA) ⟨h0,by cases th.t <;> decide,⟨z0,z1⟩,⟨t0,sg⟩,hs,ha⟩ mn g6 fun bs Ms as Li mss Lb H' Y'=>k _ _ bs Ms as Li mss Lb H' Y'
theorem xM{vs:List V}{E:XK}(h:kO K c d vs H Q E):kP K c d (eD9 Q) (start ["_law_script","_law_puzzle","_law_floor_here","_law_rules","_law_many","_law_left","_law_book_here","_law_steps","_law_k","_law_thought_here","_law_stands_there"] vs) H:=by
 obtain⟨a,P,L,G,p,Rl,ts,Cs,ns,h,w,g,Ld,cl,rfl,W,q⟩:=h;have F:=W.P.R.F;have g0:=F.g0;have g6:=F.g1;have m9:=W.m9;have mp:1<=h*w:=by have:=F.h0;have:=F.w0;exact NL (by omega) (by omega)
 have nn:=W.n;show kP K c d _ [some (.ref a),some (.ref P),some (.ref p),some (.ref Rl),some (.int (h*w)),none,none,none,none,none,none] H;unfold kP;rw[ay];generalize hW:iB K c d=W' at*;symm;refine⟨_,rfl,by omega,by omega,?_⟩;refine d6 (fun _=>true) (fun _=>2^g.toNat-1) (by omega) ?_ ?_ ?_
 . intro i H4 R4 hi s4 k4;exact k4 _ (Lr _)
 . intro i H4 Q4 hi hb4 s4 k4;show tOp cSub _ _ [none,some (.int (0+(i:Int))),some (.ref p)] H4 Q4;symm;refine ixT (s4 _ _ W.p) (v:=V.int g) rfl ?_;symm;refine⟨⟨by omega,by omega,by decide⟩,?_⟩;symm;rw[Int.one_mul];exact k4 _ (Lr _)
 . intro A H1 hA s1 eA
   have eA:H1 A=some (.lst ((fuL h w g).map V.int)):=by
    rw[a9] at eA;rw[eA]
    congr 3
    refine MB fun i=>?_;rw[Lu,Og];rcases OP i (h*w).toNat with hi | hi
    . rw[Mv hi,LX hi];rfl
    . rw[LP (by rw[Mp];exact hi),LU (by omega)];rfl
   subst hW;unfold iB;generalize hW:iA K c d=W' at*;symm;refine⟨aW (by decide),fun B hB=>?_⟩;obtain⟨H2,z9,s2,eB⟩:=aS (.lst []) hB;rw[z9];refine lg (s2 _ _ eA) fun N hN=>?_;obtain⟨H3,z9,s3,eN⟩:=aS (.lst ((fuL h w g).map V.int)) hN;rw[z9];refine⟨lnR rfl,fun S hS=>?_⟩;obtain⟨H4,z9,s4,eS⟩:=aS (.lst [V.ref N]) hS;rw[z9];have s24:=s2.trans (s3.trans s4);have s14:=s1.trans s24;have fr:∀{y x:Addr} {o:HO} {Hx:Hp},Hx x=none->Hx y=some o->x≠y:=fun e1 e2 h=>by rw[h,e2] at e1;cases e1
   have nBA:A≠B:=fun e=>fr hB eA e.symm;have nNA:N≠A:=fr hN (s2 _ _ eA);have nNB:N≠B:=fr hN eB;have nSA:S≠A:=fr hS ((s2.trans s3) _ _ eA);have nSB:S≠B:=fr hS (s3 _ _ eB);have nSN:S≠N:=fr hS eN
   have X0:Lp40 H H4 A B S [] [] [N] h w g Ld cl [] [fuL h w g] (fuL h w g) 0:=⟨⟨s14,IsBk.nil ((s3.trans s4) _ _ eB),⟨eS,rfl,fun j b ys e1 e2=>by
     have hj:j=0:=by have:=(Lx.mp e1).1;simp at this;omega
     subst hj;cases e1;cases e2;exact s4 _ _ eN⟩,s1.free hB,(s1.trans (s2.trans s3)).free hS,(fun _ h=>nomatch h),(fun _ h=>nomatch h),(fun b hb=>by rw[LE.mp hb];exact(s1.trans s2).free hN),nSB.symm,(by simp),(by simpa using nNB.symm),(by simpa using nSN),rfl,rfl,fun i hi=>by
     have e:i=0:=Nat.le_zero.mp hi;subst e;exact⟨_,rfl,rfl,rfl⟩⟩,s24 _ _ eA,hA,nBA,nSA.symm,(by simp),(by simpa using nNA.symm),LF _⟩
   subst hW;unfold iA;generalize hV:CS K c d=Bd at*;symm;refine⟨a,_,rfl,.inl (s14.seq W.S),?_⟩;symm;rw[Lp];have mn:(if ((ns.length:Nat):Int)<60 then((ns.length:Nat):Int) else 60)<=60/\0<=(if ((ns.length:Nat):Int)<60 then((ns.length:Nat):Int) else 60):=by split <;> omega
   generalize (if ((ns.length:Nat):Int)<60 then((ns.length:Nat):Int) else 60)=mm at*;refine⟨_,rfl,by omega,by omega,?_⟩;refine qX (fun i σ H'=>∃(v8 v9 v10:Option V) (bs Ms as:List Addr) (Li:List Tho) (mss:List (List Int)) (Lb:List Int),σ=[some (.ref a),some (.ref P),some (.ref p),some (.ref Rl),some (.int (h*w)),some (.ref A),some (.ref B),some (.ref S),v8,v9,v10]/\Lp40 H H' A B S bs Ms as h w g Ld cl Li mss Lb i) ⟨none,none,none,[],[],[N],[],[fuL h w g],fuL h w g,rfl,X0⟩ ?_ ?_
   . rintro i σ H5 hi ⟨v8,v9,v10,bs,Ms,as,Li,mss,Lb,rfl,X5⟩;rw[aR,ML];subst hV;exact Gv W X5 (by omega) fun v9 v10 bs Ms as Li mss Lb H' X'=>⟨_,v9,v10,bs,Ms,as,Li,mss,Lb,rfl,X'⟩
   . rintro σ H5 ⟨v8,v9,v10,bs,Ms,as,Li,mss,Lb,rfl,X5⟩;symm;refine⟨lnR rfl,fun T hT=>?_⟩;have s6:Same H5 (upd H5 T (.tup [V.ref B,V.ref S])):=(Lr H5).laid hT;exact q T B S bs Ms as Li mss Lb _ (X5.b.same s6) (by have:=X5.ln;omega) aj
end
def bf(K:Frag):Sp:=fun vs H Q _=>∃(F D:Addr) (xs:List Int),vs=[.ref F,.ref D]/\H F=some (.lst (xs.map V.int))/\H D=some (.lst (xs.map V.int))/\xs.length<=900/\∀ H',Same H H'->Q (.bl true) H'
def dq(K:Frag):TS:=
 (tRet (tOp (cEq K) (tComp [none,none] (iList K (tVar 0)) (gName 1) (tOr (tNot (tB (tCB kIsi (tCons (tVar 1) (tCons (tC (.ty "int")) tNil))))) (tB (tCB kIsi (tCons (tVar 1) (tCons (tC (.ty "bool")) tNil))))) (tVar 1)) (tLst tNil)))
def fz(K:Frag):TS:=
 (tSeq (tIfS (tOr (tNot (tB (tCB kIsi (tCons (tVar 0) (tCons (tC (.ty "list")) tNil))))) (tTest (tOp (cNe K) (tVar 0) (tVar 1)))) (tRet (tC (.bl false))) tNext)
  (dq K))
theorem o9(h:bf K vs H Q E):fz K (eD9 Q) (start ["_law_found","_law_due"] vs) H:=by
 obtain⟨F,D,xs,rfl,eF,eD,xn,q⟩:=h;show fz K _ [some (.ref F),some (.ref D)] H;unfold fz;rw[ay,aB];generalize hW:dq K=W at*;symm;refine zG eF ?_;symm;refine pY eF eD ?_;rw[Lv rfl];symm;subst hW;unfold dq;symm;refine⟨⟨_,LH eF⟩,?_⟩;refine aT (fun _=>false) (fun x=>x) xn (LH eF) ?_ ?_ ?_
 . intro x H4 R4 hx s4 k4;show tOr _ _ [none,some (.int x)] H4 R4;symm;exact k4 _ (Lr _)
 . intro x H4 Q4 hx hb4 s4 k4;cases hb4
 . intro l H1 hl s1 el;symm;refine⟨aW (by decide),fun e he=>?_⟩;obtain⟨H2,z9,s2,ee⟩:∃ z,upd H1 e (.lst [])=z/\Same H1 z/\z e=some (.lst (([]:List Int).map V.int)):=aS _ he;rw[z9];refine lU (s2 _ _ el) ee ?_;rw[List.filter_eq_nil_iff.mpr (by simp),OL,Lv rfl];exact q H2 (s1.trans s2)
def lq(K:Frag)(c:RCl RK)(d:RCl PzK):Sp:=fun vs H Q _=>∃ P L G B bs Ms h w g Ld cl now ks Li,vs=[.ref P,.ref B]/\IsPz H c d P L G h w g Ld cl/\IsBk H B bs Ms Li/\Wlk h w g Ld cl ks (fuL h w g) Li now/\Li.length<=900/\∀ l H',Same H H'->H l=none->H' l=some (.lst (now.map V.int))->Q (.ref l) H'
def rY(K:Frag)(c:RCl RK)(d:RCl PzK):TS:=
 (tRet (tCall (fv K c d) [] E0 (tCons (tVar 0) (tCons (tCall (xB K) [] E0 (tCons (aJ d d.ok "place" (iV K c d) (tVar 0) tNil) tNil)) (tCons (tVar 1) tNil)))))
theorem EE(h:lq K c d vs H Q E):rY K c d (eD9 Q) (start ["puzzle","book"] vs) H:=by
 obtain⟨P,L,G,B,bs,Ms,h,w,g,Ld,cl,now,ks,Li,rfl,pz,Bk,W,tn,q⟩:=h;obtain⟨dx,p,rs,h1,h2,h3⟩:=pz.ex;have mk:=wn (h:=h) (w:=w) pz.R.F.g0 pz.R.F.g1;show rY K c d _ [some (.ref P),some (.ref B)] H;unfold rY;symm;refine methE (k:=.Puzzle) rfl pz.ok h1 (by rfl) ?_;symm;refine⟨P,L,G,h,w,g,Ld,cl,rfl,pz,fun p2 hp2=>?_⟩;symm;refine⟨p2,h,w,g,rfl,hp2,pz.R.F,fun A H1 s1 hA eA=>?_⟩;exact⟨P,L,G,A,B,bs,Ms,h,w,g,Ld,cl,fuL h w g,now,ks,Li,rfl,⟨pz.same s1,eA,mk.len,mk.mm⟩,Bk.same s1,W,tn,fun l H' s' hl el=>q l H' (s1.trans s') (s1.free hl) el⟩
theorem oR{xs:List Addr}{x:Addr}(h:xs[xs.length-1]? =some x):atI (xs.map V.ref) (-1)=some (V.ref x):=by
 have hl:0<xs.length:=by have:=(Lx.mp h).1;omega
 unfold atI ixN;rw[Lp,LU (by decide),LX (by omega)];show(xs.map V.ref)[(-1+(xs.length:Int)).toNat]? =_;rw[show(-1+(xs.length:Int)).toNat=xs.length-1 by omega,Lu,h];rfl
section
variable{K:Frag}{c:RCl RK}{d:RCl PzK}{H0 Hb H H':Hp}{Q:VK}{a P L G p Rl B S l:Addr}{ts Cs bs Ms as:List Addr}{ns:List Int}{h w g:Int}{Ld:List RR}{cl Lb m0:List Int}{Li:List Tho}{mss:List (List Int)}
theorem IsBk.drop40(x:IsBk H B bs Ms Li)(k:Nat)(e:H' l=some (.lst ((bs.drop k).map V.ref)))(s:Same H H')(nl:l∉Ms):IsBk H' l (bs.drop k) (Ms.drop k) (Li.drop k):=
 ⟨e,by rw[MS,MS,x.len],by rw[MS,MS,x.lnM],fun h=>nl (List.mem_of_mem_drop h),fun i b M th h1 h2 h3=>(x.at_ (k+i) b M th (by rw[N3] at h1;exact h1) (by rw[N3] at h2;exact h2) (by rw[N3] at h3;exact h3)).same s⟩
theorem IsBk.take40(x:IsBk H B bs Ms Li)(k:Nat)(e:H' l=some (.lst ((bs.take k).map V.ref)))(s:Same H H')(nl:l∉Ms):IsBk H' l (bs.take k) (Ms.take k) (Li.take k):=by
 refine⟨e,by rw[Mm,Mm,x.len],by rw[Mm,Mm,x.lnM],fun h=>nl (MW h),fun i b M th h1 h2 h3=>?_⟩;rw[List.getElem?_take] at h1 h2 h3
 split at h1
 . rename_i hi
   rw[LX hi] at h2 h3;exact(x.at_ i b M th h1 h2 h3).same s
 . cases h1
theorem IsBk.copy40(x:IsBk H B bs Ms Li)(e:H' l=some (.lst (bs.map V.ref)))(s:Same H H')(nl:l∉Ms):IsBk H' l bs Ms Li:=⟨e,x.len,x.lnM,nl,fun i b M th h1 h2 h3=>(x.at_ i b M th h1 h2 h3).same s⟩
theorem Fw(Li:List Tho):PyData.eqv (.list (Li.map dBk)) (.list (Li.map dBk))=true:=by
 rw[PyData.eqv]
 exact wo fun d hd=>by
  obtain⟨th,_,rfl⟩:=LK.mp hd;exact Hr ..
theorem Bk40.at40(x:Bk40 H0 H B S bs Ms as h w g Ld cl m0 Li mss Lb){i:Nat}(hi:i<=Li.length):∃(y:Addr) (m:List Int),as[i]? =some y/\H y=some (.lst (m.map V.int))/\Wlk h w g Ld cl allT m0 (Li.take i) m/\Wlk h w g Ld cl allT m (Li.drop i) Lb:=by
 obtain⟨m,e1,w1,w2⟩:=x.at_ i hi;have al:=x.ll.len;have hl:=(Lx.mp e1).1;have ey:as[i]? =some (as[i]'(by omega)):=Lq (by omega);exact⟨_,m,ey,x.ll.at_ i _ m ey e1,w1,w2⟩
theorem Bk40.last40(x:Bk40 H0 H B S bs Ms as h w g Ld cl m0 Li mss Lb):∃ y:Addr,as[as.length-1]? =some y/\H y=some (.lst (Lb.map V.int)):=by
 obtain⟨y,m,e1,e2,_,w2⟩:=x.at40 (LF _);have al:=x.ll.len;have ml:=x.ml;rw[Oi] at w2;cases (show m=Lb from w2);exact⟨y,by rw[show as.length-1=Li.length by omega];exact e1,e2⟩
end
theorem tR(h:bh K vs H Q E):gp K (eD9 Q) (start ["_law_script","_law_k","_law_number"] vs) H:=vZ h
def EF(K:Frag)(c:RCl RK)(d:RCl PzK):Sp:=fun vs H Q _=>∃(a:Addr) (ns:List Int),vs=[.ref a]/\SqL K H a (ns.map V.int)/\ns.length<=63/\(∀ k,k≠.Rule->c.ok k=true)/\d.ok .Puzzle=true/\∀ H',Q (.bl true) H'
def xN(K:Frag):Sp:=fun vs H Q _=>∃(a:Addr) (ns:List Int),vs=[.ref a]/\SqL K H a (ns.map V.int)/\ns.length<=63/\∀ H',Q (.bl true) H'
def l5(K:Frag)(c:RCl RK)(d:RCl PzK):TS:=
 (tRet (tCall (bf K) [] E0 (tCons (tCall (lq K c d) [] E0 (tCons (tVar 6) (tCons (tVar 7) tNil))) (tCons (tOp cIx (tVar 8) (tUn (rU fun i=>.int (-i)) (tC (.int 1)))) tNil))))
def l6(K:Frag)(c:RCl RK)(d:RCl PzK):TS:=
 (tSeq (tIfS (tNot (tB (tCall (bf K) [] E0 (tCons (tCall (lq K c d) [] E0 (tCons (tVar 6) (tCons (tSl ky (tVar 7) fW (tPart (tVar 11))) tNil))) (tCons (tOp cIx (tVar 8) (tVar 11)) tNil))))) (tRet (tC (.bl false))) tNext)
  (l5 K c d))
def l7(K:Frag)(c:RCl RK)(d:RCl PzK):TS:=
 (tSeq (tIfS (tNot (tB (tCall (bf K) [] E0 (tCons (tCall (fv K c d) [] E0 (tCons (tVar 6) (tCons (tVar 12) (tCons (tLst tNil) tNil)))) (tCons (tVar 12) tNil))))) (tRet (tC (.bl false))) tNext)
  (l6 K c d))
def qu(K:Frag)(c:RCl RK)(d:RCl PzK):TS:=
 (tSeq (tDrop (zq K "list" vx (tVar 13)))
  (l7 K c d))
def l8(K:Frag)(c:RCl RK)(d:RCl PzK):TS:=
 (tSeq (tAsg (tCall (fv K c d) [] E0 (tCons (tVar 6) (tCons (tVar 12) (tCons (tSl ky (tVar 7) (tPart (tVar 11)) fW) tNil)))) (gName 13))
  (tSeq (tIfS (tOr (tNot (tB (tCall (bf K) [] E0 (tCons (tVar 13) (tCons (tOp cIx (tVar 8) (tUn (rU fun i=>.int (-i)) (tC (.int 1)))) tNil))))) (tTest (tOp (cNe K) (tVar 12) (tOp cIx (tVar 8) (tVar 11))))) (tRet (tC (.bl false))) tNext)
  (qu K c d)))
def l9(K:Frag)(c:RCl RK)(d:RCl PzK):TS:=
 (tSeq (tAsg (tOp cMod (tCall (bh K) [] E0 (tCons (tVar 0) (tCons (tC (.int 8)) tNil))) (tCB kLen (tCons (tVar 8) tNil))) (gName 11))
  (tSeq (tAsg (tCB kList (tCons (tOp cIx (tVar 8) (tVar 11)) tNil)) (gName 12))
  (l8 K c d)))
def qv(K:Frag)(c:RCl RK)(d:RCl PzK):TS:=
 (tSeq (tDrop (tBM K "list" bD (tVar 10) (tCons (tC (.int 0)) tNil)))
  (tSeq (tAsg (tC (.int 0)) (gSub (tVar 10) (tC (.int 0)) cPut))
  (l9 K c d)))
def rZ(K:Frag)(c:RCl RK)(d:RCl PzK):TS:=
 (tSeq (tIfS (tOr (tNot (tB (tCall (bf K) [] E0 (tCons (tVar 10) (tCons (tOp cIx (tVar 8) (tUn (rU fun i=>.int (-i)) (tC (.int 1)))) tNil))))) (tTest (tOp (cNe K) (tVar 9) (tVar 7)))) (tRet (tC (.bl false))) tNext)
  (qv K c d))
def nL(K:Frag)(c:RCl RK)(d:RCl PzK):TS:=
 (tSeq (tAsg (tCB kList (tCons (tVar 7) tNil)) (gName 9))
  (tSeq (tAsg (tCall (lq K c d) [] E0 (tCons (tVar 6) (tCons (tVar 9) tNil))) (gName 10))
  (rZ K c d)))
def r8(K:Frag)(c:RCl RK)(d:RCl PzK):TS:=
 (tSeq (tAsg (tCall (kO K c d) [] E0 (tCons (tVar 0) (tCons (tVar 6) (tCons (tVar 1) (tCons (tVar 4) (tCons (tVar 2) tNil)))))) (gTup K 2 (gCons (gName 7) (gCons (gName 8) gNil))))
  (nL K c d))
def nN(K:Frag)(c:RCl RK)(d:RCl PzK):TS:=
 (tSeq (tAsg (tMake (d.A .Puzzle) (cP K c d) [] E0 (tCons (tVar 1) (tCons (tComp [none,none] (iList K (tVar 4)) (gName 1) tTrue (tOp cIx (tVar 1) (tC (.int 3)))) (tCons (tVar 5) tNil)))) (gName 6))
  (r8 K c d))
def sd(K:Frag)(c:RCl RK)(d:RCl PzK):TS:=
 (tSeq (sComp 5 [none,none,some 3,some 0] (fD (tCons (tVar 2) tNil)) (gName 1) tTrue (tOp cMul (tOp cIx (tVar 2) (tVar 1)) (tOp cMod (tOp cDiv (tCall (bh K) [] E0 (tCons (tVar 3) (tCons (tOp cAdd (tC (.int 300)) (tVar 1)) tNil))) (tC (.int 5))) (tC (.int 2)))))
  (nN K c d))
def se(K:Frag)(c:RCl RK)(d:RCl PzK):TS:=
 (tSeq (sComp 4 [none,none,some 3,some 1,some 0] (fD (tCons (tOp cAdd (tC (.int 1)) (tOp cMod (tCall (bh K) [] E0 (tCons (tVar 0) (tCons (tC (.int 9)) tNil))) (tC (.int 5)))) tNil)) (gName 1) tTrue (tCall (kI K) [] E0 (tCons (tCall (bh K) [] E0 (tCons (tVar 4) (tCons (tOp cAdd (tC (.int 10)) (tVar 1)) tNil))) (tCons (tVar 3) (tCons (tVar 2) tNil)))))
  (sd K c d))
def nO(K:Frag)(c:RCl RK)(d:RCl PzK):TS:=
 (tSeq (tAsg (tComp [none,none,some 1,some 0] (fD (tCons (tVar 2) tNil)) (gName 1) tTrue (tOp cAdd (tC (.int 1)) (tOp cMod (tOp cDiv (tCall (bh K) [] E0 (tCons (tVar 3) (tCons (tOp cAdd (tC (.int 1)) (tVar 1)) tNil))) (tC (.int 3))) (tOp cIx (tVar 2) (tC (.int 2)))))) (gName 3))
  (se K c d))
def sf(K:Frag)(c:RCl RK)(d:RCl PzK):TS:=
 (tSeq (tAsg (tOp cMul (tOp cIx (tVar 1) (tC (.int 0))) (tOp cIx (tVar 1) (tC (.int 1)))) (gName 2))
  (nO K c d))
def AA(K:Frag)(c:RCl RK)(d:RCl PzK):TS:=
 (tSeq (tAsg (tCall (j4 K) [] E0 (tCons (tCall (bh K) [] E0 (tCons (tVar 0) (tCons (tC (.int 0)) tNil))) tNil)) (gName 1))
  (sf K c d))
section
variable{K:Frag}{c:RCl RK}{d:RCl PzK}{H0 Hb H:Hp}{Q:VK}{a P L G p Rl B S:Addr}{ts Cs bs Ms as:List Addr}{ns:List Int}{h w g:Int}{Ld:List RR}{cl Lb:List Int}{Li:List Tho}{mss:List (List Int)}
structure Al40(K:Frag)(H0 Hb:Hp)(c:RCl RK)(d:RCl PzK)(a P L G B S:Addr)(bs Ms as:List Addr)(ns:List Int)(h w g:Int)(Ld:List RR)(cl:List Int)(Li:List Tho)(mss:List (List Int))(Lb:List Int):Prop where
 pS:SqL K Hb a (ns.map V.int)
 pn:ns.length<=63
 pP:IsPz Hb c d P L G h w g Ld cl
 pB:Bk40 H0 Hb B S bs Ms as h w g Ld cl (fuL h w g) Li mss Lb
 tl:Li.length<=200
theorem Al40.same{H':Hp}(x:Al40 K H0 Hb c d a P L G B S bs Ms as ns h w g Ld cl Li mss Lb)(s:Same Hb H'):Al40 K H0 H' c d a P L G B S bs Ms as ns h w g Ld cl Li mss Lb:=⟨s.seq x.pS,x.pn,x.pP.same s,x.pB.same s,x.tl⟩
theorem Al40.mk'(x:Al40 K H0 Hb c d a P L G B S bs Ms as ns h w g Ld cl Li mss Lb):MkP g (h*w).toNat Lb:=(x.pB.wl.okM x.pP.R.F.g0 x.pP.R.F.g1 (wn x.pP.R.F.g0 x.pP.R.F.g1)).1
theorem Al40.new(x:Al40 K H0 Hb c d a P L G B S bs Ms as ns h w g Ld cl Li mss Lb){l:Addr}(s:Same Hb H)(hl:H l=none):l∉Ms:=fun hm=>by
 obtain⟨i,hi,e⟩:=List.getElem_of_mem hm;have l1:=x.pB.bk.len;have l2:=x.pB.bk.lnM;have y:=x.pB.bk.at_ i (bs[i]'(by omega)) l (Li[i]'(by omega)) (Lq (by omega)) (by rw[Lq hi,e]) (Lq (by omega));rw[s _ _ y.M] at hl;cases hl
theorem CT{v0 v1 v2 v3 v4 v5 v9 v10 v11 v12 v13:Option V}(X:Al40 K H0 H c d a P L G B S bs Ms as ns h w g Ld cl Li mss Lb)(q:∀ H',Q (.bl true) H'):
  l5 K c d (eD9 Q) [v0,v1,v2,v3,v4,v5,some (.ref P),some (.ref B),some (.ref S),v9,v10,v11,v12,v13] H:=by
 obtain⟨y,ey,hy⟩:=X.pB.last40;have mk:=X.mk';have tl:=X.tl;have m16:=X.pP.R.F.m;have ml:=mk.len;unfold l5;symm;refine⟨P,L,G,B,bs,Ms,h,w,g,Ld,cl,Lb,allT,Li,rfl,X.pP,X.pB.bk,X.pB.wl,by omega,fun l H1 s1 hl el=>?_⟩;symm;refine ixL (s1 _ _ X.pB.ll.top) (oR ey) ?_;exact⟨l,y,Lb,rfl,el,s1 _ _ hy,by omega,fun H2 _=>q H2⟩
theorem CU{j:Nat}{v0 v1 v2 v3 v4 v5 v9 v10 v12 v13:Option V}(X:Al40 K H0 H c d a P L G B S bs Ms as ns h w g Ld cl Li mss Lb)(hj:j<=Li.length)(q:∀ H',Q (.bl true) H'):
  l6 K c d (eD9 Q) [v0,v1,v2,v3,v4,v5,some (.ref P),some (.ref B),some (.ref S),v9,v10,some (.int (j:Int)),v12,v13] H:=by
 obtain⟨y,m,ey,hy,w1,w2⟩:=X.pB.at40 hj;have mk:=(w1.okM X.pP.R.F.g0 X.pP.R.F.g1 (wn X.pP.R.F.g0 X.pP.R.F.g1)).1;have m16:=X.pP.R.F.m;have ml:=mk.len;have tl:=X.tl;unfold l6;rw[ay,aB];generalize hW:l5 K c d=W at*;symm;refine pZ X.pB.bk.top fun l hl=>?_;rw[z6 V.ref];obtain⟨H1,z9,s1,el⟩:=aS (.lst ((bs.take j).map V.ref)) hl;rw[z9];refine⟨P,L,G,l,_,_,h,w,g,Ld,cl,m,allT,_,rfl,X.pP.same s1,X.pB.bk.take40 j el s1 (X.new (Lr H) hl),w1,by rw[Mm];omega,fun r H2 s2 hr er=>?_⟩;symm;have s12:=s1.trans s2;refine ixL (s12 _ _ X.pB.ll.top) (v:=V.ref y) (cR (by rw[Lu,ey];rfl)) ?_;refine⟨r,y,m,rfl,er,s12 _ _ hy,by omega,fun H3 s3=>?_⟩;refine⟨true,rfl,?_⟩;symm;subst hW;exact CT (X.same (s12.trans s3)) q
theorem CV{j:Nat}{N:Addr}{m:List Int}{v0 v1 v2 v3 v4 v5 v9 v10 v13:Option V}(X:Al40 K H0 H c d a P L G B S bs Ms as ns h w g Ld cl Li mss Lb)(hj:j<=Li.length)(eN:H N=some (.lst (m.map V.int)))(mk:MkP g (h*w).toNat m)(q:∀ H',Q (.bl true) H'):
  l7 K c d (eD9 Q) [v0,v1,v2,v3,v4,v5,some (.ref P),some (.ref B),some (.ref S),v9,v10,some (.int (j:Int)),some (.ref N),v13] H:=by
 have m16:=X.pP.R.F.m;have ml:=mk.len;unfold l7;rw[ay,aB];generalize hW:l6 K c d=W at*;symm;refine⟨aW (by decide),fun l hl=>?_⟩;obtain⟨H1,z9,s1,el⟩:=aS (.lst []) hl;rw[z9];refine⟨P,L,G,N,l,[],[],h,w,g,Ld,cl,m,m,allT,[],rfl,⟨X.pP.same s1,s1 _ _ eN,mk.len,mk.mm⟩,IsBk.nil el,rfl,by decide,fun r H2 s2 hr er=>?_⟩;have s12:=s1.trans s2;refine⟨r,N,m,rfl,er,s12 _ _ eN,by omega,fun H3 s3=>?_⟩;refine⟨true,rfl,?_⟩;symm;subst hW;exact CU (X.same (s12.trans s3)) hj q
theorem CW{j:Nat}{N y:Addr}{m:List Int}{v0 v1 v2 v3 v4 v5 v9 v10:Option V}(X:Al40 K H0 H c d a P L G B S bs Ms as ns h w g Ld cl Li mss Lb)(hj:j<=Li.length)(eN:H N=some (.lst (m.map V.int)))(ey:as[j]? =some y)(hy:H y=some (.lst (m.map V.int)))(w1:Wlk h w g Ld cl allT (fuL h w g) (Li.take j) m)(w2:Wlk h w g Ld cl allT m (Li.drop j) Lb)(q:∀ H',Q (.bl true) H'):
  l8 K c d (eD9 Q) [v0,v1,v2,v3,v4,v5,some (.ref P),some (.ref B),some (.ref S),v9,v10,some (.int (j:Int)),some (.ref N),none] H:=by
 obtain⟨z,ez,hz⟩:=X.pB.last40;have mk:=(w1.okM X.pP.R.F.g0 X.pP.R.F.g1 (wn X.pP.R.F.g0 X.pP.R.F.g1)).1;have mk2:=X.mk';have m16:=X.pP.R.F.m;have ml:=mk.len;have ml2:=mk2.len;have tl:=X.tl;have bl:=X.pB.bk.len;unfold l8;generalize hW:qu K c d=W at*;symm;refine pZ X.pB.bk.top fun l hl=>?_;rw[Ho V.ref _ (by omega)];obtain⟨H1,z9,s1,el⟩:=aS (.lst ((bs.drop j).map V.ref)) hl;rw[z9];refine⟨P,L,G,N,l,_,_,h,w,g,Ld,cl,m,Lb,allT,_,rfl,⟨X.pP.same s1,s1 _ _ eN,mk.len,mk.mm⟩,X.pB.bk.drop40 j el s1 (X.new (Lr H) hl),w2,by rw[MS];omega,fun r H2 s2 hr er=>?_⟩;have s12:=s1.trans s2;symm;rw[aB];symm;refine ixL (s12 _ _ X.pB.ll.top) (oR ez) ?_;refine⟨r,z,Lb,rfl,er,s12 _ _ hz,by omega,fun H3 s3=>?_⟩;refine⟨true,rfl,?_⟩;symm;have s13:=s12.trans s3;refine ixL (s13 _ _ X.pB.ll.top) (v:=V.ref y) (cR (by rw[Lu,ey];rfl)) ?_;refine pY (s13 _ _ eN) (s13 _ _ hy) ?_;rw[Lv rfl];symm;subst hW;unfold qu;generalize hW:l7 K c d=W at*;symm;refine⟨bA (s3 _ _ er),FW (s3 _ _ er) ?_⟩;subst hW;have s4:Same H (upd H3 r (.lst [])):=s13.own (s1.free hr);exact CV (X.same s4) hj (s4 _ _ eN) mk q
theorem CY{v1 v2 v3 v4 v5 v9 v10:Option V}(X:Al40 K H0 H c d a P L G B S bs Ms as ns h w g Ld cl Li mss Lb)(q:∀ H',Q (.bl true) H'):
  l9 K c d (eD9 Q) [some (.ref a),v1,v2,v3,v4,v5,some (.ref P),some (.ref B),some (.ref S),v9,v10,none,none,none] H:=by
 have al:=X.pB.ll.len;have ml:=X.pB.ml;unfold l9;generalize hW:l8 K c d=W at*;symm;refine⟨a,ns,_,rfl,X.pS,X.pn,by decide,by decide,?_⟩;symm;rw[aN X.pB.ll.top,Lp];have j0:=Mc (lawCA ns 8) (show((as.length:Nat):Int)≠0 by omega);have j1:=Mb (lawCA ns 8) (show 0 < ((as.length:Nat):Int) by omega);symm;refine⟨by omega,?_⟩;have ej:lawCA ns 8 % ((as.length:Nat):Int)=(((lawCA ns 8 % ((as.length:Nat):Int)).toNat:Nat):Int):=by omega
 have hj:(lawCA ns 8 % ((as.length:Nat):Int)).toNat<=Li.length:=by omega
 rw[ej];generalize (lawCA ns 8 % ((as.length:Nat):Int)).toNat=j at*;obtain⟨y,m,ey,hy,w1,w2⟩:=X.pB.at40 hj;symm;refine ixL X.pB.ll.top (v:=V.ref y) (cR (by rw[Lu,ey];rfl)) ?_;refine lg hy fun N hN=>?_;obtain⟨H1,z9,s1,eN⟩:=aS (.lst (m.map V.int)) hN;rw[z9];subst hW;exact CW (X.same s1) hj eN ey (s1 _ _ hy) w1 w2 q
theorem EG{v1 v2 v3 v4 v5:Option V}(X:Al40 K H0 H c d a P L G B S bs Ms as ns h w g Ld cl Li mss Lb)(q:∀ H',Q (.bl true) H'):
  nL K c d (eD9 Q) [some (.ref a),v1,v2,v3,v4,v5,some (.ref P),some (.ref B),some (.ref S),none,none,none,none,none] H:=by
 obtain⟨z,ez,hz⟩:=X.pB.last40;have mk2:=X.mk';have m16:=X.pP.R.F.m;have ml2:=mk2.len;have tl:=X.tl;have mp:1<=h*w:=by have:=X.pP.R.F.h0;have:=X.pP.R.F.w0;exact NL (by omega) (by omega)
 unfold nL;generalize hW:rZ K c d=W at*;symm;refine lg X.pB.bk.top fun N hN=>?_;obtain⟨H1,z9,s1,eN⟩:=aS (.lst (bs.map V.ref)) hN;rw[z9];have bN:IsBk H1 N bs Ms Li:=X.pB.bk.copy40 eN s1 (X.new (Lr H) hN);symm;refine⟨P,L,G,N,bs,Ms,h,w,g,Ld,cl,Lb,allT,Li,rfl,X.pP.same s1,bN,X.pB.wl,by omega,fun r H2 s2 hr er=>?_⟩;have s12:=s1.trans s2;subst hW;unfold rZ;generalize hW:qv K c d=W at*;dsimp only;rw[ay,aB];symm;refine ixL (s12 _ _ X.pB.ll.top) (oR ez) ?_;refine⟨r,z,Lb,rfl,er,s12 _ _ hz,by omega,fun H3 s3=>?_⟩;refine⟨true,rfl,?_⟩;symm;have s13:=s12.trans s3;refine Fn (FG (bN.same (s2.trans s3))) (FG (X.pB.bk.same s13)) (Ex Li) (Fw Li) ?_;symm;subst hW;unfold qv;generalize hW:l9 K c d=W at*;symm;have er3:=s3 _ _ er;refine⟨bA er3,?_⟩;rw[gA er3];refine⟨by rw[Lp];exact aH (by omega),?_⟩;have ea:Lb.map V.int++[V.int 0]=(Lb++[0]).map V.int:=by rw[My];rfl
 rw[ea];symm;refine FC (xs:=(Lb++[0]).map V.int) aj (by decide) (by rw[Lp,LC];simp) ?_;subst hW;have fr:=s1.free hr;exact CY (X.same ((s13.own fr).own fr)) q
theorem Gw {n:Nat} {σ0:St} {te:TE} {fin:Addr->Hp->Prop} (F:FlOk h w g) (hn:n<=12)
  (he:∀ i H1 Q,i<n->Same H H1->RlP Q H1 h w g->te (σ0.set 1 (some (.int (0+(i:Int))))) H1 Q)
  (hd:∀(l:Addr) (ts Cs:List Addr) (Ld:List RR) (H1:Hp),H l=none->Same H H1->Rs40 H1 l ts Cs Ld->Ld.length=n->(∀ r∈Ld,r.Ok h w g)->fin l H1):
  CompR (Itr 0 n) (gName 1) tTrue te fin σ0 H:=by
 refine pX (fun l i σ H1=>(σ=σ0\/∃ cv,σ=σ0.set 1 cv)/\Same H H1/\∃(ts Cs:List Addr) (Ld:List RR),Rs40 H1 l ts Cs Ld/\Ld.length=i/\l∉Cs/\∀ r∈Ld,r.Ok h w g) (fun l hl=>⟨.inl rfl,(Lr H).laid hl,[],[],[],⟨by rw[aj];rfl,rfl,rfl,fun i T C r e _ _=>by simp at e⟩,rfl,by simp,(fun _ h=>nomatch h)⟩) ?_ (fun l σ H1 hl ⟨_,s1,ts,Cs,Ld,R,rl,_,ok⟩=>hd l ts Cs Ld H1 hl s1 R rl ok);rintro l i σ H1 hl hi ⟨hσ,s1,ts,Cs,Ld,R,rl,nC,ok⟩;rw[aR]
 have e:σ.set 1 (some (.int (0+(i:Int))))=σ0.set 1 (some (.int (0+(i:Int)))):=by
  rcases hσ with rfl | ⟨cv,rfl⟩
  . rfl
  . exact MX ..
 rw[e,cg,LX rfl];have tl:=R.len;have cl:=R.lnC;refine he i H1 _ hi s1 fun T0 C r H2 s2 Y O=>?_
 have nCl:C≠l:=fun e=>by
  have a:=Y.C;rw[e,s2 _ _ R.top] at a;have b:=(xK O F).1
  cases ts with
  | nil=>
   cases hc:r.cs with
   | nil=>rw[hc] at b;cases b
   | cons x y=>rw[hc] at a;cases a
  | cons t y=>
   cases hc:r.cs with
   | nil=>rw[hc] at b;cases b
   | cons x y=>rw[hc] at a;cases a
 refine⟨_,s2 _ _ R.top,by rw[Lp];exact aH (by omega),.inr ⟨_,rfl⟩,(s1.trans s2).own hl,ts++[T0],Cs++[C],Ld++[r],?_,by rw[LC,rl];rfl,?_,fun x hx=>?_⟩
 . have up:∀{T C:Addr} {r:RR},IsRl H2 T C r->C≠l->IsRl (upd H2 l (.lst (ts.map V.ref++[V.ref T0]))) T C r:=fun{T C r} y nC=>⟨by
     have ne:T≠l:=fun e=>by have:=y.top;rw[e,s2 _ _ R.top] at this;cases this
     rw[ao ne];exact y.top,by rw[ao nC];exact y.C⟩
   refine⟨by rw[aj,My];rfl,by rw[LC,LC,tl];rfl,by rw[LC,LC,cl];rfl,fun j T' C' r' h1 h2 h3=>?_⟩;by_cases hj:j<ts.length
   . rw[LT hj] at h1;rw[LT (by omega)] at h2 h3;exact up ((R.at_ j T' C' r' h1 h2 h3).same s2) fun e=>nC (e ▸ LB h2)
   . rw[L6 (by omega)] at h1 h2 h3;have hj2:j=ts.length:=by have:=(Lx.mp h1).1;simp at this;omega
     subst hj2;rw[Nat.sub_self] at h1;rw[show ts.length-Cs.length=0 by omega] at h2;rw[show ts.length-Ld.length=0 by omega] at h3;cases h1;cases h2;cases h3;exact up Y nCl
 . intro hx;rcases LR.mp hx with hx | hx
   . exact nC hx
   . exact nCl (LE.mp hx).symm
 . rcases LR.mp hx with hx | hx
   . exact ok x hx
   . rw[LE.mp hx];exact O
theorem EH{Cl f:Addr}(hS:SqL K H a (ns.map V.int))(hn:ns.length<=63)(hp:IsFl H p h w g)(F:FlOk h w g)(m9:h*w<=9)(g4:g<=4)(R:Rs40 H Rl ts Cs Ld)(ro:∀ r∈Ld,r.Ok h w g)(r1:1<=Ld.length)(r2:Ld.length<=12)(eC:H Cl=some (.lst (cl.map V.int)))(Cc:CluesOk h w g cl)(okc:∀ k,k≠.Rule->c.ok k=true)(ok:d.ok .Puzzle=true)(q:∀ H',Q (.bl true) H'):
  nN K c d (eD9 Q) [some (.ref a),some (.ref p),some (.int (h*w)),some (.ref f),some (.ref Rl),some (.ref Cl),none,none,none,none,none,none,none,none] H:=by
 have tl:=R.len;have cln:=R.lnC;unfold nN;generalize hW:r8 K c d=W at*;symm;refine⟨⟨_,LH R.top⟩,?_⟩;refine bU (xs:=ts.map V.ref) (fun _=>true) (fun i=>V.str ((Ld.map RR.txt).getD i "")) (by rw[Lp];omega) (LH R.top) ?_ ?_ ?_
 . intro i x H4 R4 hx s4 k4;exact k4 _ (Lr _)
 . intro i x H4 Q4 hx hb4 s4 k4;obtain⟨T,hT,rfl⟩:=fX hx;have hi:=(Lx.mp hT).1;have e2:Cs[i]? =some (Cs[i]'(by omega)):=Lq (by omega);have e3:Ld[i]? =some (Ld[i]'(by omega)):=Lq (by omega);have Y:=(R.at_ i T _ _ hT e2 e3).same s4;show tOp cIx _ _ [none,some (.ref T)] H4 Q4;symm;refine ixT Y.top (v:=V.str (Ld[i]'(by omega)).txt) rfl ?_;have ex:(Ld.map RR.txt).getD i ""=(Ld[i]'(by omega)).txt:=by rw[List.getD,Lu,e3];rfl
   rw[ex] at k4;exact k4 _ (Lr _)
 . intro Ll H1 hL s1 eL
   have eL:H1 Ll=some (.lst ((Ld.map RR.txt).map V.str)):=by
    rw[eL]
    congr 2
    rw[M2.mpr (fun _ _=>rfl),Lp];refine MB fun i=>?_;rw[Lu,Lu,Lu];rcases OP i ts.length with hi | hi
    . rw[Mv hi,Lq (by omega)];show some (V.str ((Ld.map RR.txt).getD i ""))=_;rw[List.getD,Lu,Lq (by omega)];rfl
    . rw[LP (by rw[Mp];exact hi),LP (by omega)];rfl
   symm;refine He ok (s1 _ _ hp) eL (s1 _ _ eC) ⟨F,r2,ro,fun r hr=>okc _ (ro r hr).k0⟩ Cc fun P L G H2 s2 hP hL hG pz=>?_;have s12:=s1.trans s2;symm;subst hW;unfold r8;generalize hW:nL K c d=W at*;symm;refine⟨a,P,L,G,p,Rl,ts,Cs,ns,h,w,g,Ld,cl,rfl,⟨s12.seq hS,hn,pz,s12 _ _ hp,m9,g4,R.same s12,r1⟩,fun T B S bs Ms as Li mss Lb H3 X tl eT=>?_⟩;refine rz eT rfl ?_;rw[p6];subst hW;exact EG ⟨(s12.trans X.sm).seq hS,hn,pz.same X.sm,X,tl⟩ q
theorem EI(hS:SqL K H a (ns.map V.int))(hn:ns.length<=63)(hp:IsFl H p h w g)(F:FlOk h w g)(m9:h*w<=9)(g4:g<=4)(okc:∀ k,k≠.Rule->c.ok k=true)(ok:d.ok .Puzzle=true)(q:∀ H',Q (.bl true) H'):
  nO K c d (eD9 Q) [some (.ref a),some (.ref p),some (.int (h*w)),none,none,none,none,none,none,none,none,none,none,none] H:=by
 have g0:=F.g0;have mp:1<=h*w:=by have:=F.h0;have:=F.w0;exact NL (by omega) (by omega)
 unfold nO;rw[ay];generalize hW:se K c d=W at*;symm;refine⟨_,rfl,by omega,by omega,?_⟩;refine d6 (fun _=>true) (fun(i:Nat)=>1+lawCA ns (1+(i:Int))/3%g) (by omega) ?_ ?_ ?_
 . intro i H4 R4 hi s4 k4;exact k4 _ (Lr _)
 . intro i H4 Q4 hi hb4 s4 k4;have hi':i < (h*w).toNat:=hi;show tOp cAdd _ _ [none,some (.int (0+(i:Int))),some (.ref p),some (.ref a)] H4 Q4;rw[ML];symm;refine⟨a,ns,_,rfl,s4.seq hS,hn,by omega,by omega,?_⟩;symm;refine⟨⟨by decide,by decide⟩,?_⟩;refine ixT (s4 _ _ hp) (v:=V.int g) rfl ?_;symm;exact⟨by omega,k4 _ (Lr _)⟩
 . intro f H1 hf s1 ef;rw[a9] at ef;have fll:((List.range (h*w).toNat).map fun(i:Nat)=>1+lawCA ns (1+(i:Int))/3%g).length=(h*w).toNat:=by simp
   have sg:∀ x∈(List.range (h*w).toNat).map fun(i:Nat)=>1+lawCA ns (1+(i:Int))/3%g,1<=x/\x<=g:=fun x hx=>by
    obtain⟨i,_,rfl⟩:=LK.mp hx;have b0:=Mc (lawCA ns (1+(i:Int))/3) (show g≠0 by omega);have b1:=Mb (lawCA ns (1+(i:Int))/3) (show 0<g by omega);omega
   generalize ((List.range (h*w).toNat).map fun(i:Nat)=>1+lawCA ns (1+(i:Int))/3%g)=fl at*;symm;subst hW;unfold se;rw[ay];generalize hW:sd K c d=W at*;symm;refine⟨a,ns,_,rfl,s1.seq hS,hn,by decide,by decide,?_⟩;symm;have b0:=Mc (lawCA ns 9) (show(5:Int)≠0 by decide);have b1:=Mb (lawCA ns 9) (show(0:Int)<5 by decide);refine⟨by decide,_,rfl,by omega,by omega,?_⟩;generalize hx:1+lawCA ns 9%5=x at*;refine Gw (h:=h) (w:=w) (g:=g) F (by omega) ?_ ?_
   . intro i H4 Q4 hi s4 k4;have hi':i<x.toNat:=hi;show tCall _ _ _ _ [none,some (.int (0+(i:Int))),some (.ref f),some (.ref p),some (.ref a)] H4 Q4;rw[ML];symm;have s14:=s1.trans s4;refine⟨a,ns,_,rfl,s14.seq hS,hn,by omega,by omega,?_⟩;exact⟨p,f,_,h,w,g,fl,rfl,⟨s14 _ _ hp,F,m9,s4 _ _ ef,fll,sg⟩,k4⟩
   . intro Rl ts Cs Ld H2 hR s2 R rl ro;have s12:=s1.trans s2;symm;subst hW;unfold sd;rw[ay];generalize hW:nN K c d=W at*;symm;refine⟨_,rfl,by omega,by omega,?_⟩;refine d6 (fun _=>true) (fun(i:Nat)=>fl.getD i 0*(lawCA ns (300+(i:Int))/5%2)) (by omega) ?_ ?_ ?_
     . intro i H4 R4 hi s4 k4;exact k4 _ (Lr _)
     . intro i H4 Q4 hi hb4 s4 k4;have hi':i < (h*w).toNat:=hi;show tOp cMul _ _ [none,some (.int (0+(i:Int))),some (.ref f),some (.ref a)] H4 Q4;rw[ML];symm;refine ixI ((s2.trans s4) _ _ ef) (by omega) (by omega) ?_;rw[MG];refine⟨a,ns,_,rfl,(s12.trans s4).seq hS,hn,by omega,by omega,?_⟩;symm;have b:=sg _ (eP (ms:=fl) (k:=i) (by omega));exact⟨⟨by decide,by decide⟩,by decide,nq b.1 (by omega),k4 _ (Lr _)⟩
     . intro Cl H3 hC s3 eC;rw[a9] at eC;have cll:((List.range (h*w).toNat).map fun(i:Nat)=>fl.getD i 0*(lawCA ns (300+(i:Int))/5%2)).length=(h*w).toNat:=by simp
       have cb:∀ x∈(List.range (h*w).toNat).map fun(i:Nat)=>fl.getD i 0*(lawCA ns (300+(i:Int))/5%2),0<=x/\x<=g:=fun x hx=>by
        obtain⟨i,hi,rfl⟩:=LK.mp hx;have b:=sg _ (eP (ms:=fl) (k:=i) (by have:=LL.mp hi;omega));have e:lawCA ns (300+(i:Int))/5%2=0\/lawCA ns (300+(i:Int))/5%2=1:=by omega
        rcases e with e | e
        . rw[e,Int.mul_zero];omega
        . rw[e,Int.mul_one];omega
       generalize ((List.range (h*w).toNat).map fun(i:Nat)=>fl.getD i 0*(lawCA ns (300+(i:Int))/5%2))=cl at*;symm;subst hW;have s13:=s12.trans s3;exact EH (s13.seq hS) hn (s13 _ _ hp) F m9 g4 (R.same s3) ro (by omega) (by omega) eC ⟨cll,cb⟩ okc ok q
end
theorem Hz(h:EF K c d vs H Q E):AA K c d (eD9 Q) (start ["_law_script","_law_floor_here","_law_many","_law_filling","_law_rules","_law_clues","_law_puzzle","_law_book_here","_law_steps","_law_handed","_law_found","_law_cut","_law_masks","_law_later"] vs) H:=by
 obtain⟨a,ns,rfl,hs,hn,ok,okd,q⟩:=h;show AA K c d _ [some (.ref a),none,none,none,none,none,none,none,none,none,none,none,none,none] H;unfold AA;rw[ay];generalize hW:sf K c d=W at*;symm;refine⟨a,ns,0,rfl,hs,hn,by decide,by decide,?_⟩;refine⟨_,rfl,fun p h w g H1 s1 hp0 hp F m9 g4=>?_⟩;subst hW;unfold sf;rw[ay];generalize hW:nO K c d=W at*;symm;refine ixT hp (v:=V.int h) rfl ?_;refine ixT hp (v:=V.int w) rfl ?_;symm;refine⟨nq F.h0 F.h1,?_⟩;subst hW;exact EI (s1.seq hs) hn hp F m9 g4 ok okd q
section
variable{X:Cx}{e:Expr}{es rs:List Expr}{te:TE}{t:TA}
theorem gW{c:Const}{k}{p:Pos}(ha:PE X (.Constant c k p) te)(hr:PA X es t):PA X (.Constant c k p::es) (tCons te t):=aa ha hr
end
local macro_rules | `(tactic| walk_at "l")=>`(tactic| (intro vs H Q E h; (repeat obtain ⟨_,h⟩:=h); subst_vars; rfl))
local macro_rules | `(tactic| ac_rfl)=>`(tactic| exact ⟨rfl,rfl,rfl,by decide+kernel,rfl,by decide+kernel,by decide+kernel⟩)
def top(i:Nat):Stmt:=PySem.Challenge.pw_cluemaker_k40_a_book_followed.main.body.getD i (.Pass ⟨0,0,0,0⟩)
def mtop(i j:Nat):Stmt:=match top i with
 | .ClassDef _ _ _ body _ _ _ _ _ _ _=>body.getD j (.Pass ⟨0,0,0,0⟩)
 | s=>s
abbrev hE(Z:Z5):Prop:=Cal Z.P Z.w Z.K Z.mg Z.base 1 "is_whole" ["value"] (d9 Z.K)
abbrev dr(Z:Z5):Prop:=Cal Z.P Z.w Z.K Z.mg Z.base 1 "many_cells" ["floor"] (b9 Z.K)
abbrev sh(Z:Z5):Prop:=Cal Z.P Z.w Z.K Z.mg Z.base 1 "spot_of" ["floor","cell"] (lX Z.K)
abbrev ub(Z:Z5):Prop:=Cal Z.P Z.w Z.K Z.mg Z.base 1 "square_at" ["floor","corner"] (mD Z.K)
abbrev u9(Z:Z5):Prop:=Cal Z.P Z.w Z.K Z.mg Z.base 1 "bit_of" ["sign"] (nF Z.K)
abbrev kQ(Z:Z5):Prop:=Cal Z.P Z.w Z.K Z.mg Z.base 1 "stands" ["mask","sign"] (gG Z.K)
abbrev nP(Z:Z5):Prop:=Cal Z.P Z.w Z.K Z.mg Z.base 1 "clashes" ["masks"] (jQ Z.K)
abbrev fP(Z:Z5):Prop:=Cal Z.P Z.w Z.K Z.mg Z.base 1 "masks_at" ["masks","cells"] (cr Z.K)
abbrev pb(Z:Z5):Prop:=Cal Z.P Z.w Z.K Z.mg Z.base 1 "clue_strikes" ["clues","cell","sign","more"] (jH Z.K)
abbrev kj(Z:Z5):Prop:=Cal Z.P Z.w Z.K Z.mg Z.base 1 "are_told_in_order" ["cells","more"] (fJ Z.K)
abbrev oS(Z:Z5):Prop:=Cal Z.P Z.w Z.K Z.mg Z.base 1 "with_sign" ["filling","cell","sign"] (jU Z.K)
abbrev oT(Z:Z5):Prop:=Cal Z.P Z.w Z.K Z.mg Z.base 1 "has_parts" ["thought"] (jZ Z.K)
abbrev uc(Z:Z5):Prop:=Cal Z.P Z.w Z.K Z.mg Z.base 1 "is_within" ["some","cells"] (mQ Z.K)
abbrev ud(Z:Z5):Prop:=Cal Z.P Z.w Z.K Z.mg Z.base 1 "number_in" ["word"] (mI Z.K)
abbrev kR(Z:Z5):Prop:=Cal Z.P Z.w Z.K Z.mg Z.base 1 "_law_cell_at" ["_law_script","_law_k"] (bh Z.K)
abbrev si(Z:Z5):Prop:=Cal Z.P Z.w Z.K Z.mg Z.base 1 "_law_floor" ["_law_cell"] (j4 Z.K)
abbrev kZ(Z:Z5):Prop:=Cal Z.P Z.w Z.K Z.mg Z.base 1 "_law_near" ["_law_floor_here","_law_cell"] (gO Z.K)
abbrev sj(Z:Z5):Prop:=Cal Z.P Z.w Z.K Z.mg Z.base 1 "_law_drawn" ["_law_number","_law_many","_law_size"] (gq Z.K)
abbrev sk(Z:Z5):Prop:=Cal Z.P Z.w Z.K Z.mg Z.base 1 "_law_above" ["_law_filling","_law_cells"] (gr Z.K)
abbrev so(Z:Z5):Prop:=Cal Z.P Z.w Z.K Z.mg Z.base 1 "_law_signs" ["_law_mask"] (j8 Z.K)
abbrev sr(Z:Z5):Prop:=Cal Z.P Z.w Z.K Z.mg Z.base 1 "_law_kinds" ["_law_word"] (kb Z.K)
abbrev lr(Z:Z5):Prop:=Cal Z.P Z.w Z.K Z.mg Z.base 1 "_law_masks_alike" ["_law_found","_law_due"] (bf Z.K)
abbrev jc(Z:Z5):Prop:=Cal Z.P Z.w Z.K Z.mg Z.base 2 "is_from_one_to" ["value","most"] (b8 Z.K)
abbrev mY(Z:Z5):Prop:=Cal Z.P Z.w Z.K Z.mg Z.base 2 "beside" ["floor","cell"] (gD Z.K)
abbrev ue(Z:Z5):Prop:=Cal Z.P Z.w Z.K Z.mg Z.base 2 "is_corner" ["floor","cell"] (mB Z.K)
abbrev uf(Z:Z5):Prop:=Cal Z.P Z.w Z.K Z.mg Z.base 2 "full_mask" ["floor"] (mV Z.K)
abbrev su(Z:Z5):Prop:=Cal Z.P Z.w Z.K Z.mg Z.base 2 "without" ["mask","sign"] (l0 Z.K)
abbrev fQ(Z:Z5):Prop:=Cal Z.P Z.w Z.K Z.mg Z.base 2 "signs_in" ["mask"] (cq Z.K)
abbrev nQ(Z:Z5):Prop:=Cal Z.P Z.w Z.K Z.mg Z.base 2 "is_cell" ["floor","value"] (jC Z.K)
abbrev yp(Z:Z5)(c:RCl RK):Prop:=Cal Z.P Z.w Z.K Z.mg Z.base 2 "goes_by" ["kind","rule"] (qh Z.K c)
abbrev gX(Z:Z5)(c:RCl RK):Prop:=Cal Z.P Z.w Z.K Z.mg Z.base 2 "others" ["rule","cell"] (d4 Z.K c)
abbrev ma(Z:Z5):Prop:=Cal Z.P Z.w Z.K Z.mg Z.base 2 "many_may" ["some","sign"] (f7 Z.K)
abbrev wz(Z:Z5)(c:RCl RK):Prop:=Cal Z.P Z.w Z.K Z.mg Z.base 2 "ahead_of" ["rule","cell"] (oF Z.K c)
abbrev AB(Z:Z5)(c:RCl RK):Prop:=Cal Z.P Z.w Z.K Z.mg Z.base 2 "behind" ["rule","cell"] (rL Z.K c)
abbrev mZ(Z:Z5):Prop:=Cal Z.P Z.w Z.K Z.mg Z.base 2 "with_each_sign" ["fillings","cell","signs"] (ij Z.K)
abbrev pc(Z:Z5):Prop:=Cal Z.P Z.w Z.K Z.mg Z.base 2 "is_supposing" ["thought"] (j2 Z.K)
abbrev kd(Z:Z5):Prop:=Cal Z.P Z.w Z.K Z.mg Z.base 2 "number_within" ["word","least","most"] (fH Z.K)
abbrev sw(Z:Z5):Prop:=Cal Z.P Z.w Z.K Z.mg Z.base 2 "is_filling" ["floor","filling","least"] (lG Z.K)
abbrev qE(Z:Z5):Prop:=Cal Z.P Z.w Z.K Z.mg Z.base 2 "_law_joined" ["_law_floor_here","_law_some"] (ja Z.K)
abbrev ug(Z:Z5):Prop:=Cal Z.P Z.w Z.K Z.mg Z.base 2 "_law_more" ["_law_kind","_law_number","_law_floor_here","_law_masks","_law_cells","_law_cell","_law_sign","_law_goal"] (kM Z.K)
abbrev wA(Z:Z5):Prop:=Cal Z.P Z.w Z.K Z.mg Z.base 3 "floor_of" ["high","wide","signs"] (oy Z.K)
abbrev sx(Z:Z5):Prop:=Cal Z.P Z.w Z.K Z.mg Z.base 3 "squares" ["floor"] (lZ Z.K)
abbrev sy(Z:Z5):Prop:=Cal Z.P Z.w Z.K Z.mg Z.base 3 "reached" ["floor","cells","start"] (jS Z.K)
abbrev EJ(Z:Z5):Prop:=Cal Z.P Z.w Z.K Z.mg Z.base 3 "full" ["floor"] (xB Z.K)
abbrev ke(Z:Z5):Prop:=Cal Z.P Z.w Z.K Z.mg Z.base 3 "has_only" ["mask","sign"] (f6 Z.K)
abbrev AC(Z:Z5):Prop:=Cal Z.P Z.w Z.K Z.mg Z.base 3 "struck" ["masks","cell","sign"] (rV Z.K)
abbrev EK(Z:Z5):Prop:=Cal Z.P Z.w Z.K Z.mg Z.base 3 "ways" ["masks"] (xz Z.K)
abbrev nR(Z:Z5):Prop:=Cal Z.P Z.w Z.K Z.mg Z.base 3 "is_sign" ["floor","value"] (jD Z.K)
abbrev pe(Z:Z5)(c:RCl RK)(d:RCl PzK):Prop:=Cal Z.P Z.w Z.K Z.mg Z.base 3 "has_its_rule" ["puzzle","kind","number","cell"] (jE Z.K c d)
abbrev nS(Z:Z5):Prop:=Cal Z.P Z.w Z.K Z.mg Z.base 3 "is_no_greater" ["sign","mask"] (i5 Z.K)
abbrev sA(Z:Z5):Prop:=Cal Z.P Z.w Z.K Z.mg Z.base 3 "is_no_less" ["sign","mask"] (lI Z.K)
abbrev pf(Z:Z5)(c:RCl RK):Prop:=Cal Z.P Z.w Z.K Z.mg Z.base 3 "pair_strikes" ["rule","masks","cell","sign","more"] (jM Z.K c)
abbrev qF(Z:Z5)(c:RCl RK):Prop:=Cal Z.P Z.w Z.K Z.mg Z.base 3 "sum_strikes" ["rule","masks","cell","sign","more"] (kD Z.K c)
abbrev AD(Z:Z5):Prop:=Cal Z.P Z.w Z.K Z.mg Z.base 3 "around" ["floor","middle","cell"] (rP Z.K)
abbrev ph(Z:Z5):Prop:=Cal Z.P Z.w Z.K Z.mg Z.base 3 "first_within" ["words","least","most"] (d3 Z.K)
abbrev sB(Z:Z5):Prop:=Cal Z.P Z.w Z.K Z.mg Z.base 3 "told_cells" ["floor","words"] (lC Z.K)
abbrev yq(Z:Z5)(c:RCl RK):Prop:=Cal Z.P Z.w Z.K Z.mg Z.base 3 "rule_by" ["floor","words","cells","amount","mark"] (qb Z.K c)
abbrev nV(Z:Z5):Prop:=Cal Z.P Z.w Z.K Z.mg Z.base 3 "checked_clues" ["floor","clues"] (iS Z.K)
abbrev nX(Z:Z5):Prop:=Cal Z.P Z.w Z.K Z.mg Z.base 3 "_law_by_floor" ["_law_floor_here","_law_filling","_law_word","_law_sign"] (gP Z.K)
abbrev pi(Z:Z5):Prop:=Cal Z.P Z.w Z.K Z.mg Z.base 3 "_law_thought" ["_law_number","_law_floor_here","_law_rules","_law_masks"] (iy Z.K)
abbrev uh(Z:Z5)(c:RCl RK)(d:RCl PzK):Prop:=Cal Z.P Z.w Z.K Z.mg Z.base 4 "is_formed" ["puzzle","thought"] (mM Z.K c d)
abbrev k9(Z:Z5):Prop:=Cal Z.P Z.w Z.K Z.mg Z.base 4 "many_only" ["some","sign"] (fu Z.K)
abbrev pj(Z:Z5)(c:RCl RK):Prop:=Cal Z.P Z.w Z.K Z.mg Z.base 4 "only_strikes" ["rule","masks","cell","sign","more"] (jJ Z.K c)
abbrev nY(Z:Z5)(c:RCl RK):Prop:=Cal Z.P Z.w Z.K Z.mg Z.base 4 "place_strikes" ["floor","rule","masks","cell","sign","more"] (iW Z.K c)
abbrev pk(Z:Z5)(c:RCl RK):Prop:=Cal Z.P Z.w Z.K Z.mg Z.base 4 "step_strikes" ["rule","masks","cell","sign","more"] (jO Z.K c)
abbrev m3(Z:Z5):Prop:=Cal Z.P Z.w Z.K Z.mg Z.base 4 "rest_of_square" ["floor","corner","cell"] (h9 Z.K)
abbrev iG(Z:Z5):Prop:=Cal Z.P Z.w Z.K Z.mg Z.base 4 "is_another_with_only" ["floor","masks","cell","other","mark"] (dt Z.K)
abbrev lu(Z:Z5)(c:RCl RK)(d:RCl PzK):Prop:=Cal Z.P Z.w Z.K Z.mg Z.base 4 "strikes_on_floor" ["puzzle","thought"] (gf Z.K c d)
abbrev wB(Z:Z5):Prop:=Cal Z.P Z.w Z.K Z.mg Z.base 4 "cells_of" ["floor","name","words"] (ou Z.K)
abbrev nZ(Z:Z5):Prop:=Cal Z.P Z.w Z.K Z.mg Z.base 4 "checked_floor" ["floor"] (iQ Z.K)
abbrev ui(Z:Z5):Prop:=Cal Z.P Z.w Z.K Z.mg Z.base 4 "_law_rule" ["_law_number","_law_floor_here","_law_filling"] (kI Z.K)
abbrev lO(Z:Z5)(c:RCl RK)(d:RCl PzK):Prop:=Cal Z.P Z.w Z.K Z.mg Z.base 5 "strikes_by_line" ["puzzle","masks","thought"] (gd Z.K c d)
abbrev n5(Z:Z5)(c:RCl RK):Prop:=Cal Z.P Z.w Z.K Z.mg Z.base 5 "count_strikes" ["rule","masks","cell","sign","more"] (iY Z.K c)
abbrev m6(Z:Z5)(c:RCl RK):Prop:=Cal Z.P Z.w Z.K Z.mg Z.base 5 "square_strikes" ["floor","rule","masks","cell","sign","more"] (ib Z.K c)
abbrev n6(Z:Z5)(c:RCl RK):Prop:=Cal Z.P Z.w Z.K Z.mg Z.base 5 "reach_strikes" ["floor","rule","masks","cell","sign","more"] (i8 Z.K c)
abbrev pp(Z:Z5)(c:RCl RK):Prop:=Cal Z.P Z.w Z.K Z.mg Z.base 5 "turn_strikes" ["floor","rule","masks","cell","sign","more"] (jX Z.K c)
abbrev jm(Z:Z5)(c:RCl RK)(d:RCl PzK):Prop:=Cal Z.P Z.w Z.K Z.mg Z.base 5 "strikes_what_stands" ["puzzle","masks","thought"] (eQ Z.K c d)
abbrev uj(Z:Z5)(c:RCl RK):Prop:=Cal Z.P Z.w Z.K Z.mg Z.base 5 "read_rule" ["floor","line"] (mK Z.K c)
abbrev pq(Z:Z5)(c:RCl RK):Prop:=Cal Z.P Z.w Z.K Z.mg Z.base 6 "ways_strikes" ["rule","masks","cell","sign","more"] (jV Z.K c)
abbrev km(Z:Z5)(c:RCl RK)(d:RCl PzK):Prop:=Cal Z.P Z.w Z.K Z.mg Z.base 6 "strikes_by_region" ["puzzle","masks","thought"] (eE Z.K c d)
abbrev sC(Z:Z5)(c:RCl RK):Prop:=Cal Z.P Z.w Z.K Z.mg Z.base 6 "read_rules" ["floor","lines"] (lE Z.K c)
abbrev kn(Z:Z5)(c:RCl RK)(d:RCl PzK):Prop:=Cal Z.P Z.w Z.K Z.mg Z.base 7 "strikes_by_number" ["puzzle","masks","thought"] (eJ Z.K c d)
abbrev yr(Z:Z5)(c:RCl RK)(d:RCl PzK):Prop:=Cal Z.P Z.w Z.K Z.mg Z.base 8 "strikes" ["puzzle","masks","thought"] (oK Z.K c d)
abbrev sD(Z:Z5)(c:RCl RK)(d:RCl PzK):Prop:=Cal Z.P Z.w Z.K Z.mg Z.base 9 "allowed" ["puzzle","masks","thought"] (kY Z.K c d)
abbrev wC(Z:Z5)(c:RCl RK)(d:RCl PzK):Prop:=Cal Z.P Z.w Z.K Z.mg Z.base 10 "fault_in" ["puzzle","masks","thought"] (oP Z.K c d)
abbrev uk(Z:Z5)(c:RCl RK)(d:RCl PzK):Prop:=Cal Z.P Z.w Z.K Z.mg Z.base 10 "_law_book" ["_law_script","_law_puzzle","_law_floor_here","_law_rules","_law_many"] (kO Z.K c d)
abbrev lM(Z:Z5)(c:RCl RK)(d:RCl PzK):Prop:=Cal Z.P Z.w Z.K Z.mg Z.base 11 "follow_from" ["puzzle","masks","book"] (fv Z.K c d)
abbrev AE(Z:Z5)(c:RCl RK)(d:RCl PzK):Prop:=Cal Z.P Z.w Z.K Z.mg Z.base 12 "follow" ["puzzle","book"] (lq Z.K c d)
abbrev B1(Z:Z5)(c:RCl RK)(d:RCl PzK):Prop:=MCal Z.P Z.w Z.K Z.mg Z.base d d.ok 1 "clues" ["self"] (uT Z.K c d)
abbrev m7(Z:Z5)(c:RCl RK):Prop:=MCal Z.P Z.w Z.K Z.mg Z.base c c.ok 3 "has_two_beside" ["self","cells","cell"] (hJ Z.K c)
abbrev B2(Z:Z5)(c:RCl RK):Prop:=MCal Z.P Z.w Z.K Z.mg Z.base c c.ok 5 "holds" ["self","filling"] (d7 Z.K c)
abbrev lc(Z:Z5)(c:RCl RK):Prop:=MCal Z.P Z.w Z.K Z.mg Z.base c c.ok 4 "is_joined" ["self","cells"] (jv Z.K c)
abbrev jd(Z:Z5)(c:RCl RK):Prop:=MCal Z.P Z.w Z.K Z.mg Z.base c c.ok 1 "marked" ["self","filling"] (ji Z.K c)
abbrev EL(Z:Z5)(c:RCl RK):Prop:=MCal Z.P Z.w Z.K Z.mg Z.base c c.ok 1 "name" ["self"] (xk Z.K c)
abbrev va(Z:Z5)(c:RCl RK):Prop:=MCal Z.P Z.w Z.K Z.mg Z.base c c.ok 1 "number" ["self"] (jh Z.K c)
abbrev mf(Z:Z5)(c:RCl RK)(d:RCl PzK):Prop:=MCal Z.P Z.w Z.K Z.mg Z.base d d.ok 1 "place" ["self"] (iV Z.K c d)
abbrev pr(Z:Z5)(c:RCl RK)(d:RCl PzK):Prop:=MCal Z.P Z.w Z.K Z.mg Z.base d d.ok 1 "rules" ["self"] (kC Z.K c d)
abbrev sE(Z:Z5)(c:RCl RK):Prop:=MCal Z.P Z.w Z.K Z.mg Z.base c c.ok 1 "sign" ["self"] (kA Z.K c)
abbrev kf(Z:Z5)(c:RCl RK):Prop:=MCal Z.P Z.w Z.K Z.mg Z.base c c.ok 1 "signs_at" ["self","filling"] (fZ Z.K c)
abbrev mh(Z:Z5)(c:RCl RK):Prop:=MCal Z.P Z.w Z.K Z.mg Z.base c c.ok 1 "spots" ["self"] (iL Z.K c)
abbrev lP(Z:Z5)(x:Str)(C:Addr)(c:RCl RK)(d:RCl PzK):Prop:=KCal Z.P Z.w Z.K Z.mg Z.base 7 x C ["self","floor","lines","clues"] (cP Z.K c d)
abbrev aK(Z:Z5)(x:Str)(C:Addr)(c:RCl RK):Prop:=KCal Z.P Z.w Z.K Z.mg Z.base 1 x C ["self","floor","words","cells","amount","mark"] (aQ Z.K c)
section
variable{Z:Z5}(Bz:Bt3 Z)
include Bz
set_option maxHeartbeats 4000000
abbrev wD:Stmt:=top 11
theorem Br(D:De Z.K "is_whole" wD):hE Z:=okc Bz D Bg bd1 fun hr hu nd=>(af (ag (bc (ap cy rfl Bz.isinstance_ bj (aa (pv 0) (aa (fi (v:=.ty "int") rfl Bz.int_ vz rfl) ab))) (bq (Dh (ap cy rfl Bz.isinstance_ bj (aa (pv 0) (aa (fi (v:=.ty "bool") rfl Bz.bool_ BM rfl) ab))))))))
abbrev sF:Stmt:=top 14
theorem yR(D:De Z.K "many_cells" sF):dr Z:=okc Bz D yH bd1 fun hr hu nd=>(af (ag (ak cS (kix hu (pv 0) ae) (kix hu (pv 0) ae))))
abbrev yt:Stmt:=top 15
theorem CZ(D:De Z.K "spot_of" yt):sh Z:=okc Bz D Ck bd2 fun hr hu nd=>(ad (kset 2 nd (kix hu (pv 0) ae))
   (af (ag (c5 (aa (ak bC (pv 1) (pv 2)) (aa (ak aL (pv 1) (pv 2)) ab))))))
abbrev um:Stmt:=top 18
theorem AF(D:De Z.K "square_at" um):ub Z:=okc Bz D zO bd2 fun hr hu nd=>(ad (kset 2 nd (ak aw (pv 1) (kix hu (pv 0) ae)))
   (af (ag (aA (aa (pv 1) (aa (ak aw (pv 1) ae) (aa (pv 2) (aa (ak aw (pv 2) ae) ab))))))))
abbrev AG:Stmt:=top 22
theorem EM(D:De Z.K "bit_of" AG):u9 Z:=okc Bz D Ed bd1 fun hr hu nd=>(ad (kset 1 nd ae)
   (ad (cZ Md rfl (cw rfl Bz.range_ (aa (ak aZ (pv 0) ae) ab)) (aq (i:=2) nd rfl (Or.inl rfl))
   (af (kset 1 nd (ak cS (pv 1) ae))))
   (af (ag (pv 1)))))
abbrev AH:Stmt:=top 25
theorem EN(D:De Z.K "stands" AH):kQ Z:=okc Bz D Ec bd2 fun hr hu nd=>(af (ag (bc (az gx ae (pv 1) (ah _)) (bc (az gx (pv 1) (zr Ou NV NW vD (pv 0)) (ah _)) (bq (az (av hu) (ak aL (ak xi (pv 0) (ak aZ (pv 1) ae)) ae) ae (ah _)))))))
abbrev yu:Stmt:=top 30
theorem C0(D:De Z.K "clashes" yu):nP Z:=okc Bz D Cw bd1 fun hr hu nd=>(af (ag (az (iD hu) ae (pv 0) (by with_unfolding_all rfl))))
abbrev wE:Stmt:=top 41
theorem Bs(D:De Z.K "masks_at" wE):fP Z:=okc Bz D Bl bd2 fun hr hu nd=>(af (ag (aF (ix:=[none,none,some 0]) [".0","cell","masks"] (aC rfl (by decide+kernel) rfl rfl rfl) rfl (aE (pv 1)) (fun cl s H fp=>(aq (i:=1) (show([".0","cell","masks"]:List Str).Nodup by decide+kernel) rfl (Or.inl rfl))) (fun cl s H fp=>aO) (fun cl s H fp=>(kix hu (pv 2) (pv 1))))))
abbrev pw:Stmt:=top 46
theorem wF(D:De Z.K "clue_strikes" pw):pb Z:=okc Bz D vX bd4 fun hr hu nd=>(af (ag (bc (az (av hu) (pv 3) (aA ab) (ah _)) (bc (az (aX hu) (kix hu (pv 0) (pv 1)) ae (ah _)) (bq (az (aX hu) (kix hu (pv 0) (pv 1)) (pv 2) (ah _)))))))
abbrev ko:Stmt:=top 54
theorem qw(D:De Z.K "are_told_in_order" ko):kj Z:=okc Bz D ql bd2 fun hr hu nd=>(ad (ar (M0 (bG (ai (aX hu) (ap ax rfl Bz.len_ aG (aa (pv 1) ab)) ae (ah _)) (bG (ai (cx hu) (kix hu (pv 1) ae) (pv 0) (by with_unfolding_all rfl)) (bJ (ai (cx hu) (kix hu (pv 1) ae) (pv 0) (by with_unfolding_all rfl)))))) (af (ag bg)) am)
   (af (ag (az cc (bQ LN MO MP (li hu) (pv 0) (aa (kix hu (pv 1) ae) ab)) (bQ LN MO MP (li hu) (pv 0) (aa (kix hu (pv 1) ae) ab)) (ah _)))))
abbrev uo:Stmt:=top 62
theorem AI(D:De Z.K "with_sign" uo):oS Z:=okc Bz D z8 bd3 fun hr hu nd=>(af (ag (aF (ix:=[none,none,none,some 1,some 2]) [".0","place","other","cell","sign"] (aC rfl (by decide+kernel) rfl rfl rfl) rfl (tw rfl Bz.enumerate_ (aa (pv 0) ab)) (fun cl s H fp=>(lf rfl (bo (aq (i:=1) (show([".0","place","other","cell","sign"]:List Str).Nodup by decide+kernel) rfl (Or.inl rfl)) (bo (aq (i:=2) (show([".0","place","other","cell","sign"]:List Str).Nodup by decide+kernel) rfl (Or.inl rfl)) je)))) (fun cl s H fp=>aO) (fun cl s H fp=>(ku (ai (av hu) (pv 1) (pv 3) (ah _)) (pv 4) (pv 2))))))
abbrev uq:Stmt:=top 79
theorem AJ(D:De Z.K "has_parts" uq):oT Z:=okc Bz D An bd1 fun hr hu nd=>(af (ag (bc (ap cy rfl Bz.isinstance_ bj (aa (pv 0) (aa (fi (v:=.ty "tuple") rfl Bz.tuple_ mt rfl) ab))) (bq (az (av hu) (ap ax rfl Bz.len_ aG (aa (pv 0) ab)) ae (ah _))))))
abbrev ur:Stmt:=top 90
theorem AK(D:De Z.K "is_within" ur):uc Z:=okc Bz D z5 bd2 fun hr hu nd=>(af (ag (ap (dS rfl) rfl Bz.all_ js (aa (aF (ix:=[none,none,some 1]) [".0","cell","cells"] (aC rfl (by decide+kernel) rfl rfl rfl) rfl (aE (pv 0)) (fun cl s H fp=>(aq (i:=1) (show([".0","cell","cells"]:List Str).Nodup by decide+kernel) rfl (Or.inl rfl))) (fun cl s H fp=>aO) (fun cl s H fp=>(az (iD hu) (pv 1) (pv 2) (by with_unfolding_all rfl)))) ab))))
abbrev n9:Stmt:=mtop 91 0
theorem vb{c:RCl RK}(Ie:FldK Z.K c "amount")(Ij:FldK Z.K c "cells")(Im:FldK Z.K c "floor")(Iz:FldK Z.K c "mark")(IT:FldK Z.K c "words"){f:Addr}(D:Me Z.K "__init__" "Rule.__init__" n9 f):Mo Z 1 f ["self","floor","words","cells","amount","mark"] (aQ Z.K c):=okm D uO bd6 fun hr hu nd=>(ad (jg (pv 0) (pv 1) Im)
   (ad (jg (pv 0) (aV t9 rfl Bz.tuple_ mt (aa (pv 2) ab)) IT)
   (ad (jg (pv 0) (aV t9 rfl Bz.tuple_ mt (aa (pv 3) ab)) Ij)
   (ad (jg (pv 0) (pv 4) Ie)
   (af (jg (pv 0) (pv 5) Iz))))))
abbrev ut:Stmt:=mtop 91 1
theorem AL{c:RCl RK}(IT:FldK Z.K c "words"){f:Addr}(D:Me Z.K "name" "Rule.name" ut f):Mo Z 1 f ["self"] (rC Z.K c):=okm D zP bd1 fun hr hu nd=>(af (ag (kix hu (bE (pv 0) IT) ae)))
abbrev sG:Stmt:=mtop 91 2
theorem yS{c:RCl RK}(Ij:FldK Z.K c "cells"){f:Addr}(D:Me Z.K "spots" "Rule.spots" sG f):Mo Z 1 f ["self"] (qA Z.K c):=okm D yI bd1 fun hr hu nd=>(af (ag (aV c9 rfl Bz.list_ dj (aa (bE (pv 0) Ij) ab))))
abbrev qG:Stmt:=mtop 91 3
theorem xO{c:RCl RK}(Ie:FldK Z.K c "amount"){f:Addr}(D:Me Z.K "number" "Rule.number" qG f):Mo Z 1 f ["self"] (o5 Z.K c):=okm D xm bd1 fun hr hu nd=>(af (ag (bE (pv 0) Ie)))
abbrev uu:Stmt:=mtop 91 4
theorem AM{c:RCl RK}(Iz:FldK Z.K c "mark"){f:Addr}(D:Me Z.K "sign" "Rule.sign" uu f):Mo Z 1 f ["self"] (rD Z.K c):=okm D zQ bd1 fun hr hu nd=>(af (ag (bE (pv 0) Iz)))
abbrev oa:Stmt:=mtop 91 8
theorem vc{c:RCl RK}(Ij:FldK Z.K c "cells"){f:Addr}(D:Me Z.K "signs_at" "Rule.signs_at" oa f):Mo Z 1 f ["self","filling"] (mH Z.K c):=okm D uP bd2 fun hr hu nd=>(af (ag (aF (ix:=[none,none,some 1]) [".0","cell","filling"] (aC rfl (by decide+kernel) rfl rfl rfl) rfl (Dk (bE (pv 0) Ij)) (fun cl s H fp=>(aq (i:=1) (show([".0","cell","filling"]:List Str).Nodup by decide+kernel) rfl (Or.inl rfl))) (fun cl s H fp=>aO) (fun cl s H fp=>(kix hu (pv 2) (pv 1))))))
abbrev qH:Stmt:=mtop 91 9
theorem kS{c:RCl RK}(Ij:FldK Z.K c "cells")(Iz:FldK Z.K c "mark"){f:Addr}(D:Me Z.K "marked" "Rule.marked" qH f):Mo Z 1 f ["self","filling"] (o6 Z.K c):=okm D xx bd2 fun hr hu nd=>(af (ag (aF (ix:=[none,none,some 1,some 0]) [".0","cell","filling","self"] (aC rfl (by decide+kernel) rfl rfl rfl) rfl (Dk (bE (pv 0) Ij)) (fun cl s H fp=>(aq (i:=1) (show([".0","cell","filling","self"]:List Str).Nodup by decide+kernel) rfl (Or.inl rfl))) (fun cl s H fp=>(bn (ai (av hu) (kix hu (pv 2) (pv 1)) (bE (pv 3) Iz) (ah _)))) (fun cl s H fp=>(pv 1)))))
abbrev uv:Stmt:=top 107
theorem AN{t_FIGURES:Tok}(Ke:Z.mg "FIGURES"=some (.str (tx [48,49,50,51,52,53,54,55,56,57]) t_FIGURES)){t_MOST_FIGURES:Tok}(Jo:Z.mg "MOST_FIGURES"=some (.int 9 t_MOST_FIGURES))(D:De Z.K "number_in" uv):ud Z:=okc Bz D zR bd1 fun hr hu nd=>(ad (ar (M0 (bG (ai (av hu) (pv 0) au (ah _)) (bG (ai dw (ap ax rfl Bz.len_ aG (aa (pv 0) ab)) (dg rfl Jo ⟨t_MOST_FIGURES,rfl⟩) (ah _)) (bJ (M0 (gt (ai (av hu) (kix hu (pv 0) ae) au (ah _)) (fV (ai (aX hu) (pv 0) au (ah _))))))))) (af (ag ld)) am)
   (ad (ar (bb (aI (ap (dS rfl) rfl Bz.all_ js (aa (aF (ix:=[none,none]) [".0","figure"] (aC rfl (by decide+kernel) rfl rfl rfl) rfl (G3 (pv 0)) (fun cl s H fp=>(aq (i:=1) (show([".0","figure"]:List Str).Nodup by decide+kernel) rfl (Or.inl rfl))) (fun cl s H fp=>aO) (fun cl s H fp=>(az (iD hu) (pv 1) (dg rfl Ke ⟨t_FIGURES,rfl⟩) (by with_unfolding_all rfl)))) ab)))) (af (ag ld)) am)
   (af (ag (aV vJ rfl Bz.int_ vz (aa (pv 0) ab))))))
abbrev px:Stmt:=mtop 120 1
theorem wG{c:RCl RK}{d:RCl PzK}(ID:FldK Z.K d "floor"){f:Addr}(D:Me Z.K "place" "Puzzle.place" px f):Mo Z 1 f ["self"] (nA Z.K c d):=okm D vS bd1 fun hr hu nd=>(af (ag (bE (pv 0) ID)))
abbrev pA:Stmt:=mtop 120 3
theorem wH{c:RCl RK}{d:RCl PzK}(IU:FldK Z.K d "given"){f:Addr}(D:Me Z.K "clues" "Puzzle.clues" pA f):Mo Z 1 f ["self"] (nB Z.K c d):=okm D vT bd1 fun hr hu nd=>(af (ag (aV c9 rfl Bz.list_ dj (aa (bE (pv 0) IU) ab))))
abbrev pC:Stmt:=mtop 120 4
theorem wI{c:RCl RK}{d:RCl PzK}(I0:FldK Z.K d "laws"){f:Addr}(D:Me Z.K "rules" "Puzzle.rules" pC f):Mo Z 1 f ["self"] (nE Z.K c d):=okm D vU bd1 fun hr hu nd=>(af (ag (aV c9 rfl Bz.list_ dj (aa (bE (pv 0) I0) ab))))
abbrev pD:Stmt:=top 122
theorem wJ(D:De Z.K "_law_cell_at" pD):kR Z:=okc Bz D tR bd2 fun hr hu nd=>(ad (ar (ai (av hu) (ap gu rfl Bz.len_ aG (aa (pv 0) ab)) ae (ah _)) (af (ag (ak aL (ak aw (ak cS (ak cS (pv 1) (pv 1)) ae) (ak cS ae (pv 1))) ae))) am)
   (ad (kset 2 nd (ak aL (vp BG (pv 0) (ak aL (pv 1) (ap gu rfl Bz.len_ aG (aa (pv 0) ab))) (fun _ _=>rfl)) ae))
   (ad (ar (ai cc (pv 1) (ap gu rfl Bz.len_ aG (aa (pv 0) ab)) (ah _)) (af (ag (pv 2))) am)
   (af (ag (ak aL (ak aw (ak cS (pv 2) ae) (ak cS (ak cS (pv 1) (pv 1)) ae)) ae))))))
abbrev sH:Stmt:=top 123
theorem yT(D:De Z.K "_law_floor" sH):si Z:=okc Bz D wq bd1 fun hr hu nd=>(ad (kset 1 nd (ak aw ae (ak aL (pv 0) ae)))
   (ad (kset 2 nd (ak aw ae (ak aL (ak bC (pv 0) ae) (ap (no rfl) rfl Bz.min_ vy (aa ae (aa (ak bC ae (pv 1)) ab))))))
   (af (ag (c5 (aa (pv 1) (aa (pv 2) (aa (ak aw ae (ak aL (ak bC (pv 0) ae) ae)) ab))))))))
abbrev uw:Stmt:=top 124
theorem AO(BX_divmod:Z.mg "divmod"=none)(D:De Z.K "_law_near" uw):kZ Z:=okc Bz D Ah bd2 fun hr hu nd=>(ad (qV (ap zX rfl BX_divmod Eg (aa (pv 1) (aa (kix hu (pv 0) ae) ab))) (lf rfl (bo (aq (i:=2) nd rfl (Or.inl rfl)) (bo (aq (i:=3) nd rfl (Or.inl rfl)) je))))
   (ad (kset 4 nd (aA ab))
   (ad (cZ Md rfl (aE (aA (aa (c5 (aa (ak aZ (pv 2) ae) (aa (pv 3) ab))) (aa (c5 (aa (pv 2) (aa (ak aZ (pv 3) ae) ab))) (aa (c5 (aa (pv 2) (aa (ak aw (pv 3) ae) ab))) (aa (c5 (aa (ak aw (pv 2) ae) (aa (pv 3) ab))) ab)))))) (lf rfl (bo (aq (i:=5) nd rfl (Or.inl rfl)) (bo (aq (i:=6) nd rfl (Or.inl rfl)) je)))
   (af (ar (M0 (gt (zj gx cc ae (pv 5) (kix hu (pv 0) ae)) (fV (zj gx cc ae (pv 6) (kix hu (pv 0) ae))))) (af (cQ (bQ LN L7 L8 bH (pv 4) (aa (ak aw (ak cS (pv 5) (kix hu (pv 0) ae)) (pv 6)) ab)))) am)))
   (af (ag (pv 4))))))
abbrev sI:Stmt:=top 127
theorem yU(D:De Z.K "_law_drawn" sI):sj Z:=okc Bz D wr bd3 fun hr hu nd=>(ad (kset 3 nd (ot rfl rfl rfl Bz.list_ Bz.range_ (aa (pv 1) ab)))
   (ad (kset 4 nd (aA ab))
   (ad (cZ Md rfl (cw rfl Bz.range_ (aa (pv 2) ab)) (aq (i:=5) nd rfl (Or.inl rfl))
   (ad (cQ (bQ LN L7 L8 bH (pv 4) (aa (bQ LN PySem.F.slot_list_pop PySem.F.type_list_pop DX (pv 3) (aa (ak aL (pv 0) (ap ax rfl Bz.len_ aG (aa (pv 3) ab))) ab)) ab)))
   (af (kset 0 nd (ak aL (ak cS (pv 0) ae) ae)))))
   (af (ag (pv 4))))))
abbrev sJ:Stmt:=top 128
theorem yV(D:De Z.K "_law_above" sJ):sk Z:=okc Bz D wt bd2 fun hr hu nd=>(ad (kset 2 nd (aA ab))
   (ad (cZ Md rfl (aE (pv 1)) (aq (i:=3) nd rfl (Or.inl rfl))
   (af (ar (M0 (bG (ai (av hu) (pv 2) (aA ab) (ah _)) (bJ (ai dw (kix hu (pv 0) (pv 3)) (kix hu (pv 0) (kix hu (pv 2) (sX oW ae))) (ah _))))) (af (cQ (bQ LN L7 L8 bH (pv 2) (aa (pv 3) ab)))) am)))
   (af (ag (pv 2)))))
abbrev sK:Stmt:=top 130
theorem yW(D:De Z.K "_law_signs" sK):so Z:=okc Bz D wu bd1 fun hr hu nd=>(af (ag (aF (ix:=[none,none,some 0]) [".0","_law_sign","_law_mask"] (aC rfl (by decide+kernel) rfl rfl rfl) rfl (xU rfl Bz.range_ (aa ae (aa ae ab))) (fun cl s H fp=>(aq (i:=1) (show([".0","_law_sign","_law_mask"]:List Str).Nodup by decide+kernel) rfl (Or.inl rfl))) (fun cl s H fp=>(bn (ai (av hu) (ak BN (ak xi (pv 2) (ak aZ (pv 1) ae)) ae) ae (ah _)))) (fun cl s H fp=>(pv 1)))))
abbrev sM:Stmt:=top 132
theorem yX(D:De Z.K "_law_kinds" sM):sr Z:=okc Bz D ww bd1 fun hr hu nd=>by
 refine ad ?_ ?_
 . exact(ar (ai (av hu) (pv 0) au (ah _)) (af (ag (aA (aa au (aa au (aa au (aa au (aa au ab)))))))) am)
 . refine ad ?_ ?_
   . exact(ar (ai (av hu) (pv 0) au (ah _)) (af (ag (aA (aa au (aa au (aa au ab)))))) am)
   . refine ad ?_ ?_
     . exact(kset 1 nd (aA (aa au (aa au (aa au (aa au (aa au (aa au ab))))))))
     . refine af ?_
       . refine ag ?_
         . refine vp ?x ?l ?j ?p
           case x=>exact(E7 hu)
           case p=>exact(fun _ _=>rfl)
           case j=>exact(bQ LN MO MP (li hu) (pv 1) (aa (pv 0) ab))
           case l=>
            refine aA ?_
            . refine aa ?_ ?_
              . exact(aA (aa au (aa au ab)))
              . refine aa ?_ ?_
                . exact(aA (aa au (aa au ab)))
                . exact(aa (aA (aa au ab)) (aa (aA (aa au (aa au ab))) (aa (aA (aa au ab)) (aa (aA (aa au ab)) ab))))
abbrev lw:Stmt:=top 135
theorem qT(D:De Z.K "_law_masks_alike" lw):lr Z:=okc Bz D o9 bd2 fun hr hu nd=>(ad (ar (M0 (bG (bb (aI (ap cy rfl Bz.isinstance_ bj (aa (pv 0) (aa (fi (v:=.ty "list") rfl Bz.list_ dj rfl) ab))))) (bJ (ai (aX hu) (pv 0) (pv 1) (ah _))))) (af (ag bg)) am)
   (af (ag (az (av hu) (aF (ix:=[none,none]) [".0","_law_mask"] (aC rfl (by decide+kernel) rfl rfl rfl) rfl (aE (pv 0)) (fun cl s H fp=>(aq (i:=1) (show([".0","_law_mask"]:List Str).Nodup by decide+kernel) rfl (Or.inl rfl))) (fun cl s H fp=>(bn (M0 (bG (bb (aI (ap cy rfl Bz.isinstance_ bj (aa (pv 1) (aa (fi (v:=.ty "int") rfl Bz.int_ vz rfl) ab))))) (bJ (aI (ap cy rfl Bz.isinstance_ bj (aa (pv 1) (aa (fi (v:=.ty "bool") rfl Bz.bool_ BM rfl) ab))))))))) (fun cl s H fp=>(pv 1))) (aA ab) (ah _)))))
abbrev m8:Stmt:=top 12
theorem tS(Ii:hE Z)(D:De Z.K "is_from_one_to" m8):jc Z:=okc Bz D tJ bd2 fun hr hu nd=>(af (ag (bc (kcal Ii hr (aa (pv 0) ab)) (bc (az gx ae (pv 0) (ah _)) (bq (az gx (pv 0) (pv 1) (ah _)))))))
abbrev AQ:Stmt:=top 16
theorem EO(Ja:sh Z)(D:De Z.K "beside" AQ):mY Z:=okc Bz D DT bd2 fun hr hu nd=>(ad (kset 2 nd (kix hu (pv 0) ae))
   (ad (kset 3 nd (kix hu (pv 0) ae))
   (ad (kset 4 nd (kcal Ja hr (aa (pv 0) (aa (pv 1) ab))))
   (ad (kset 5 nd (aA ab))
   (ad (ar (ai dw (kix hu (pv 4) ae) ae (ah _)) (af (cQ (bQ LN L7 L8 bH (pv 5) (aa (ak aZ (pv 1) (pv 3)) ab)))) am)
   (ad (ar (ai dw (kix hu (pv 4) ae) ae (ah _)) (af (cQ (bQ LN L7 L8 bH (pv 5) (aa (ak aZ (pv 1) ae) ab)))) am)
   (ad (ar (ai cc (kix hu (pv 4) ae) (ak aZ (pv 3) ae) (ah _)) (af (cQ (bQ LN L7 L8 bH (pv 5) (aa (ak aw (pv 1) ae) ab)))) am)
   (ad (ar (ai cc (kix hu (pv 4) ae) (ak aZ (pv 2) ae) (ah _)) (af (cQ (bQ LN L7 L8 bH (pv 5) (aa (ak aw (pv 1) (pv 3)) ab)))) am)
   (af (ag (pv 5)))))))))))
abbrev ux:Stmt:=top 17
theorem AR(Ja:sh Z)(D:De Z.K "is_corner" ux):ue Z:=okc Bz D zN bd2 fun hr hu nd=>(ad (kset 2 nd (kcal Ja hr (aa (pv 0) (aa (pv 1) ab))))
   (af (ag (bc (az cc (kix hu (pv 2) ae) (ak aZ (kix hu (pv 0) ae) ae) (ah _)) (bq (az cc (kix hu (pv 2) ae) (ak aZ (kix hu (pv 0) ae) ae) (ah _)))))))
abbrev uy:Stmt:=top 23
theorem AS(Jp:u9 Z)(D:De Z.K "full_mask" uy):uf Z:=okc Bz D Am bd1 fun hr hu nd=>(af (ag (ak aZ (kcal Jp hr (aa (ak aw (kix hu (pv 0) ae) ae) ab)) ae)))
abbrev yw:Stmt:=top 26
theorem C2(Jp:u9 Z)(Iq:kQ Z)(D:De Z.K "without" yw):su Z:=okc Bz D Cr bd2 fun hr hu nd=>(af (ag (ku (aI (kcal Iq hr (aa (pv 0) (aa (pv 1) ab)))) (ak aZ (pv 0) (kcal Jp hr (aa (pv 1) ab))) (pv 0))))
abbrev wK:Stmt:=top 28
theorem Bu(Iq:kQ Z)(D:De Z.K "signs_in" wK):fQ Z:=okc Bz D Bj bd1 fun hr hu nd=>(af (ag (aF (ix:=[none,none,some 0]) [".0","sign","mask"] (aC rfl (by decide+kernel) rfl rfl rfl) rfl (xU rfl Bz.range_ (aa ae (aa (ak aw (zr Ou NV NW vD (pv 0)) ae) ab))) (fun cl s H fp=>(aq (i:=1) (show([".0","sign","mask"]:List Str).Nodup by decide+kernel) rfl (Or.inl rfl))) (fun cl s H fp=>(bn (aI (kcal Iq hr (aa (pv 2) (aa (pv 1) ab)))))) (fun cl s H fp=>(pv 1)))))
abbrev yx:Stmt:=top 35
theorem C4(Ii:hE Z)(Ib:dr Z)(D:De Z.K "is_cell" yx):nQ Z:=okc Bz D Ct bd2 fun hr hu nd=>(af (ag (bc (kcal Ii hr (aa (pv 1) ab)) (bc (az gx ae (pv 1) (ah _)) (bq (az cc (pv 1) (kcal Ib hr (aa (pv 0) ab)) (ah _)))))))
abbrev yy:Stmt:=top 37
theorem C5{c:RCl RK}(KK:EL Z c)(Je:GDict Z.w Z.K Z.mg "RULES_OF_KIND" gd_RULES_OF_KIND)(D:De Z.K "goes_by" yy):yp Z c:=okc Bz D Cv bd2 fun hr hu nd=>(af (ag (y7 (az (av hu) (pv 0) au (ah _)) (bq (az Hg (aM KK hr (by decide) (pv 1)) (Hf Je (pv 0) rfl (fun _ _=>rfl)) (by with_unfolding_all rfl))))))
abbrev AT:Stmt:=top 40
theorem EQ{c:RCl RK}(Iu:mh Z c)(D:De Z.K "others" AT):gX Z c:=okc Bz D Ee bd2 fun hr hu nd=>(af (ag (aF (ix:=[none,none,some 1]) [".0","spot","cell"] (aC rfl (by decide+kernel) rfl rfl rfl) rfl (aE (aM Iu hr (by decide) (pv 0))) (fun cl s H fp=>(aq (i:=1) (show([".0","spot","cell"]:List Str).Nodup by decide+kernel) rfl (Or.inl rfl))) (fun cl s H fp=>(bn (ai (aX hu) (pv 1) (pv 2) (ah _)))) (fun cl s H fp=>(pv 1)))))
abbrev wL:Stmt:=top 43
theorem Bv(Iq:kQ Z)(D:De Z.K "many_may" wL):ma Z:=okc Bz D Bm bd2 fun hr hu nd=>(af (ag (ap ax rfl Bz.len_ aG (aa (aF (ix:=[none,none,some 1]) [".0","mask","sign"] (aC rfl (by decide+kernel) rfl rfl rfl) rfl (aE (pv 0)) (fun cl s H fp=>(aq (i:=1) (show([".0","mask","sign"]:List Str).Nodup by decide+kernel) rfl (Or.inl rfl))) (fun cl s H fp=>(bn (aI (kcal Iq hr (aa (pv 1) (aa (pv 2) ab)))))) (fun cl s H fp=>(pv 1))) ab))))
abbrev wM:Stmt:=top 49
theorem Bw{c:RCl RK}(Iu:mh Z c)(D:De Z.K "ahead_of" wM):wz Z c:=okc Bz D Bn bd2 fun hr hu nd=>(ad (kset 2 nd (aM Iu hr (by decide) (pv 0)))
   (ad (kset 3 nd (bQ LN MO MP (li hu) (pv 2) (aa (pv 1) ab)))
   (af (ag (ku (ai dw (pv 3) ae (ah _)) (fE lV (pv 2) (fj (ak aZ (pv 3) ae)) (fj (pv 3))) (aA ab))))))
abbrev AU:Stmt:=top 50
theorem ER{c:RCl RK}(Iu:mh Z c)(D:De Z.K "behind" AU):AB Z c:=okc Bz D Ei bd2 fun hr hu nd=>(ad (kset 2 nd (aM Iu hr (by decide) (pv 0)))
   (ad (kset 3 nd (bQ LN MO MP (li hu) (pv 2) (aa (pv 1) ab)))
   (af (ag (fE lV (pv 2) (fj (ak aw (pv 3) ae)) (fj (ak aw (pv 3) ae)))))))
abbrev nc:Stmt:=top 63
theorem tT(IM:oS Z)(D:De Z.K "with_each_sign" nc):mZ Z:=okc Bz D tP bd3 fun hr hu nd=>(ad (kset 3 nd (aA ab))
   (ad (cZ Md rfl (aE (pv 0)) (aq (i:=4) nd rfl (Or.inr rfl))
   (af (cQ (bQ LN PySem.F.slot_list_extend PySem.F.type_list_extend Ch (pv 3) (aa (aF (ix:=[none,none,some 1,some 4]) [".0","sign","cell","filling"] (aC rfl (by decide+kernel) rfl rfl rfl) rfl (aE (pv 2)) (fun cl s H fp=>(aq (i:=1) (show([".0","sign","cell","filling"]:List Str).Nodup by decide+kernel) rfl (Or.inl rfl))) (fun cl s H fp=>aO) (fun cl s H fp=>(kcal IM hr (aa (pv 3) (aa (pv 2) (aa (pv 1) ab)))))) ab)))))
   (af (ag (pv 3)))))
abbrev pE:Stmt:=top 80
theorem wN(IN:oT Z){t_SUPPOSE:Tok}(Kf:Z.mg "SUPPOSE"=some (.str (tx [115,117,112,112,111,115,101]) t_SUPPOSE))(D:De Z.K "is_supposing" pE):pc Z:=okc Bz D wp bd1 fun hr hu nd=>(af (ag (bc (kcal IN hr (aa (pv 0) ab)) (bq (az (av hu) (kix hu (pv 0) ae) (dg rfl Kf ⟨t_SUPPOSE,rfl⟩) (ah _))))))
abbrev pF:Stmt:=mtop 92 0
theorem wO{c:RCl RK}(Io:kf Z c){f:Addr}(D:Me Z.K "holds" "Unlike.holds" pF f):Mo Z 2 f ["self","filling"] (nv Z.K c):=okm D vP bd2 fun hr hu nd=>(ad (kset 2 nd (cY Io hr (by decide) (pv 0) (aa (pv 1) ab)))
   (af (ag (az (av hu) (yf rfl rfl rfl Bz.len_ Bz.set_ (pv 2)) (ap ax rfl Bz.len_ aG (aa (pv 2) ab)) (ah _)))))
abbrev uz:Stmt:=mtop 93 1
theorem AV{c:RCl RK}(Ie:FldK Z.K c "amount")(Io:kf Z c){f:Addr}(D:Me Z.K "holds" "Sum.holds" uz f):Mo Z 2 f ["self","filling"] (rO Z.K c):=okm D z4 bd2 fun hr hu nd=>(af (ag (az (av hu) (ap (np rfl) rfl Bz.sum_ vE (aa (cY Io hr (by decide) (pv 0) (aa (pv 1) ab)) ab)) (bE (pv 0) Ie) (ah _))))
abbrev pG:Stmt:=mtop 94 1
theorem wP{c:RCl RK}(Io:kf Z c){f:Addr}(D:Me Z.K "holds" "Rising.holds" pG f):Mo Z 2 f ["self","filling"] (nI Z.K c):=okm D we bd2 fun hr hu nd=>(ad (fR (i:=2) nd rfl (Or.inr rfl) (cY Io hr (by decide) (pv 0) (aa (pv 1) ab)))
   (af (ag (ap (dS rfl) rfl Bz.all_ js (aa (aF (ix:=[none,none,some 2]) [".0","place","signs"] (aC rfl (by decide+kernel) rfl rfl rfl) rfl (cw rfl Bz.range_ (aa (ak aZ (ap ax rfl Bz.len_ aG (aa (pv 2) ab)) ae) ab)) (fun cl s H fp=>(aq (i:=1) (show([".0","place","signs"]:List Str).Nodup by decide+kernel) rfl (Or.inl rfl))) (fun cl s H fp=>aO) (fun cl s H fp=>(az cc (kix hu (pv 2) (pv 1)) (kix hu (pv 2) (ak aw (pv 1) ae)) (ah _)))) ab)))))
abbrev sN:Stmt:=mtop 95 1
theorem yY{c:RCl RK}(Ie:FldK Z.K c "amount")(Io:kf Z c){f:Addr}(D:Me Z.K "holds" "Seen.holds" sN f):Mo Z 2 f ["self","filling"] (qC Z.K c):=okm D yO bd2 fun hr hu nd=>(ad (kset 2 nd ae)
   (ad (kset 3 nd ae)
   (ad (cZ Md rfl (aE (cY Io hr (by decide) (pv 0) (aa (pv 1) ab))) (aq (i:=4) nd rfl (Or.inl rfl))
   (af (ar (ai dw (pv 4) (pv 2) (ah _)) (ad (kset 2 nd (pv 4))
   (af (kset 3 nd (ak aw (pv 3) ae)))) am)))
   (af (ag (az (av hu) (pv 3) (bE (pv 0) Ie) (ah _)))))))
abbrev qI:Stmt:=mtop 96 0
theorem xP{c:RCl RK}(Ie:FldK Z.K c "amount")(IH:jd Z c){f:Addr}(D:Me Z.K "holds" "Count.holds" qI f):Mo Z 2 f ["self","filling"] (o7 Z.K c):=okm D xy bd2 fun hr hu nd=>(af (ag (az (av hu) (ap ax rfl Bz.len_ aG (aa (cY IH hr (by decide) (pv 0) (aa (pv 1) ab)) ab)) (bE (pv 0) Ie) (ah _))))
abbrev oe:Stmt:=top 108
theorem vd(JT:ud Z)(D:De Z.K "number_within" oe):kd Z:=okc Bz D uQ bd3 fun hr hu nd=>(ad (kset 3 nd (kcal JT hr (aa (pv 0) ab)))
   (ad (ar (M0 (bG (ai GL (pv 3) ld (ah _)) (bG (ai cc (pv 3) (pv 1) (ah _)) (bJ (ai dw (pv 3) (pv 2) (ah _)))))) (af bx) am)
   (af (ag (pv 3)))))
abbrev sO:Stmt:=top 118
theorem yZ(Ii:hE Z)(Ib:dr Z)(D:De Z.K "is_filling" sO):sw Z:=okc Bz D yL bd3 fun hr hu nd=>(ad (ar (M0 (bG (bb (aI (ap cy rfl Bz.isinstance_ bj (aa (pv 1) (aa (fi (v:=.ty "list") rfl Bz.list_ dj rfl) ab))))) (bJ (ai (aX hu) (ap ax rfl Bz.len_ aG (aa (pv 1) ab)) (kcal Ib hr (aa (pv 0) ab)) (ah _))))) (af (ag bg)) am)
   (af (ag (ap (dS rfl) rfl Bz.all_ js (aa (aF (ix:=[none,none,some 0,some 2]) [".0","sign","floor","least"] (aC rfl (by decide+kernel) rfl rfl rfl) rfl (aE (pv 1)) (fun cl s H fp=>(aq (i:=1) (show([".0","sign","floor","least"]:List Str).Nodup by decide+kernel) rfl (Or.inl rfl))) (fun cl s H fp=>aO) (fun cl s H fp=>(bc (kcal Ii hr (aa (pv 1) ab)) (bc (az gx (pv 3) (pv 1) (ah _)) (bq (az gx (pv 1) (kix hu (pv 2) ae) (ah _))))))) ab)))))
abbrev qJ:Stmt:=top 125
theorem xQ(Ix:kZ Z)(D:De Z.K "_law_joined" qJ):qE Z:=okc Bz D u8 bd2 fun hr hu nd=>(ad (fR (i:=2) nd rfl (Or.inr rfl) (fE lV (pv 1) kx (fj ae)))
   (ad (kset 3 nd ae)
   (ad (zh Md (ai cc (pv 3) (ap ax rfl Bz.len_ aG (aa (pv 2) ab)) (ah _))
   (ad (fR (i:=2) nd rfl (Or.inr rfl) (ak aw (pv 2) (aF (ix:=[none,none,some 2,some 1]) [".0","_law_cell","_law_seen","_law_some"] (aC rfl (by decide+kernel) rfl rfl rfl) rfl (aE (kcal Ix hr (aa (pv 0) (aa (kix hu (pv 2) (pv 3)) ab)))) (fun cl s H fp=>(aq (i:=1) (show([".0","_law_cell","_law_seen","_law_some"]:List Str).Nodup by decide+kernel) rfl (Or.inl rfl))) (fun cl s H fp=>(bn (M0 (gt (ai (iD hu) (pv 1) (pv 3) (by with_unfolding_all rfl)) (fV (ai (cx hu) (pv 1) (pv 2) (by with_unfolding_all rfl))))))) (fun cl s H fp=>(pv 1)))))
   (af (kset 3 nd (ak aw (pv 3) ae)))))
   (af (ag (az (av hu) (ap ax rfl Bz.len_ aG (aa (pv 2) ab)) (ap ax rfl Bz.len_ aG (aa (pv 1) ab)) (ah _)))))))
abbrev uA:Stmt:=top 131
theorem AW(Ix:kZ Z)(D:De Z.K "_law_more" uA):ug Z:=okc Bz D xJ bd8 fun hr hu nd=>(ad (kset 9 nd (ak aw (aF (ix:=[none,none,some 5]) [".0","_law_one","_law_cell"] (aC rfl (by decide+kernel) rfl rfl rfl) rfl (aE (pv 4)) (fun cl s H fp=>(aq (i:=1) (show([".0","_law_one","_law_cell"]:List Str).Nodup by decide+kernel) rfl (Or.inl rfl))) (fun cl s H fp=>(bn (ai (aX hu) (pv 1) (pv 2) (ah _)))) (fun cl s H fp=>(pv 1))) (aA (aa (pv 5) ab))))
   (ad (kset 8 nd (ak aL (pv 1) (ap ax rfl Bz.len_ aG (aa (pv 9) ab))))
   (ad (kset 10 nd (ap (no rfl) rfl Bz.min_ vy (aa (ak aw (ak aw (pv 8) ae) (ak aL (ak bC (pv 1) ae) (ap ax rfl Bz.len_ aG (aa (pv 9) ab)))) (aa (ak aZ (ap ax rfl Bz.len_ aG (aa (pv 9) ab)) ae) ab))))
   (ad (ar (ai (av hu) (pv 0) au (ah _)) (af (ag (aA (aa (kix hu (pv 9) (pv 8)) ab)))) am)
   (ad (ar (ai (av hu) (pv 0) au (ah _)) (af (ag (aA (aa (ak aw ae (ak aL (pv 1) (kix hu (pv 2) ae))) ab)))) am)
   (ad (ar (ai (av hu) (pv 0) au (ah _)) (af (ag (aA (aa (kix hu (pv 9) (pv 8)) (aa (kix hu (pv 9) (pv 10)) ab))))) am)
   (ad (ar (ai (av hu) (pv 0) au (ah _)) (af (ag (aA (aa (ap (DF rfl) rfl Bz.max_ G0 (aa ae (aa (ak aZ (pv 5) (kix hu (aA (aa ae (aa ae (aa (kix hu (pv 2) ae) (aa (ak aw (kix hu (pv 2) ae) ae) ab))))) (ak aL (pv 1) ae))) ab))) ab)))) am)
   (ad (ar (ai (av hu) (pv 0) au (ah _)) (ad (kset 11 nd (ak aw (aF (ix:=[none,none,some 5,some 7,some 3]) [".0","_law_at","_law_cell","_law_goal","_law_masks"] (aC rfl (by decide+kernel) rfl rfl rfl) rfl (cw rfl Bz.range_ (aa (ap ax rfl Bz.len_ aG (aa (pv 3) ab)) ab)) (fun cl s H fp=>(aq (i:=1) (show([".0","_law_at","_law_cell","_law_goal","_law_masks"]:List Str).Nodup by decide+kernel) rfl (Or.inl rfl))) (fun cl s H fp=>(bn (M0 (gt (ai (aX hu) (pv 1) (pv 2) (ah _)) (fV (ai (av hu) (kix hu (pv 4) (pv 1)) (ak xh ae (ak aZ (pv 3) ae)) (ah _))))))) (fun cl s H fp=>(pv 1))) (aA (aa ae ab))))
   (af (ag (fE lV (aA (aa (kix hu (pv 11) (ak aL (pv 1) (ap ax rfl Bz.len_ aG (aa (pv 11) ab)))) (aa (kix hu (pv 11) (ak aZ (sX oW ae) (ak aL (ak bC (pv 1) ae) (ap ax rfl Bz.len_ aG (aa (pv 11) ab))))) ab))) kx (fj (ak aZ ae (aV vJ rfl Bz.int_ vz (aa (az (av hu) (pv 6) (pv 7) (ah _)) ab)))))))) am)
   (ad (kset 12 nd (ak aw (kcal Ix hr (aa (pv 2) (aa (pv 5) ab))) (aA (aa ae ab))))
   (ad (ar (M0 (gt (ai (av hu) (pv 0) au (ah _)) (fV (ai (av hu) (ak aL (pv 1) ae) ae (ah _))))) (af (ag (aA (aa (kix hu (pv 12) (ak aL (ak bC (pv 1) ae) (ap ax rfl Bz.len_ aG (aa (pv 12) ab)))) ab)))) am)
   (af (ag (aA ab)))))))))))))
abbrev wQ:Stmt:=top 13
theorem Bx(Ik:jc Z){t_MOST_CELLS:Tok}(JG:Z.mg "MOST_CELLS"=some (.int 16 t_MOST_CELLS)){t_MOST_SIDE:Tok}(JB:Z.mg "MOST_SIDE"=some (.int 6 t_MOST_SIDE)){t_MOST_SIGNS:Tok}(JH:Z.mg "MOST_SIGNS"=some (.int 6 t_MOST_SIGNS))(D:De Z.K "floor_of" wQ):wA Z:=okc Bz D Bh bd3 fun hr hu nd=>(ad (ar (bb (aI (kcal Ik hr (aa (pv 0) (aa (dg rfl JB ⟨t_MOST_SIDE,rfl⟩) ab))))) (af bx) am)
   (ad (ar (bb (aI (kcal Ik hr (aa (pv 1) (aa (dg rfl JB ⟨t_MOST_SIDE,rfl⟩) ab))))) (af bx) am)
   (ad (ar (ai dw (ak cS (pv 0) (pv 1)) (dg rfl JG ⟨t_MOST_CELLS,rfl⟩) (ah _)) (af bx) am)
   (ad (ar (bb (aI (kcal Ik hr (aa (pv 2) (aa (dg rfl JH ⟨t_MOST_SIGNS,rfl⟩) ab))))) (af bx) am)
   (af (ag (c5 (aa (pv 0) (aa (pv 1) (aa (pv 2) ab))))))))))
abbrev yz:Stmt:=top 19
theorem C6(JU:ue Z)(Ib:dr Z)(JV:ub Z)(D:De Z.K "squares" yz):sx Z:=okc Bz D Co bd1 fun hr hu nd=>(af (ag (aF (ix:=[none,none,some 0]) [".0","cell","floor"] (aC rfl (by decide+kernel) rfl rfl rfl) rfl (cw rfl Bz.range_ (aa (kcal Ib hr (aa (pv 0) ab)) ab)) (fun cl s H fp=>(aq (i:=1) (show([".0","cell","floor"]:List Str).Nodup by decide+kernel) rfl (Or.inl rfl))) (fun cl s H fp=>(bn (aI (kcal JU hr (aa (pv 2) (aa (pv 1) ab)))))) (fun cl s H fp=>(kcal JV hr (aa (pv 2) (aa (pv 1) ab)))))))
abbrev yA:Stmt:=top 20
theorem C7(Iv:mY Z)(D:De Z.K "reached" yA):sy Z:=okc Bz D Cy bd3 fun hr hu nd=>(ad (ar (ai (cx hu) (pv 2) (pv 1) (by with_unfolding_all rfl)) (af (ag (aA ab))) am)
   (ad (kset 3 nd (aA (aa (pv 2) ab)))
   (ad (kset 4 nd ae)
   (ad (zh Md (ai cc (pv 4) (ap ax rfl Bz.len_ aG (aa (pv 3) ab)) (ah _))
   (ad (cZ Md rfl (aE (kcal Iv hr (aa (pv 0) (aa (kix hu (pv 3) (pv 4)) ab)))) (aq (i:=5) nd rfl (Or.inl rfl))
   (af (ar (M0 (gt (ai (iD hu) (pv 5) (pv 1) (by with_unfolding_all rfl)) (fV (ai (cx hu) (pv 5) (pv 3) (by with_unfolding_all rfl))))) (af (cQ (bQ LN L7 L8 bH (pv 3) (aa (pv 5) ab)))) am)))
   (af (kset 4 nd (ak aw (pv 4) ae)))))
   (af (ag (ap zx rfl Bz.sorted_ DI (aa (pv 3) ab))))))))
abbrev ES:Stmt:=top 24
theorem Gx(JW:uf Z)(Ib:dr Z)(D:De Z.K "full" ES):EJ Z:=okc Bz D Gk bd1 fun hr hu nd=>(af (ag (ak zE (aA (aa (kcal JW hr (aa (pv 0) ab)) ab)) (kcal Ib hr (aa (pv 0) ab)))))
abbrev wR:Stmt:=top 27
theorem By(Jb:su Z)(D:De Z.K "has_only" wR):ke Z:=okc Bz D Bi bd2 fun hr hu nd=>(af (ag (az (av hu) (kcal Jb hr (aa (pv 0) (aa (pv 1) ab))) ae (ah _))))
abbrev AX:Stmt:=top 29
theorem ET(Jb:su Z)(D:De Z.K "struck" AX):AC Z:=okc Bz D Ev bd3 fun hr hu nd=>(af (ag (aF (ix:=[none,none,none,some 1,some 2]) [".0","place","mask","cell","sign"] (aC rfl (by decide+kernel) rfl rfl rfl) rfl (tw rfl Bz.enumerate_ (aa (pv 0) ab)) (fun cl s H fp=>(lf rfl (bo (aq (i:=1) (show([".0","place","mask","cell","sign"]:List Str).Nodup by decide+kernel) rfl (Or.inl rfl)) (bo (aq (i:=2) (show([".0","place","mask","cell","sign"]:List Str).Nodup by decide+kernel) rfl (Or.inl rfl)) je)))) (fun cl s H fp=>aO) (fun cl s H fp=>(ku (ai (av hu) (pv 1) (pv 3) (ah _)) (kcal Jb hr (aa (pv 2) (aa (pv 4) ab))) (pv 2))))))
abbrev EU:Stmt:=top 31
theorem Gy(Ic:fQ Z)(D:De Z.K "ways" EU):EK Z:=okc Bz D Gf bd1 fun hr hu nd=>(ad (kset 1 nd ae)
   (ad (cZ Md rfl (aE (pv 0)) (aq (i:=2) nd rfl (Or.inl rfl))
   (af (kset 1 nd (ak cS (pv 1) (ap ax rfl Bz.len_ aG (aa (kcal Ic hr (aa (pv 2) ab)) ab))))))
   (af (ag (pv 1)))))
abbrev yB:Stmt:=top 36
theorem C9(Ik:jc Z)(D:De Z.K "is_sign" yB):nR Z:=okc Bz D Cu bd2 fun hr hu nd=>(af (ag (kcal Ik hr (aa (pv 1) (aa (kix hu (pv 0) ae) ab)))))
abbrev pH:Stmt:=top 38
theorem wS{c:RCl RK}{d:RCl PzK}(Kg:yp Z c)(Ii:hE Z)(IC:pr Z c d)(Iu:mh Z c)(D:De Z.K "has_its_rule" pH):pe Z c d:=okc Bz D vV bd4 fun hr hu nd=>(ad (ar (M0 (bG (bb (aI (kcal Ii hr (aa (pv 2) ab)))) (bJ (ai cc (pv 2) ae (ah _))))) (af (ag bg)) am)
   (ad (ar (ai (av hu) (pv 1) au (ah _)) (af (ag (az (av hu) (pv 2) ae (ah _)))) am)
   (ad (kset 4 nd (aM IC hr (by decide) (pv 0)))
   (ad (ar (ai vw (pv 2) (ap ax rfl Bz.len_ aG (aa (pv 4) ab)) (ah _)) (af (ag bg)) am)
   (af (ag (bc (kcal Kg hr (aa (pv 1) (aa (kix hu (pv 4) (pv 2)) ab))) (bq (az (iD hu) (pv 3) (aM Iu hr (by decide) (kix hu (pv 4) (pv 2))) (by with_unfolding_all rfl))))))))))
abbrev og:Stmt:=top 51
theorem ve(Ic:fQ Z)(D:De Z.K "is_no_greater" og):nS Z:=okc Bz D uW bd2 fun hr hu nd=>(af (ag (ap (dS rfl) rfl Bz.all_ js (aa (aF (ix:=[none,none,some 0]) [".0","other","sign"] (aC rfl (by decide+kernel) rfl rfl rfl) rfl (aE (kcal Ic hr (aa (pv 1) ab))) (fun cl s H fp=>(aq (i:=1) (show([".0","other","sign"]:List Str).Nodup by decide+kernel) rfl (Or.inl rfl))) (fun cl s H fp=>aO) (fun cl s H fp=>(az gx (pv 2) (pv 1) (ah _)))) ab))))
abbrev sP:Stmt:=top 52
theorem y0(Ic:fQ Z)(D:De Z.K "is_no_less" sP):sA Z:=okc Bz D yM bd2 fun hr hu nd=>(af (ag (ap (dS rfl) rfl Bz.all_ js (aa (aF (ix:=[none,none,some 0]) [".0","other","sign"] (aC rfl (by decide+kernel) rfl rfl rfl) rfl (aE (kcal Ic hr (aa (pv 1) ab))) (fun cl s H fp=>(aq (i:=1) (show([".0","other","sign"]:List Str).Nodup by decide+kernel) rfl (Or.inl rfl))) (fun cl s H fp=>aO) (fun cl s H fp=>(az vw (pv 2) (pv 1) (ah _)))) ab))))
abbrev pI:Stmt:=top 55
theorem wT{c:RCl RK}(IO:kj Z)(Ig:gX Z c)(Ic:fQ Z)(D:De Z.K "pair_strikes" pI):pf Z c:=okc Bz D wb bd5 fun hr hu nd=>(ad (ar (bb (aI (kcal IO hr (aa (kcal Ig hr (aa (pv 0) (aa (pv 2) ab))) (aa (pv 4) ab))))) (af (ag bg)) am)
   (ad (kset 5 nd (kcal Ic hr (aa (ak G4 (kix hu (pv 1) (kix hu (pv 4) ae)) (kix hu (pv 1) (kix hu (pv 4) ae))) ab)))
   (af (ag (az gx (ap ax rfl Bz.len_ aG (aa (aF (ix:=[none,none,some 3]) [".0","other","sign"] (aC rfl (by decide+kernel) rfl rfl rfl) rfl (aE (pv 5)) (fun cl s H fp=>(aq (i:=1) (show([".0","other","sign"]:List Str).Nodup by decide+kernel) rfl (Or.inl rfl))) (fun cl s H fp=>(bn (ai (aX hu) (pv 1) (pv 2) (ah _)))) (fun cl s H fp=>(pv 1))) ab)) ae (ah _))))))
abbrev qK:Stmt:=top 61
theorem xR{c:RCl RK}(IE:nP Z)(Id:fP Z)(Ig:gX Z c)(Ic:fQ Z)(IR:va Z c)(D:De Z.K "sum_strikes" qK):qF Z c:=okc Bz D xv bd5 fun hr hu nd=>(ad (ar (ai (aX hu) (pv 4) (aA ab) (ah _)) (af (ag bg)) am)
   (ad (kset 5 nd (kcal Id hr (aa (pv 1) (aa (kcal Ig hr (aa (pv 0) (aa (pv 2) ab))) ab))))
   (ad (ar (aI (kcal IE hr (aa (pv 5) ab))) (af (ag bg)) am)
   (ad (kset 6 nd (ak aw (pv 3) (ap (np rfl) rfl Bz.sum_ vE (aa (aF (ix:=[none,none]) [".0","mask"] (aC rfl (by decide+kernel) rfl rfl rfl) rfl (aE (pv 5)) (fun cl s H fp=>(aq (i:=1) (show([".0","mask"]:List Str).Nodup by decide+kernel) rfl (Or.inl rfl))) (fun cl s H fp=>aO) (fun cl s H fp=>(kix hu (kcal Ic hr (aa (pv 1) ab)) ae))) ab))))
   (ad (kset 7 nd (ak aw (pv 3) (ap (np rfl) rfl Bz.sum_ vE (aa (aF (ix:=[none,none]) [".0","mask"] (aC rfl (by decide+kernel) rfl rfl rfl) rfl (aE (pv 5)) (fun cl s H fp=>(aq (i:=1) (show([".0","mask"]:List Str).Nodup by decide+kernel) rfl (Or.inl rfl))) (fun cl s H fp=>aO) (fun cl s H fp=>(kix hu (kcal Ic hr (aa (pv 1) ab)) (sX oW ae)))) ab))))
   (af (ag (y7 (az dw (pv 6) (aM IR hr (by decide) (pv 0)) (ah _)) (bq (az cc (pv 7) (aM IR hr (by decide) (pv 0)) (ah _)))))))))))
abbrev AY:Stmt:=top 71
theorem EV(Iv:mY Z)(D:De Z.K "around" AY):AD Z:=okc Bz D Er bd3 fun hr hu nd=>(af (ag (aF (ix:=[none,none,some 2]) [".0","other","cell"] (aC rfl (by decide+kernel) rfl rfl rfl) rfl (aE (kcal Iv hr (aa (pv 0) (aa (pv 1) ab)))) (fun cl s H fp=>(aq (i:=1) (show([".0","other","cell"]:List Str).Nodup by decide+kernel) rfl (Or.inl rfl))) (fun cl s H fp=>(bn (ai (aX hu) (pv 1) (pv 2) (ah _)))) (fun cl s H fp=>(pv 1)))))
abbrev jn:Stmt:=mtop 99 1
theorem oU{c:RCl RK}(Iv:mY Z)(Im:FldK Z.K c "floor"){f:Addr}(D:Me Z.K "has_two_beside" "Ring.has_two_beside" jn f):Mo Z 3 f ["self","cells","cell"] (iF Z.K c):=okm D oH bd3 fun hr hu nd=>(af (ag (az (av hu) (ap ax rfl Bz.len_ aG (aa (aF (ix:=[none,none,some 1]) [".0","other","cells"] (aC rfl (by decide+kernel) rfl rfl rfl) rfl (aE (kcal Iv hr (aa (bE (pv 0) Im) (aa (pv 2) ab)))) (fun cl s H fp=>(aq (i:=1) (show([".0","other","cells"]:List Str).Nodup by decide+kernel) rfl (Or.inl rfl))) (fun cl s H fp=>(bn (ai (iD hu) (pv 1) (pv 2) (by with_unfolding_all rfl)))) (fun cl s H fp=>(pv 1))) ab)) ae (ah _))))
abbrev pJ:Stmt:=top 109
theorem wU(IA:kd Z)(D:De Z.K "first_within" pJ):ph Z:=okc Bz D vK bd3 fun hr hu nd=>(ad (ar (ai (av hu) (pv 0) (aA ab) (ah _)) (af bx) am)
   (af (ag (kcal IA hr (aa (kix hu (pv 0) ae) (aa (pv 1) (aa (pv 2) ab)))))))
abbrev sQ:Stmt:=top 110
theorem y2(Ib:dr Z)(IA:kd Z)(D:De Z.K "told_cells" sQ):sB Z:=okc Bz D yJ bd2 fun hr hu nd=>(ad (oY (k:=2) nd rfl (Or.inl rfl) rfl (ix:=[none,none,some 0]) [".0","word","floor"] (aC rfl (by decide+kernel) rfl rfl rfl) rfl (aE (pv 1)) (fun cl s H fp=>(aq (i:=1) (show([".0","word","floor"]:List Str).Nodup by decide+kernel) rfl (Or.inl rfl))) (fun cl s H fp=>aO) (fun cl s H fp=>(kcal IA hr (aa (pv 1) (aa ae (aa (ak aZ (kcal Ib hr (aa (pv 2) ab)) ae) ab))))))
   (ad (ar (ai (av hu) (pv 2) (aA ab) (ah _)) (af bx) am)
   (ad (ar (ai (aX hu) (yf rfl rfl rfl Bz.len_ Bz.set_ (pv 2)) (ap ax rfl Bz.len_ aG (aa (pv 2) ab)) (ah _)) (af bx) am)
   (af (ag (pv 2))))))
abbrev yC:Stmt:=top 112
theorem Da{c:RCl RK}(Kz:aK Z "Count" (c.A .Count) c)(Km:aK Z "Joined" (c.A .Joined) c)(J8:aK Z "NoSquare" (c.A .NoSquare) c)(KL:aK Z "Ring" (c.A .Ring) c)(Kn:aK Z "Rising" (c.A .Rising) c)(KM:aK Z "Seen" (c.A .Seen) c)(K_Sum:aK Z "Sum" (c.A .Sum) c)(Ko:aK Z "Unlike" (c.A .Unlike) c)(D:De Z.K "rule_by" yC):yq Z c:=okc Bz D Cq bd5 fun hr hu nd=>(ad (kset 5 nd (kix hu (pv 1) ae))
   (ad (ar (ai (av hu) (pv 5) au (ah _)) (af (ag (lY Ko hr (by decide) rfl (aa (pv 0) (aa (pv 1) (aa (pv 2) (aa (pv 3) (aa (pv 4) ab)))))))) am)
   (ad (ar (ai (av hu) (pv 5) au (ah _)) (af (ag (lY K_Sum hr (by decide) rfl (aa (pv 0) (aa (pv 1) (aa (pv 2) (aa (pv 3) (aa (pv 4) ab)))))))) am)
   (ad (ar (ai (av hu) (pv 5) au (ah _)) (af (ag (lY Kn hr (by decide) rfl (aa (pv 0) (aa (pv 1) (aa (pv 2) (aa (pv 3) (aa (pv 4) ab)))))))) am)
   (ad (ar (ai (av hu) (pv 5) au (ah _)) (af (ag (lY KM hr (by decide) rfl (aa (pv 0) (aa (pv 1) (aa (pv 2) (aa (pv 3) (aa (pv 4) ab)))))))) am)
   (ad (ar (ai (av hu) (pv 5) au (ah _)) (af (ag (lY Kz hr (by decide) rfl (aa (pv 0) (aa (pv 1) (aa (pv 2) (aa (pv 3) (aa (pv 4) ab)))))))) am)
   (ad (ar (ai (av hu) (pv 5) au (ah _)) (af (ag (lY Km hr (by decide) rfl (aa (pv 0) (aa (pv 1) (aa (pv 2) (aa (pv 3) (aa (pv 4) ab)))))))) am)
   (ad (ar (ai (av hu) (pv 5) au (ah _)) (af (ag (lY J8 hr (by decide) rfl (aa (pv 0) (aa (pv 1) (aa (pv 2) (aa (pv 3) (aa (pv 4) ab)))))))) am)
   (ad (ar (ai (av hu) (pv 5) au (ah _)) (af (ag (lY KL hr (by decide) rfl (aa (pv 0) (aa (pv 1) (aa (pv 2) (aa (pv 3) (aa (pv 4) ab)))))))) am)
   (af bx))))))))))
abbrev oh:Stmt:=top 119
theorem vf(JI:sw Z)(D:De Z.K "checked_clues" oh):nV Z:=okc Bz D uS bd2 fun hr hu nd=>(ad (ar (bb (aI (kcal JI hr (aa (pv 0) (aa (pv 1) (aa ae ab)))))) (af bx) am)
   (af (ag (aV c9 rfl Bz.list_ dj (aa (pv 1) ab)))))
abbrev oi:Stmt:=top 126
theorem vg(JC:qE Z)(Ix:kZ Z)(D:De Z.K "_law_by_floor" oi):nX Z:=okc Bz D rX bd4 fun hr hu nd=>(ad (fR (i:=5) nd rfl (Or.inr rfl) (aF (ix:=[none,none,some 1,some 3]) [".0","_law_cell","_law_filling","_law_sign"] (aC rfl (by decide+kernel) rfl rfl rfl) rfl (cw rfl Bz.range_ (aa (ap ax rfl Bz.len_ aG (aa (pv 1) ab)) ab)) (fun cl s H fp=>(aq (i:=1) (show([".0","_law_cell","_law_filling","_law_sign"]:List Str).Nodup by decide+kernel) rfl (Or.inl rfl))) (fun cl s H fp=>(bn (ai (av hu) (kix hu (pv 2) (pv 1)) (pv 3) (ah _)))) (fun cl s H fp=>(pv 1))))
   (ad (ar (ai (av hu) (pv 2) au (ah _)) (ad (cZ Md rfl (aE (pv 5)) (aq (i:=4) nd rfl (Or.inl rfl))
   (ad (kset 6 nd (aA (aa (pv 4) (aa (ak aw (pv 4) ae) (aa (ak aw (pv 4) (kix hu (pv 0) ae)) (aa (ak aw (ak aw (pv 4) (kix hu (pv 0) ae)) ae) ab))))))
   (af (ar (M0 (gt (ai dw (ak aL (ak aw (pv 4) ae) (kix hu (pv 0) ae)) ae (ah _)) (fV (ai (av hu) (aF (ix:=[none,none,some 5]) [".0","_law_one","_law_some"] (aC rfl (by decide+kernel) rfl rfl rfl) rfl (aE (pv 6)) (fun cl s H fp=>(aq (i:=1) (show([".0","_law_one","_law_some"]:List Str).Nodup by decide+kernel) rfl (Or.inl rfl))) (fun cl s H fp=>(bn (ai (cx hu) (pv 1) (pv 2) (by with_unfolding_all rfl)))) (fun cl s H fp=>(pv 1))) (aA ab) (ah _))))) (af (ag bg)) am))))
   (af (ag bg))) am)
   (ad (ar (bb (aI (kcal JC hr (aa (pv 0) (aa (pv 5) ab))))) (af (ag bg)) am)
   (ad (ar (ai (av hu) (pv 2) au (ah _)) (af (ag bg)) am)
   (af (ag (az (av hu) (aF (ix:=[none,none,some 0,some 5]) [".0","_law_cell","_law_floor_here","_law_some"] (aC rfl (by decide+kernel) rfl rfl rfl) rfl (aE (pv 5)) (fun cl s H fp=>(aq (i:=1) (show([".0","_law_cell","_law_floor_here","_law_some"]:List Str).Nodup by decide+kernel) rfl (Or.inl rfl))) (fun cl s H fp=>(bn (ai (aX hu) (ap ax rfl Bz.len_ aG (aa (aF (ix:=[none,none,some 3]) [".0","_law_one","_law_some"] (aC rfl (by decide+kernel) rfl rfl rfl) rfl (aE (kcal Ix hr (aa (pv 2) (aa (pv 1) ab)))) (fun cl s H fp=>(aq (i:=1) (show([".0","_law_one","_law_some"]:List Str).Nodup by decide+kernel) rfl (Or.inl rfl))) (fun cl s H fp=>(bn (ai (iD hu) (pv 1) (pv 2) (by with_unfolding_all rfl)))) (fun cl s H fp=>(pv 1))) ab)) ae (ah _)))) (fun cl s H fp=>(pv 1))) (aA ab) (ah _))))))))
abbrev pK:Stmt:=top 133
theorem wV(JJ:sr Z)(JX:ug Z)(JK:so Z)(D:De Z.K "_law_thought" pK):pi Z:=okc Bz D tQ bd4 fun hr hu nd=>(ad (kset 4 nd (ak aL (ak bC (pv 0) ae) (ap ax rfl Bz.len_ aG (aa (pv 2) ab))))
   (ad (qV (kix hu (pv 2) (pv 4)) (lf rfl (bo (aq (i:=5) nd rfl (Or.inl rfl)) (bo (aq (i:=6) nd rfl (Or.inl rfl)) (bo (aq (i:=7) nd rfl (Or.inl rfl)) (bo (aq (i:=8) nd rfl (Or.inl rfl)) je))))))
   (ad (kset 9 nd (kix hu (pv 6) (ak aL (ak bC (pv 0) ae) (ap ax rfl Bz.len_ aG (aa (pv 6) ab)))))
   (ad (kset 10 nd (ak aw (kcal JK hr (aa (kix hu (pv 3) (pv 9)) ab)) (aA (aa ae ab))))
   (ad (kset 11 nd (kix hu (pv 10) (ak aL (ak bC (pv 0) ae) (ap ax rfl Bz.len_ aG (aa (pv 10) ab)))))
   (ad (ar (ai (av hu) (ak aL (pv 0) ae) ae (ah _)) (af (ag (c5 (aa au (aa ae (aa (pv 9) (aa (pv 11) (aa (aA ab) ab)))))))) am)
   (ad (kset 12 nd (kcal JJ hr (aa (pv 5) ab)))
   (ad (kset 13 nd (kix hu (pv 12) (ak aL (ak bC (pv 0) ae) (ap ax rfl Bz.len_ aG (aa (pv 12) ab)))))
   (af (ag (c5 (aa (pv 13) (aa (pv 4) (aa (pv 9) (aa (pv 11) (aa (kcal JX hr (aa (pv 13) (aa (ak bC (pv 0) ae) (aa (pv 1) (aa (pv 3) (aa (pv 6) (aa (pv 9) (aa (pv 11) (aa (pv 7) ab))))))))) ab))))))))))))))))
abbrev uB:Stmt:=top 39
theorem AZ{c:RCl RK}{d:RCl PzK}(Jq:pe Z c d)(IF:nQ Z)(IG:nR Z)(Ii:hE Z)(Iw:mf Z c d)(KA:GTup Z.K Z.mg "KINDS" qe)(D:De Z.K "is_formed" uB):uh Z c d:=okc Bz D zV bd2 fun hr hu nd=>(ad (ar (M0 (bG (bb (aI (ap cy rfl Bz.isinstance_ bj (aa (pv 1) (aa (fi (v:=.ty "tuple") rfl Bz.tuple_ mt rfl) ab))))) (bG (ai (aX hu) (ap ax rfl Bz.len_ aG (aa (pv 1) ab)) ae (ah _)) (bJ (BT KA (kix hu (pv 1) ae) rfl))))) (af (ag bg)) am)
   (ad (kset 2 nd (aM Iw hr (by decide) (pv 0)))
   (ad (ar (M0 (bG (bb (aI (kcal IF hr (aa (pv 2) (aa (kix hu (pv 1) ae) ab))))) (bJ (bb (aI (kcal IG hr (aa (pv 2) (aa (kix hu (pv 1) ae) ab)))))))) (af (ag bg)) am)
   (ad (ar (bb (aI (kcal Jq hr (aa (pv 0) (aa (kix hu (pv 1) ae) (aa (kix hu (pv 1) ae) (aa (kix hu (pv 1) ae) ab))))))) (af (ag bg)) am)
   (af (ag (bc (ap cy rfl Bz.isinstance_ bj (aa (kix hu (pv 1) ae) (aa (fi (v:=.ty "list") rfl Bz.list_ dj rfl) ab))) (bq (ap (dS rfl) rfl Bz.all_ js (aa (aF (ix:=[none,none]) [".0","part"] (aC rfl (by decide+kernel) rfl rfl rfl) rfl (aE (kix hu (pv 1) ae)) (fun cl s H fp=>(aq (i:=1) (show([".0","part"]:List Str).Nodup by decide+kernel) rfl (Or.inl rfl))) (fun cl s H fp=>aO) (fun cl s H fp=>(kcal Ii hr (aa (pv 1) ab)))) ab))))))))))
abbrev uC:Stmt:=top 42
theorem A0(Ip:ke Z)(D:De Z.K "many_only" uC):k9 Z:=okc Bz D zY bd2 fun hr hu nd=>(af (ag (ap ax rfl Bz.len_ aG (aa (aF (ix:=[none,none,some 1]) [".0","mask","sign"] (aC rfl (by decide+kernel) rfl rfl rfl) rfl (aE (pv 0)) (fun cl s H fp=>(aq (i:=1) (show([".0","mask","sign"]:List Str).Nodup by decide+kernel) rfl (Or.inl rfl))) (fun cl s H fp=>(bn (aI (kcal Ip hr (aa (pv 1) (aa (pv 2) ab)))))) (fun cl s H fp=>(pv 1))) ab))))
abbrev pL:Stmt:=top 47
theorem wW{c:RCl RK}(Ip:ke Z)(Ig:gX Z c)(D:De Z.K "only_strikes" pL):pj Z c:=okc Bz D vY bd5 fun hr hu nd=>(af (ag (bc (az (av hu) (ap ax rfl Bz.len_ aG (aa (pv 4) ab)) ae (ah _)) (bc (az (iD hu) (kix hu (pv 4) ae) (kcal Ig hr (aa (pv 0) (aa (pv 2) ab))) (by with_unfolding_all rfl)) (bq (kcal Ip hr (aa (kix hu (pv 1) (kix hu (pv 4) ae)) (aa (pv 3) ab))))))))
abbrev oj:Stmt:=top 48
theorem vh{c:RCl RK}(IG:nR Z)(Iy:ma Z)(Id:fP Z)(Ig:gX Z c)(Iu:mh Z c)(D:De Z.K "place_strikes" oj):nY Z c:=okc Bz D uU bd6 fun hr hu nd=>(ad (ar (M0 (bG (ai (aX hu) (ap ax rfl Bz.len_ aG (aa (aM Iu hr (by decide) (pv 1)) ab)) (kix hu (pv 0) ae) (ah _)) (bJ (ai (aX hu) (ap ax rfl Bz.len_ aG (aa (pv 5) ab)) ae (ah _))))) (af (ag bg)) am)
   (ad (ar (M0 (bG (ai (av hu) (kix hu (pv 5) ae) (pv 4) (ah _)) (bJ (bb (aI (kcal IG hr (aa (pv 0) (aa (kix hu (pv 5) ae) ab)))))))) (af (ag bg)) am)
   (af (ag (az (av hu) (kcal Iy hr (aa (kcal Id hr (aa (pv 2) (aa (kcal Ig hr (aa (pv 1) (aa (pv 3) ab))) ab))) (aa (kix hu (pv 5) ae) ab))) ae (ah _))))))
abbrev pM:Stmt:=top 53
theorem wX{c:RCl RK}(J9:wz Z c)(Kp:AB Z c)(Jf:nS Z)(JL:sA Z)(D:De Z.K "step_strikes" pM):pk Z c:=okc Bz D wc bd5 fun hr hu nd=>(ad (ar (ai (aX hu) (pv 4) (aA ab) (ah _)) (af (ag bg)) am)
   (ad (ar (aI (ap (rm rfl) rfl Bz.any_ zy (aa (aF (ix:=[none,none,some 1,some 3]) [".0","other","masks","sign"] (aC rfl (by decide+kernel) rfl rfl rfl) rfl (aE (kcal J9 hr (aa (pv 0) (aa (pv 2) ab)))) (fun cl s H fp=>(aq (i:=1) (show([".0","other","masks","sign"]:List Str).Nodup by decide+kernel) rfl (Or.inl rfl))) (fun cl s H fp=>aO) (fun cl s H fp=>(kcal Jf hr (aa (pv 3) (aa (kix hu (pv 2) (pv 1)) ab))))) ab))) (af (ag bg)) am)
   (af (ag (ap (rm rfl) rfl Bz.any_ zy (aa (aF (ix:=[none,none,some 1,some 3]) [".0","other","masks","sign"] (aC rfl (by decide+kernel) rfl rfl rfl) rfl (aE (kcal Kp hr (aa (pv 0) (aa (pv 2) ab)))) (fun cl s H fp=>(aq (i:=1) (show([".0","other","masks","sign"]:List Str).Nodup by decide+kernel) rfl (Or.inl rfl))) (fun cl s H fp=>aO) (fun cl s H fp=>(kcal JL hr (aa (pv 3) (aa (kix hu (pv 2) (pv 1)) ab))))) ab))))))
abbrev ng:Stmt:=top 67
theorem tU(Jc:sx Z)(D:De Z.K "rest_of_square" ng):m3 Z:=okc Bz D tK bd3 fun hr hu nd=>(ad (cZ Md rfl (aE (kcal Jc hr (aa (pv 0) ab))) (aq (i:=3) nd rfl (Or.inl rfl))
   (af (ar (M0 (gt (ai (av hu) (kix hu (pv 3) ae) (pv 1) (ah _)) (fV (ai (iD hu) (pv 2) (pv 3) (by with_unfolding_all rfl))))) (af (ag (aF (ix:=[none,none,some 2]) [".0","other","cell"] (aC rfl (by decide+kernel) rfl rfl rfl) rfl (aE (pv 3)) (fun cl s H fp=>(aq (i:=1) (show([".0","other","cell"]:List Str).Nodup by decide+kernel) rfl (Or.inl rfl))) (fun cl s H fp=>(bn (ai (aX hu) (pv 1) (pv 2) (ah _)))) (fun cl s H fp=>(pv 1))))) am)))
   (af (ag (aA ab))))
abbrev iH:Stmt:=top 69
theorem nk(Ip:ke Z)(IF:nQ Z)(D:De Z.K "is_another_with_only" iH):iG Z:=okc Bz D nj bd5 fun hr hu nd=>(af (ag (bc (kcal IF hr (aa (pv 0) (aa (pv 3) ab))) (bc (az (aX hu) (pv 3) (pv 2) (ah _)) (bq (kcal Ip hr (aa (kix hu (pv 1) (pv 3)) (aa (pv 4) ab))))))))
abbrev lx:Stmt:=top 81
theorem qU{c:RCl RK}{d:RCl PzK}(IN:oT Z)(IF:nQ Z)(IG:nR Z)(Iw:mf Z c d)(D:De Z.K "strikes_on_floor" lx):lu Z c d:=okc Bz D qS bd2 fun hr hu nd=>(ad (kset 2 nd (aM Iw hr (by decide) (pv 0)))
   (af (ag (bc (kcal IN hr (aa (pv 1) ab)) (bc (kcal IF hr (aa (pv 2) (aa (kix hu (pv 1) ae) ab))) (bq (kcal IG hr (aa (pv 2) (aa (kix hu (pv 1) ae) ab)))))))))
abbrev ly:Stmt:=mtop 97 1
theorem kq{c:RCl RK}(IL:sy Z)(Im:FldK Z.K c "floor"){f:Addr}(D:Me Z.K "is_joined" "Joined.is_joined" ly f):Mo Z 4 f ["self","cells"] (kh Z.K c):=okm D qO bd2 fun hr hu nd=>(af (ag (y7 (az (av hu) (pv 1) (aA ab) (ah _)) (bq (az (av hu) (kcal IL hr (aa (bE (pv 0) Im) (aa (pv 1) (aa (kix hu (pv 1) ae) ab)))) (pv 1) (ah _))))))
abbrev nh:Stmt:=mtop 98 0
theorem tV{c:RCl RK}(JY:uc Z)(Jc:sx Z)(Im:FldK Z.K c "floor")(IH:jd Z c){f:Addr}(D:Me Z.K "holds" "NoSquare.holds" nh f):Mo Z 4 f ["self","filling"] (lN Z.K c):=okm D tO bd2 fun hr hu nd=>(ad (fR (i:=2) nd rfl (Or.inr rfl) (cY IH hr (by decide) (pv 0) (aa (pv 1) ab)))
   (af (ag (Dh (ap (rm rfl) rfl Bz.any_ zy (aa (aF (ix:=[none,none,some 2]) [".0","square","cells"] (aC rfl (by decide+kernel) rfl rfl rfl) rfl (aE (kcal Jc hr (aa (bE (pv 0) Im) ab))) (fun cl s H fp=>(aq (i:=1) (show([".0","square","cells"]:List Str).Nodup by decide+kernel) rfl (Or.inl rfl))) (fun cl s H fp=>aO) (fun cl s H fp=>(kcal JY hr (aa (pv 1) (aa (pv 2) ab))))) ab))))))
abbrev wY:Stmt:=top 111
theorem BA(Ib:dr Z)(JM:sB Z)(Jr:GTup Z.K Z.mg "OF_ALL_CELLS" gl)(D:De Z.K "cells_of" wY):wB Z:=okc Bz D Bc bd3 fun hr hu nd=>(ad (ar (BT Jr (pv 1) rfl) (af (ag (kcal JM hr (aa (pv 0) (aa (pv 2) ab))))) am)
   (ad (ar (ai (aX hu) (pv 2) (aA ab) (ah _)) (af bx) am)
   (af (ag (ot rfl rfl rfl Bz.list_ Bz.range_ (aa (kcal Ib hr (aa (pv 0) ab)) ab))))))
abbrev oo:Stmt:=top 116
theorem vi(Ka:wA Z)(D:De Z.K "checked_floor" oo):nZ Z:=okc Bz D uR bd1 fun hr hu nd=>(ad (ar (M0 (bG (bb (aI (ap cy rfl Bz.isinstance_ bj (aa (pv 0) (aa (fi (v:=.ty "tuple") rfl Bz.tuple_ mt rfl) ab))))) (bJ (ai (aX hu) (ap ax rfl Bz.len_ aG (aa (pv 0) ab)) ae (ah _))))) (af bx) am)
   (af (ag (kcal Ka hr (aa (kix hu (pv 0) ae) (aa (kix hu (pv 0) ae) (aa (kix hu (pv 0) ae) ab)))))))
abbrev uD:Stmt:=top 129
theorem A1(Jg:sk Z)(Jh:nX Z)(Ji:sj Z)(D:De Z.K "_law_rule" uD):ui Z:=okc Bz D xH bd3 fun hr hu nd=>by
 refine ad ?_ ?_
 . exact(kset 3 nd (ap ax rfl Bz.len_ aG (aa (pv 2) ab)))
 . refine ad ?_ ?_
   . refine fR (i:=4) ?n ?a ?b ?e ?c ?d
     case n=>exact nd
     case a=>exact rfl
     case b=>exact Or.inl rfl
     case d=>exact .inl rfl
     case c=>rfl
     case e=>
      refine vp ?x ?l ?j ?p
      case x=>exact(E7 hu)
      case p=>exact(fun _ _=>rfl)
      case j=>exact(ak aL (pv 0) ae)
      case l=>
       refine aA ?_;refine gW au ?_;refine gW au ?_;refine gW au ?_;refine gW au ?_;refine gW au ?_;refine gW au ?_;refine gW au ?_;refine gW au ?_;exact ab
   . refine ad ?_ ?_
     . exact(fR (i:=5) nd rfl (Or.inr rfl) (ak aw ae (ak aL (ak bC (pv 0) ae) (kix hu (pv 1) ae))))
     . refine ad ?_ ?_
       . exact(kset 6 nd (kcal Ji hr (aa (ak aL (ak bC (pv 0) ae) ae) (aa (pv 3) (aa (ak aw ae (ak aL (ak bC (pv 0) ae) (ap (no rfl) rfl Bz.min_ vy (aa (pv 3) (aa ae ab))))) ab)))))
       . refine ad ?_ ?_
         . exact(ar (M0 (gt (ai dw (ak aL (pv 0) ae) ae (ah _)) (fV (aI (kcal Jh hr (aa (pv 1) (aa (pv 2) (aa (pv 4) (aa (pv 5) ab))))))))) (af (ag (c5 (aa (pv 4) (aa (ot rfl rfl rfl Bz.list_ Bz.range_ (aa (pv 3) ab)) (aa (pv 5) (aa (ak aw (ak aw (pv 4) au) (aV fC rfl Bz.str_ jp (aa (pv 5) ab))) ab))))))) am)
         . refine ad ?_ ?_
           . exact(kset 8 nd (bQ Nb NA NB rB au (aa (aF (ix:=[none,none]) [".0","_law_cell"] (aC rfl (by decide+kernel) rfl rfl rfl) rfl (aE (pv 6)) (fun cl s H fp=>(aq (i:=1) (show([".0","_law_cell"]:List Str).Nodup by decide+kernel) rfl (Or.inl rfl))) (fun cl s H fp=>aO) (fun cl s H fp=>(aV fC rfl Bz.str_ jp (aa (pv 1) ab)))) ab)))
           . refine ad ?_ ?_
             . exact(ar (ai (av hu) (pv 4) au (ah _)) (af (ag (c5 (aa (pv 4) (aa (pv 6) (aa ae (aa (ak aw (ak aw (ak aw au (aV fC rfl Bz.str_ jp (aa (ap (np rfl) rfl Bz.sum_ vE (aa (aF (ix:=[none,none,some 2]) [".0","_law_cell","_law_filling"] (aC rfl (by decide+kernel) rfl rfl rfl) rfl (aE (pv 6)) (fun cl s H fp=>(aq (i:=1) (show([".0","_law_cell","_law_filling"]:List Str).Nodup by decide+kernel) rfl (Or.inl rfl))) (fun cl s H fp=>aO) (fun cl s H fp=>(kix hu (pv 2) (pv 1)))) ab)) ab))) au) (pv 8)) ab))))))) am)
             . refine ad ?_ ?_
               . exact(ar (ai (av hu) (pv 4) au (ah _)) (af (ag (c5 (aa (pv 4) (aa (pv 6) (aa ae (aa (ak aw (ak aw (ak aw au (aV fC rfl Bz.str_ jp (aa (ap ax rfl Bz.len_ aG (aa (kcal Jg hr (aa (pv 2) (aa (pv 6) ab))) ab)) ab))) au) (pv 8)) ab))))))) am)
               . refine ad ?_ ?_
                 . exact(ar (ai (av hu) (pv 4) au (ah _)) (ad (kset 9 nd (ap ax rfl Bz.len_ aG (aa (aF (ix:=[none,none,some 2,some 5]) [".0","_law_cell","_law_filling","_law_sign"] (aC rfl (by decide+kernel) rfl rfl rfl) rfl (aE (pv 6)) (fun cl s H fp=>(aq (i:=1) (show([".0","_law_cell","_law_filling","_law_sign"]:List Str).Nodup by decide+kernel) rfl (Or.inl rfl))) (fun cl s H fp=>(bn (ai (av hu) (kix hu (pv 2) (pv 1)) (pv 3) (ah _)))) (fun cl s H fp=>(pv 1))) ab))) (af (ag (c5 (aa (pv 4) (aa (pv 6) (aa (pv 5) (aa (ak aw (ak aw (ak aw (ak aw (ak aw au (aV fC rfl Bz.str_ jp (aa (pv 9) ab))) au) (aV fC rfl Bz.str_ jp (aa (pv 5) ab))) au) (pv 8)) ab)))))))) am)
                 . refine ad ?_ ?_
                   . exact(ar (ai (av hu) (pv 4) au (ah _)) (ad (kset 6 nd (kcal Jg hr (aa (pv 2) (aa (pv 6) ab)))) (af (ag (c5 (aa (pv 4) (aa (pv 6) (aa ae (aa (ak aw au (bQ Nb NA NB rB au (aa (aF (ix:=[none,none]) [".0","_law_cell"] (aC rfl (by decide+kernel) rfl rfl rfl) rfl (aE (pv 6)) (fun cl s H fp=>(aq (i:=1) (show([".0","_law_cell"]:List Str).Nodup by decide+kernel) rfl (Or.inl rfl))) (fun cl s H fp=>aO) (fun cl s H fp=>(aV fC rfl Bz.str_ jp (aa (pv 1) ab)))) ab))) ab)))))))) am)
                   . refine ad ?_ ?_
                     . exact(kset 10 nd (aA ab))
                     . refine ad ?_ ?_
                       . exact(cZ Md rfl (aE (kcal Ji hr (aa (ak aL (ak bC (pv 0) ae) ae) (aa (pv 3) (aa (pv 3) ab))))) (aq (i:=7) nd rfl (Or.inl rfl)) (af (ar (ai (cx hu) (kix hu (pv 2) (pv 7)) (aF (ix:=[none,none,some 2]) [".0","_law_one","_law_filling"] (aC rfl (by decide+kernel) rfl rfl rfl) rfl (aE (pv 10)) (fun cl s H fp=>(aq (i:=1) (show([".0","_law_one","_law_filling"]:List Str).Nodup by decide+kernel) rfl (Or.inl rfl))) (fun cl s H fp=>aO) (fun cl s H fp=>(kix hu (pv 2) (pv 1)))) (by with_unfolding_all rfl)) (af (cQ (bQ LN L7 L8 bH (pv 10) (aa (pv 7) ab)))) am)))
                       . refine af ?_
                         . refine ag ?_
                           . refine c5 ?_
                             . refine aa ?_ ?_
                               . exact au
                               . refine aa ?_ ?_
                                 . exact(pv 10)
                                 . refine aa ?_ ?_
                                   . exact ae
                                   . refine aa ?_ ?_
                                     . exact(ak aw au (bQ Nb NA NB rB au (aa (aF (ix:=[none,none]) [".0","_law_cell"] (aC rfl (by decide+kernel) rfl rfl rfl) rfl (aE (pv 10)) (fun cl s H fp=>(aq (i:=1) (show([".0","_law_cell"]:List Str).Nodup by decide+kernel) rfl (Or.inl rfl))) (fun cl s H fp=>aO) (fun cl s H fp=>(aV fC rfl Bz.str_ jp (aa (pv 1) ab)))) ab)))
                                     . exact ab
abbrev lQ:Stmt:=top 56
theorem sR{c:RCl RK}{d:RCl PzK}(Js:pb Z)(Jt:pj Z c)(Ju:pf Z c)(Jj:nY Z c)(Jv:pk Z c)(KB:B1 Z c d)(Iw:mf Z c d)(IC:pr Z c d)(D:De Z.K "strikes_by_line" lQ):lO Z c d:=okc Bz D qR bd3 fun hr hu nd=>(ad (kset 3 nd (kix hu (pv 2) ae))
   (ad (kset 4 nd (kix hu (pv 2) ae))
   (ad (kset 5 nd (kix hu (pv 2) ae))
   (ad (kset 6 nd (kix hu (pv 2) ae))
   (ad (ar (ai (av hu) (pv 3) au (ah _)) (af (ag (kcal Js hr (aa (aM KB hr (by decide) (pv 0)) (aa (pv 4) (aa (pv 5) (aa (pv 6) ab))))))) am)
   (ad (kset 7 nd (kix hu (aM IC hr (by decide) (pv 0)) (kix hu (pv 2) ae)))
   (ad (ar (ai (av hu) (pv 3) au (ah _)) (af (ag (kcal Jt hr (aa (pv 7) (aa (pv 1) (aa (pv 4) (aa (pv 5) (aa (pv 6) ab)))))))) am)
   (ad (ar (ai (av hu) (pv 3) au (ah _)) (af (ag (kcal Jj hr (aa (aM Iw hr (by decide) (pv 0)) (aa (pv 7) (aa (pv 1) (aa (pv 4) (aa (pv 5) (aa (pv 6) ab))))))))) am)
   (ad (ar (ai (av hu) (pv 3) au (ah _)) (af (ag (kcal Jv hr (aa (pv 7) (aa (pv 1) (aa (pv 4) (aa (pv 5) (aa (pv 6) ab)))))))) am)
   (af (ag (kcal Ju hr (aa (pv 7) (aa (pv 1) (aa (pv 4) (aa (pv 5) (aa (pv 6) ab)))))))))))))))))
abbrev oq:Stmt:=top 60
theorem vj{c:RCl RK}(Iy:ma Z)(Ir:k9 Z)(Id:fP Z)(Ig:gX Z c)(IR:va Z c)(IJ:sE Z c)(D:De Z.K "count_strikes" oq):n5 Z c:=okc Bz D uV bd5 fun hr hu nd=>(ad (ar (ai (aX hu) (pv 4) (aA ab) (ah _)) (af (ag bg)) am)
   (ad (kset 5 nd (kcal Id hr (aa (pv 1) (aa (kcal Ig hr (aa (pv 0) (aa (pv 2) ab))) ab))))
   (ad (ar (ai (av hu) (pv 3) (aM IJ hr (by decide) (pv 0)) (ah _)) (af (ag (az vw (kcal Ir hr (aa (pv 5) (aa (pv 3) ab))) (aM IR hr (by decide) (pv 0)) (ah _)))) am)
   (af (ag (az cc (kcal Iy hr (aa (pv 5) (aa (aM IJ hr (by decide) (pv 0)) ab))) (aM IR hr (by decide) (pv 0)) (ah _)))))))
abbrev ni:Stmt:=top 68
theorem tW{c:RCl RK}(Ir:k9 Z)(Id:fP Z)(IX:m3 Z)(IJ:sE Z c)(D:De Z.K "square_strikes" ni):m6 Z c:=okc Bz D tL bd6 fun hr hu nd=>(ad (ar (M0 (bG (ai (aX hu) (pv 4) (aM IJ hr (by decide) (pv 1)) (ah _)) (bJ (ai (aX hu) (ap ax rfl Bz.len_ aG (aa (pv 5) ab)) ae (ah _))))) (af (ag bg)) am)
   (ad (kset 6 nd (kcal IX hr (aa (pv 0) (aa (kix hu (pv 5) ae) (aa (pv 3) ab)))))
   (af (ag (bc (az (aX hu) (pv 6) (aA ab) (ah _)) (bq (az (av hu) (kcal Ir hr (aa (kcal Id hr (aa (pv 2) (aa (pv 6) ab))) (aa (pv 4) ab))) (ap ax rfl Bz.len_ aG (aa (pv 6) ab)) (ah _))))))))
abbrev or:Stmt:=top 70
theorem vk{c:RCl RK}(II:iG Z)(Ig:gX Z c)(IL:sy Z)(Iq:kQ Z)(IJ:sE Z c)(D:De Z.K "reach_strikes" or):n6 Z c:=okc Bz D uY bd6 fun hr hu nd=>(ad (fR (i:=6) nd rfl (Or.inr rfl) (aM IJ hr (by decide) (pv 1)))
   (ad (ar (bb (aI (ap (dS rfl) rfl Bz.all_ js (aa (aF (ix:=[none,none,some 3,some 0,some 6,some 2]) [".0","other","cell","floor","mark","masks"] (aC rfl (by decide+kernel) rfl rfl rfl) rfl (aE (pv 5)) (fun cl s H fp=>(aq (i:=1) (show([".0","other","cell","floor","mark","masks"]:List Str).Nodup by decide+kernel) rfl (Or.inl rfl))) (fun cl s H fp=>aO) (fun cl s H fp=>(kcal II hr (aa (pv 3) (aa (pv 5) (aa (pv 2) (aa (pv 1) (aa (pv 4) ab)))))))) ab)))) (af (ag bg)) am)
   (ad (oY (k:=7) nd rfl (Or.inl rfl) rfl (ix:=[none,none,some 6,some 2]) [".0","other","mark","masks"] (aC rfl (by decide+kernel) rfl rfl rfl) rfl (aE (kcal Ig hr (aa (pv 1) (aa (pv 3) ab)))) (fun cl s H fp=>(aq (i:=1) (show([".0","other","mark","masks"]:List Str).Nodup by decide+kernel) rfl (Or.inl rfl))) (fun cl s H fp=>(bn (aI (kcal Iq hr (aa (kix hu (pv 3) (pv 1)) (aa (pv 2) ab)))))) (fun cl s H fp=>(pv 1)))
   (ad (ar (ai (av hu) (pv 4) (pv 6) (ah _)) (af (ag (bc (az (av hu) (ap ax rfl Bz.len_ aG (aa (pv 5) ab)) ae (ah _)) (bq (az (cx hu) (kix hu (pv 5) ae) (kcal IL hr (aa (pv 0) (aa (ak aw (pv 7) (aA (aa (pv 3) ab))) (aa (pv 3) ab)))) (by with_unfolding_all rfl)))))) am)
   (ad (ar (M0 (bG (ai (aX hu) (ap ax rfl Bz.len_ aG (aa (pv 5) ab)) ae (ah _)) (bJ (ai (av hu) (kix hu (pv 5) ae) (kix hu (pv 5) ae) (ah _))))) (af (ag bg)) am)
   (af (ag (az (cx hu) (kix hu (pv 5) ae) (kcal IL hr (aa (pv 0) (aa (pv 7) (aa (kix hu (pv 5) ae) ab)))) (by with_unfolding_all rfl)))))))))
abbrev pN:Stmt:=top 72
theorem wZ{c:RCl RK}(Kq:AD Z)(Iv:mY Z)(Ip:ke Z)(Iy:ma Z)(Ir:k9 Z)(Id:fP Z)(IJ:sE Z c)(D:De Z.K "turn_strikes" pN):pp Z c:=okc Bz D wm bd6 fun hr hu nd=>(ad (kset 6 nd (aM IJ hr (by decide) (pv 1)))
   (ad (ar (ai (av hu) (pv 5) (aA ab) (ah _)) (ad (kset 7 nd (kcal Id hr (aa (pv 2) (aa (kcal Iv hr (aa (pv 0) (aa (pv 3) ab))) ab))))
   (af (ag (bc (az (av hu) (pv 4) (pv 6) (ah _)) (bq (y7 (az cc (kcal Iy hr (aa (pv 7) (aa (pv 6) ab))) ae (ah _)) (bq (az dw (kcal Ir hr (aa (pv 7) (aa (pv 6) ab))) ae (ah _))))))))) am)
   (ad (ar (M0 (bG (ai (aX hu) (ap ax rfl Bz.len_ aG (aa (pv 5) ab)) ae (ah _)) (bG (ai (cx hu) (kix hu (pv 5) ae) (kcal Iv hr (aa (pv 0) (aa (pv 3) ab))) (by with_unfolding_all rfl)) (bJ (bb (aI (kcal Ip hr (aa (kix hu (pv 2) (kix hu (pv 5) ae)) (aa (pv 6) ab))))))))) (af (ag bg)) am)
   (ad (kset 7 nd (kcal Id hr (aa (pv 2) (aa (kcal Kq hr (aa (pv 0) (aa (kix hu (pv 5) ae) (aa (pv 3) ab)))) ab))))
   (ad (ar (ai (av hu) (pv 4) (pv 6) (ah _)) (af (ag (az vw (kcal Ir hr (aa (pv 7) (aa (pv 6) ab))) ae (ah _)))) am)
   (af (ag (az cc (kcal Iy hr (aa (pv 7) (aa (pv 6) ab))) ae (ah _)))))))))
abbrev jo:Stmt:=top 86
theorem oV{c:RCl RK}{d:RCl PzK}(Iq:kQ Z)(IS:lu Z c d)(D:De Z.K "strikes_what_stands" jo):jm Z c d:=okc Bz D oO bd3 fun hr hu nd=>(af (ag (bc (kcal IS hr (aa (pv 0) (aa (pv 2) ab))) (bq (kcal Iq hr (aa (kix hu (pv 1) (kix hu (pv 2) ae)) (aa (kix hu (pv 2) ae) ab)))))))
abbrev pO:Stmt:=mtop 97 0
theorem w5{c:RCl RK}(JZ:lc Z c)(IH:jd Z c){f:Addr}(D:Me Z.K "holds" "Joined.holds" pO f):Mo Z 5 f ["self","filling"] (nJ Z.K c):=okm D wf bd2 fun hr hu nd=>(af (ag (cY JZ hr (by decide) (pv 0) (aa (cY IH hr (by decide) (pv 0) (aa (pv 1) ab)) ab))))
abbrev sS:Stmt:=mtop 99 0
theorem y3{c:RCl RK}(Kr:m7 Z c)(JZ:lc Z c)(IH:jd Z c){f:Addr}(D:Me Z.K "holds" "Ring.holds" sS f):Mo Z 5 f ["self","filling"] (qD Z.K c):=okm D yP bd2 fun hr hu nd=>(ad (fR (i:=2) nd rfl (Or.inr rfl) (cY IH hr (by decide) (pv 0) (aa (pv 1) ab)))
   (af (ag (bc (cY JZ hr (by decide) (pv 0) (aa (pv 2) ab)) (bq (ap (dS rfl) rfl Bz.all_ js (aa (aF (ix:=[none,none,some 2,some 0]) [".0","cell","cells","self"] (aC rfl (by decide+kernel) rfl rfl rfl) rfl (aE (pv 2)) (fun cl s H fp=>(aq (i:=1) (show([".0","cell","cells","self"]:List Str).Nodup by decide+kernel) rfl (Or.inl rfl))) (fun cl s H fp=>aO) (fun cl s H fp=>(cY Kr hr (by decide) (pv 3) (aa (pv 2) (aa (pv 1) ab))))) ab)))))))
abbrev uE:Stmt:=top 113
theorem A2{c:RCl RK}(Kb:wB Z)(IV:ph Z)(Kh:yq Z c){t_MOST_NUMBER:Tok}(JD:Z.mg "MOST_NUMBER"=some (.int 99 t_MOST_NUMBER))(JE:GTup Z.K Z.mg "WITH_NUMBER" g9)(J0:GTup Z.K Z.mg "WITH_SIGN" gE)(D:De Z.K "read_rule" uE):uj Z c:=okc Bz D zU bd2 fun hr hu nd=>(ad (ar (bb (aI (ap cy rfl Bz.isinstance_ bj (aa (pv 1) (aa (fi (v:=.ty "str") rfl Bz.str_ jp rfl) ab))))) (af bx) am)
   (ad (kset 2 nd (bQ Nb PySem.F.slot_str_split PySem.F.type_str_split DK (pv 1) (aa au ab)))
   (ad (kset 3 nd (kix hu (pv 2) ae))
   (ad (kset 4 nd (fE lV (pv 2) (fj ae) kx))
   (ad (kset 5 nd ae)
   (ad (kset 6 nd ae)
   (ad (ar (vQ JE (pv 3) rfl) (ad (kset 5 nd (kcal IV hr (aa (pv 4) (aa ae (aa (dg rfl JD ⟨t_MOST_NUMBER,rfl⟩) ab)))))
   (af (kset 4 nd (fE lV (pv 4) (fj ae) kx)))) am)
   (ad (ar (vQ J0 (pv 3) rfl) (ad (kset 6 nd (kcal IV hr (aa (pv 4) (aa ae (aa (kix hu (pv 0) ae) ab)))))
   (af (kset 4 nd (fE lV (pv 4) (fj ae) kx)))) am)
   (af (ag (kcal Kh hr (aa (pv 0) (aa (pv 2) (aa (kcal Kb hr (aa (pv 0) (aa (pv 3) (aa (pv 4) ab)))) (aa (pv 5) (aa (pv 6) ab))))))))))))))))
abbrev pQ:Stmt:=top 64
theorem w6{c:RCl RK}(IE:nP Z)(Id:fP Z)(Ig:gX Z c)(Ic:fQ Z)(KN:EK Z)(IY:mZ Z)(IM:oS Z){t_MOST_WAYS:Tok}(J1:Z.mg "MOST_WAYS"=some (.int 32 t_MOST_WAYS))(KC:B2 Z c)(D:De Z.K "ways_strikes" pQ):pq Z c:=okc Bz D wj bd5 fun hr hu nd=>(ad (kset 5 nd (kcal Ig hr (aa (pv 0) (aa (pv 2) ab))))
   (ad (kset 6 nd (kcal Id hr (aa (pv 1) (aa (pv 5) ab))))
   (ad (ar (M0 (bG (ai (aX hu) (pv 4) (aA ab) (ah _)) (bJ (ai dw (kcal KN hr (aa (pv 6) ab)) (dg rfl J1 ⟨t_MOST_WAYS,rfl⟩) (ah _))))) (af (ag bg)) am)
   (ad (ar (aI (kcal IE hr (aa (pv 6) ab))) (af (ag bg)) am)
   (ad (kset 7 nd (aA (aa (kcal IM hr (aa (ak zE (aA (aa ae ab)) (ap ax rfl Bz.len_ aG (aa (pv 1) ab))) (aa (pv 2) (aa (pv 3) ab)))) ab)))
   (ad (cZ Md rfl (aE (pv 5)) (aq (i:=8) nd rfl (Or.inl rfl))
   (af (kset 7 nd (kcal IY hr (aa (pv 7) (aa (pv 8) (aa (kcal Ic hr (aa (kix hu (pv 1) (pv 8)) ab)) ab)))))))
   (ad (cZ Md rfl (aE (pv 7)) (aq (i:=9) nd rfl (Or.inl rfl))
   (af (ar (aI (cY KC hr (by decide) (pv 0) (aa (pv 9) ab))) (af (ag bg)) am)))
   (af (ag bg)))))))))
abbrev kr:Stmt:=top 73
theorem qx{c:RCl RK}{d:RCl PzK}(Jk:n6 Z c)(IZ:m6 Z c)(Jw:pp Z c)(Iw:mf Z c d)(IC:pr Z c d)(D:De Z.K "strikes_by_region" kr):km Z c d:=okc Bz D oI bd3 fun hr hu nd=>(ad (kset 3 nd (aM Iw hr (by decide) (pv 0)))
   (ad (kset 4 nd (kix hu (aM IC hr (by decide) (pv 0)) (kix hu (pv 2) ae)))
   (ad (ar (ai (av hu) (kix hu (pv 2) ae) au (ah _)) (af (ag (kcal IZ hr (aa (pv 3) (aa (pv 4) (aa (pv 1) (aa (kix hu (pv 2) ae) (aa (kix hu (pv 2) ae) (aa (kix hu (pv 2) ae) ab))))))))) am)
   (ad (ar (ai (av hu) (kix hu (pv 2) ae) au (ah _)) (af (ag (kcal Jk hr (aa (pv 3) (aa (pv 4) (aa (pv 1) (aa (kix hu (pv 2) ae) (aa (kix hu (pv 2) ae) (aa (kix hu (pv 2) ae) ab))))))))) am)
   (af (ag (kcal Jw hr (aa (pv 3) (aa (pv 4) (aa (pv 1) (aa (kix hu (pv 2) ae) (aa (kix hu (pv 2) ae) (aa (kix hu (pv 2) ae) ab)))))))))))))
abbrev sU:Stmt:=top 117
theorem y4{c:RCl RK}(J3:uj Z c){t_MOST_RULES:Tok}(JN:Z.mg "MOST_RULES"=some (.int 12 t_MOST_RULES))(D:De Z.K "read_rules" sU):sC Z c:=okc Bz D yK bd2 fun hr hu nd=>(ad (ar (ai dw (ap ax rfl Bz.len_ aG (aa (pv 1) ab)) (dg rfl JN ⟨t_MOST_RULES,rfl⟩) (ah _)) (af bx) am)
   (af (ag (aF (ix:=[none,none,some 0]) [".0","line","floor"] (aC rfl (by decide+kernel) rfl rfl rfl) rfl (aE (pv 1)) (fun cl s H fp=>(aq (i:=1) (show([".0","line","floor"]:List Str).Nodup by decide+kernel) rfl (Or.inl rfl))) (fun cl s H fp=>aO) (fun cl s H fp=>(kcal J3 hr (aa (pv 2) (aa (pv 1) ab))))))))
abbrev kt:Stmt:=top 65
theorem qy{c:RCl RK}{d:RCl PzK}(Jl:n5 Z c)(JF:qF Z c)(Jx:pq Z c)(IC:pr Z c d)(D:De Z.K "strikes_by_number" kt):kn Z c d:=okc Bz D oJ bd3 fun hr hu nd=>(ad (kset 3 nd (kix hu (aM IC hr (by decide) (pv 0)) (kix hu (pv 2) ae)))
   (ad (ar (ai (av hu) (kix hu (pv 2) ae) au (ah _)) (af (ag (kcal Jl hr (aa (pv 3) (aa (pv 1) (aa (kix hu (pv 2) ae) (aa (kix hu (pv 2) ae) (aa (kix hu (pv 2) ae) ab)))))))) am)
   (ad (ar (ai (av hu) (kix hu (pv 2) ae) au (ah _)) (af (ag (kcal JF hr (aa (pv 3) (aa (pv 1) (aa (kix hu (pv 2) ae) (aa (kix hu (pv 2) ae) (aa (kix hu (pv 2) ae) ab)))))))) am)
   (af (ag (kcal Jx hr (aa (pv 3) (aa (pv 1) (aa (kix hu (pv 2) ae) (aa (kix hu (pv 2) ae) (aa (kix hu (pv 2) ae) ab)))))))))))
abbrev lR:Stmt:=mtop 120 0
theorem sV{c:RCl RK}{d:RCl PzK}(Jm:nV Z)(Jn:nZ Z)(JO:sC Z c)(ID:FldK Z.K d "floor")(IU:FldK Z.K d "given")(I0:FldK Z.K d "laws"){f:Addr}(D:Me Z.K "__init__" "Puzzle.__init__" lR f):Mo Z 7 f ["self","floor","lines","clues"] (cP Z.K c d):=okm D rF bd4 fun hr hu nd=>(ad (jg (pv 0) (kcal Jn hr (aa (pv 1) ab)) ID)
   (ad (jg (pv 0) (kcal JO hr (aa (bE (pv 0) ID) (aa (pv 2) ab))) I0)
   (af (jg (pv 0) (kcal Jm hr (aa (bE (pv 0) ID) (aa (pv 3) ab))) IU))))
abbrev yD:Stmt:=top 75
theorem Db{c:RCl RK}{d:RCl PzK}(IW:lO Z c d)(IP:kn Z c d)(IQ:km Z c d)(JP:GTup Z.K Z.mg "LINE_KINDS" iJ)(Jy:GTup Z.K Z.mg "NUMBER_KINDS" gn)(D:De Z.K "strikes" yD):yr Z c d:=okc Bz D Bo bd3 fun hr hu nd=>(ad (ar (vQ JP (kix hu (pv 2) ae) rfl) (af (ag (kcal IW hr (aa (pv 0) (aa (pv 1) (aa (pv 2) ab)))))) am)
   (ad (ar (vQ Jy (kix hu (pv 2) ae) rfl) (af (ag (kcal IP hr (aa (pv 0) (aa (pv 1) (aa (pv 2) ab)))))) am)
   (af (ag (kcal IQ hr (aa (pv 0) (aa (pv 1) (aa (pv 2) ab))))))))
abbrev yE:Stmt:=top 76
theorem Dc{c:RCl RK}{d:RCl PzK}(J4:uh Z c d)(Ki:yr Z c d)(D:De Z.K "allowed" yE):sD Z c d:=okc Bz D Bp bd3 fun hr hu nd=>(af (ag (bc (kcal J4 hr (aa (pv 0) (aa (pv 2) ab))) (bq (kcal Ki hr (aa (pv 0) (aa (pv 1) (aa (pv 2) ab))))))))
abbrev w9:Stmt:=top 85
theorem BB{c:RCl RK}{d:RCl PzK}(Jd:sD Z c d)(Jz:pc Z)(D:De Z.K "fault_in" w9):wC Z c d:=okc Bz D Bq bd3 fun hr hu nd=>(ad (ar (bb (aI (kcal Jz hr (aa (pv 2) ab)))) (af (ag (ku (aI (kcal Jd hr (aa (pv 0) (aa (pv 1) (aa (pv 2) ab))))) ld (aA ab)))) am)
   (ad (ar (bb (aI gH)) (af (ag (aA ab))) am)
   (ad (kset 3 nd gH)
   (ad (cZ Md rfl (tw rfl Bz.enumerate_ (aa (kix hu (pv 2) ae) ab)) (lf rfl (bo (aq (i:=4) nd rfl (Or.inl rfl)) (bo (aq (i:=5) nd rfl (Or.inl rfl)) je)))
   (ad (ar (aI gH) (af (ag ld)) am)
   (af (ar (bb (aI gH)) (ad (kset 6 nd gH)
   (ad (ar (ai BF (pv 6) ld (ah _)) (af (ag (ak aw (aA (aa (pv 4) ab)) (pv 6)))) am)
   (af (kset 3 nd gH)))) am))))
   (af (ag (ku (aI gH) ld (aA ab))))))))
abbrev uF:Stmt:=top 134
theorem A3{c:RCl RK}{d:RCl PzK}(Ih:kR Z)(JA:pi Z)(Jd:sD Z c d)(D:De Z.K "_law_book" uF):uk Z c d:=okc Bz D xM bd5 fun hr hu nd=>(ad (oY (k:=5) nd rfl (Or.inl rfl) rfl (ix:=[none,none,some 2]) [".0","_law_cell","_law_floor_here"] (aC rfl (by decide+kernel) rfl rfl rfl) rfl (cw rfl Bz.range_ (aa (pv 4) ab)) (fun cl s H fp=>(aq (i:=1) (show([".0","_law_cell","_law_floor_here"]:List Str).Nodup by decide+kernel) rfl (Or.inl rfl))) (fun cl s H fp=>aO) (fun cl s H fp=>(ak aZ (ak xh ae (kix hu (pv 2) ae)) ae)))
   (ad (kset 6 nd (aA ab))
   (ad (kset 7 nd (aA (aa (aV c9 rfl Bz.list_ dj (aa (pv 5) ab)) ab)))
   (ad (cZ Md rfl (cw rfl Bz.range_ (aa (ak aw (ap (no rfl) rfl Bz.min_ vy (aa ae (aa (ap gu rfl Bz.len_ aG (aa (pv 0) ab)) ab))) ae) ab)) (aq (i:=8) nd rfl (Or.inl rfl))
   (ad (kset 9 nd (kcal JA hr (aa (kcal Ih hr (aa (pv 0) (aa (ak aw ae (pv 8)) ab))) (aa (pv 2) (aa (pv 3) (aa (pv 5) ab))))))
   (ad (kset 10 nd (az (av hu) (ak BN (ak xi (kix hu (pv 5) (kix hu (pv 9) ae)) (ak aZ (kix hu (pv 9) ae) ae)) ae) ae (ah _)))
   (af (ar (M0 (gt (ai (cx hu) ae (pv 5) (by with_unfolding_all rfl)) (gt (aI (pv 10)) (fV (aI (kcal Jd hr (aa (pv 1) (aa (pv 5) (aa (pv 9) ab))))))))) (ad (cQ (bQ LN L7 L8 bH (pv 6) (aa (pv 9) ab)))
   (ad (qV (ak aZ (kix hu (pv 5) (kix hu (pv 9) ae)) (ak xh ae (ak aZ (kix hu (pv 9) ae) ae))) (Di (pv 5) (kix hu (pv 9) ae) (FB hu)))
   (af (cQ (bQ LN L7 L8 bH (pv 7) (aa (aV c9 rfl Bz.list_ dj (aa (pv 5) ab)) ab)))))) am)))))
   (af (ag (c5 (aa (pv 6) (aa (pv 7) ab)))))))))
abbrev qL:Stmt:=top 87
theorem xS{c:RCl RK}{d:RCl PzK}(IE:nP Z)(Kc:wC Z c d)(IK:jm Z c d)(Ks:AC Z)(D:De Z.K "follow_from" qL):lM Z c d:=okc Bz D xE bd3 fun hr hu nd=>(ad (kset 3 nd (aV c9 rfl Bz.list_ dj (aa (pv 1) ab)))
   (ad (cZ Md rfl (tw rfl Bz.enumerate_ (aa (pv 2) ab)) (lf rfl (bo (aq (i:=4) nd rfl (Or.inl rfl)) (bo (aq (i:=5) nd rfl (Or.inl rfl)) je)))
   (ad (ar (M0 (bG (aI (kcal IE hr (aa (pv 3) ab))) (bJ (bb (aI (kcal IK hr (aa (pv 0) (aa (pv 3) (aa (pv 5) ab))))))))) (af bx) am)
   (ad (kset 6 nd (kcal Kc hr (aa (pv 0) (aa (pv 3) (aa (pv 5) ab)))))
   (ad (ar (ai BF (pv 6) ld (ah _)) (af bx) am)
   (af (kset 3 nd (kcal Ks hr (aa (pv 3) (aa (kix hu (pv 5) ae) (aa (kix hu (pv 5) ae) ab))))))))))
   (af (ag (pv 3)))))
abbrev A4:Stmt:=top 88
theorem EW{c:RCl RK}{d:RCl PzK}(IB:lM Z c d)(KO:EJ Z)(Iw:mf Z c d)(D:De Z.K "follow" A4):AE Z c d:=okc Bz D EE bd2 fun hr hu nd=>(af (ag (kcal IB hr (aa (pv 0) (aa (kcal KO hr (aa (aM Iw hr (by decide) (pv 0)) ab)) (aa (pv 1) ab))))))
abbrev xa:Stmt:=top 136
theorem HA{c:RCl RK}{d:RCl PzK}(J5:uk Z c d)(Ih:kR Z)(JQ:si Z)(Il:lr Z)(J6:ui Z)(JR:AE Z c d)(IB:lM Z c d)(Kt:lP Z "Puzzle" (d.A .Puzzle) c d){f:Addr}{fd:FuncData}(F:Fun Z.K "law" "law" xa f fd):FnOk Z.P Z.w Z.K Z.mg Z.base CX0 13 f fd ["_law_script"] (EF Z.K c d):=okf F (by ac_rfl) Hz (fun hr hu nd=>(ad (fR (i:=1) nd rfl (Or.inr rfl) (kcal JQ hr (aa (kcal Ih hr (aa (pv 0) (aa ae ab))) ab)))
   (ad (kset 2 nd (ak cS (kix hu (pv 1) ae) (kix hu (pv 1) ae)))
   (ad (fR (i:=3) nd rfl (Or.inr rfl) (aF (ix:=[none,none,some 1,some 0]) [".0","_law_k","_law_floor_here","_law_script"] (aC rfl (by decide+kernel) rfl rfl rfl) rfl (cw rfl Bz.range_ (aa (pv 2) ab)) (fun cl s H fp=>(aq (i:=1) (show([".0","_law_k","_law_floor_here","_law_script"]:List Str).Nodup by decide+kernel) rfl (Or.inl rfl))) (fun cl s H fp=>aO) (fun cl s H fp=>(ak aw ae (ak aL (ak bC (kcal Ih hr (aa (pv 3) (aa (ak aw ae (pv 1)) ab))) ae) (kix hu (pv 2) ae))))))
   (ad (oY (k:=4) nd rfl (Or.inl rfl) rfl (ix:=[none,none,some 3,some 1,some 0]) [".0","_law_k","_law_filling","_law_floor_here","_law_script"] (aC rfl (by decide+kernel) rfl rfl rfl) rfl (cw rfl Bz.range_ (aa (ak aw ae (ak aL (kcal Ih hr (aa (pv 0) (aa ae ab))) ae)) ab)) (fun cl s H fp=>(aq (i:=1) (show([".0","_law_k","_law_filling","_law_floor_here","_law_script"]:List Str).Nodup by decide+kernel) rfl (Or.inl rfl))) (fun cl s H fp=>aO) (fun cl s H fp=>(kcal J6 hr (aa (kcal Ih hr (aa (pv 4) (aa (ak aw ae (pv 1)) ab))) (aa (pv 3) (aa (pv 2) ab))))))
   (ad (oY (k:=5) nd rfl (Or.inl rfl) rfl (ix:=[none,none,some 3,some 0]) [".0","_law_k","_law_filling","_law_script"] (aC rfl (by decide+kernel) rfl rfl rfl) rfl (cw rfl Bz.range_ (aa (pv 2) ab)) (fun cl s H fp=>(aq (i:=1) (show([".0","_law_k","_law_filling","_law_script"]:List Str).Nodup by decide+kernel) rfl (Or.inl rfl))) (fun cl s H fp=>aO) (fun cl s H fp=>(ak cS (kix hu (pv 2) (pv 1)) (ak aL (ak bC (kcal Ih hr (aa (pv 3) (aa (ak aw ae (pv 1)) ab))) ae) ae))))
   (ad (kset 6 nd (lY Kt hr (by decide) rfl (aa (pv 1) (aa (aF (ix:=[none,none]) [".0","_law_rule_here"] (aC rfl (by decide+kernel) rfl rfl rfl) rfl (aE (pv 4)) (fun cl s H fp=>(aq (i:=1) (show([".0","_law_rule_here"]:List Str).Nodup by decide+kernel) rfl (Or.inl rfl))) (fun cl s H fp=>aO) (fun cl s H fp=>(kix hu (pv 1) ae))) (aa (pv 5) ab)))))
   (ad (qV (kcal J5 hr (aa (pv 0) (aa (pv 6) (aa (pv 1) (aa (pv 4) (aa (pv 2) ab)))))) (lf rfl (bo (aq (i:=7) nd rfl (Or.inl rfl)) (bo (aq (i:=8) nd rfl (Or.inl rfl)) je))))
   (ad (kset 9 nd (aV c9 rfl Bz.list_ dj (aa (pv 7) ab)))
   (ad (kset 10 nd (kcal JR hr (aa (pv 6) (aa (pv 9) ab))))
   (ad (ar (M0 (bG (bb (aI (kcal Il hr (aa (pv 10) (aa (kix hu (pv 8) (sX oW ae)) ab))))) (bJ (ai (aX hu) (pv 9) (pv 7) (ah _))))) (af (ag bg)) am)
   (ad (cQ (bQ LN L7 L8 bH (pv 10) (aa ae ab)))
   (ad (qV ae (Di (pv 10) ae (FB hu)))
   (ad (kset 11 nd (ak aL (kcal Ih hr (aa (pv 0) (aa ae ab))) (ap ax rfl Bz.len_ aG (aa (pv 8) ab))))
   (ad (kset 12 nd (aV c9 rfl Bz.list_ dj (aa (kix hu (pv 8) (pv 11)) ab)))
   (ad (kset 13 nd (kcal IB hr (aa (pv 6) (aa (pv 12) (aa (fE lV (pv 7) (fj (pv 11)) kx) ab)))))
   (ad (ar (M0 (bG (bb (aI (kcal Il hr (aa (pv 13) (aa (kix hu (pv 8) (sX oW ae)) ab))))) (bJ (ai (aX hu) (pv 12) (kix hu (pv 8) (pv 11)) (ah _))))) (af (ag bg)) am)
   (ad (cQ (zr LN PySem.F.slot_list_clear PySem.F.type_list_clear DH (pv 13)))
   (ad (ar (bb (aI (kcal Il hr (aa (kcal IB hr (aa (pv 6) (aa (pv 12) (aa (aA ab) ab)))) (aa (pv 12) ab))))) (af (ag bg)) am)
   (ad (ar (bb (aI (kcal Il hr (aa (kcal JR hr (aa (pv 6) (aa (fE lV (pv 7) kx (fj (pv 11))) ab))) (aa (kix hu (pv 8) (pv 11)) ab))))) (af (ag bg)) am)
   (af (ag (kcal Il hr (aa (kcal JR hr (aa (pv 6) (aa (pv 7) ab))) (aa (kix hu (pv 8) (sX oW ae)) ab))))))))))))))))))))))))) (by walk_at "l")
end
variable{l:PySem.W.OpenLaw}
theorem HB {w:World} {K:Frag} {h:Heap} {mg:Str->Option Value} {fa:Addr} (X:K.In h) (G:h.Ns mainGlobals mg) (hfa:mg "law"=some (.ref fa)) {x1 x2 x3 x4 x5 x6 x7 x8 y1 f13 f14 f15 f16 f17 f18 f19 f21 f22 f23 f46 f47 f48 f49 f50 f69 f84 f85 f95 f96 f102:Addr} {tk_FIGURES tk_MOST_CELLS tk_MOST_FIGURES tk_MOST_NUMBER tk_MOST_RULES tk_MOST_SIDE tk_MOST_SIGNS tk_MOST_WAYS tk_SUPPOSE:Tok}
  (Q_Unlike:ClsP K "Unlike" x1 f13) (Q_Sum:ClsP K "Sum" x2 f13) (Q_Rising:ClsP K "Rising" x3 f13) (Q_Seen:ClsP K "Seen" x4 f13) (Q_Count:ClsP K "Count" x5 f13) (Q_Joined:ClsP K "Joined" x6 f13) (Q_NoSquare:ClsP K "NoSquare" x7 f13) (Q_Ring:ClsP K "Ring" x8 f13) (Q_Puzzle:ClsP K "Puzzle" y1 f102) (a14:At8 K "name" (some (.ref f14)) x1 x2 x3 x4 x5 x6 x7 x8) (a15:At8 K "spots" (some (.ref f15)) x1 x2 x3 x4 x5 x6 x7 x8) (a16:At8 K "number" (some (.ref f16)) x1 x2 x3 x4 x5 x6 x7 x8) (a17:At8 K "sign" (some (.ref f17)) x1 x2 x3 x4 x5 x6 x7 x8) (a18:At8 K "signs_at" (some (.ref f18)) x1 x2 x3 x4 x5 x6 x7 x8) (a19:At8 K "marked" (some (.ref f19)) x1 x2 x3 x4 x5 x6 x7 x8) (KS:findIn K (.ref y1) "place"=some (some (.ref f21))) (KU:findIn K (.ref y1) "clues"=some (some (.ref f22))) (KW:findIn K (.ref y1) "rules"=some (some (.ref f23))) (KY:findIn K (.ref x1) "holds"=some (some (.ref f46))) (La:findIn K (.ref x2) "holds"=some (some (.ref f47))) (KZ:findIn K (.ref x3) "holds"=some (some (.ref f48))) (K5:findIn K (.ref x4) "holds"=some (some (.ref f49))) (K4:findIn K (.ref x5) "holds"=some (some (.ref f50))) (K6:findIn K (.ref x8) "has_two_beside"=some (some (.ref f69))) (K0:findIn K (.ref x6) "is_joined"=some (some (.ref f84))) (K7:findIn K (.ref x8) "is_joined"=some (some (.ref f84))) (KP:findIn K (.ref x7) "holds"=some (some (.ref f85))) (K1:findIn K (.ref x6) "holds"=some (some (.ref f95))) (K8:findIn K (.ref x8) "holds"=some (some (.ref f96))) (n_c_amount:At8 K "amount" none x1 x2 x3 x4 x5 x6 x7 x8) (n_c_cells:At8 K "cells" none x1 x2 x3 x4 x5 x6 x7 x8) (n_c_floor:At8 K "floor" none x1 x2 x3 x4 x5 x6 x7 x8) (n_c_mark:At8 K "mark" none x1 x2 x3 x4 x5 x6 x7 x8) (n_c_words:At8 K "words" none x1 x2 x3 x4 x5 x6 x7 x8) (n_d_floor:findIn K (.ref y1) "floor"=some none) (n_d_given:findIn K (.ref y1) "given"=some none) (n_d_laws:findIn K (.ref y1) "laws"=some none) (D0:De K "is_whole" wD) (D1:De K "many_cells" sF) (D2:De K "spot_of" yt) (D3:De K "square_at" um) (D4:De K "bit_of" AG) (D5:De K "stands" AH) (D6:De K "clashes" yu) (D7:De K "masks_at" wE) (D8:De K "clue_strikes" pw) (D9:De K "are_told_in_order" ko) (D10:De K "with_sign" uo) (D11:De K "has_parts" uq) (D12:De K "is_within" ur) (D13:Me K "__init__" "Rule.__init__" n9 f13) (D14:Me K "name" "Rule.name" ut f14) (D15:Me K "spots" "Rule.spots" sG f15) (D16:Me K "number" "Rule.number" qG f16) (D17:Me K "sign" "Rule.sign" uu f17) (D18:Me K "signs_at" "Rule.signs_at" oa f18) (D19:Me K "marked" "Rule.marked" qH f19) (D20:De K "number_in" uv) (D21:Me K "place" "Puzzle.place" px f21) (D22:Me K "clues" "Puzzle.clues" pA f22) (D23:Me K "rules" "Puzzle.rules" pC f23) (D24:De K "_law_cell_at" pD) (D25:De K "_law_floor" sH) (D26:De K "_law_near" uw) (D27:De K "_law_drawn" sI) (D28:De K "_law_above" sJ) (D29:De K "_law_signs" sK) (D30:De K "_law_kinds" sM) (D31:De K "_law_masks_alike" lw) (D32:De K "is_from_one_to" m8) (D33:De K "beside" AQ) (D34:De K "is_corner" ux) (D35:De K "full_mask" uy) (D36:De K "without" yw) (D37:De K "signs_in" wK) (D38:De K "is_cell" yx) (D39:De K "goes_by" yy) (D40:De K "others" AT) (D41:De K "many_may" wL) (D42:De K "ahead_of" wM) (D43:De K "behind" AU) (D44:De K "with_each_sign" nc) (D45:De K "is_supposing" pE) (D46:Me K "holds" "Unlike.holds" pF f46) (D47:Me K "holds" "Sum.holds" uz f47) (D48:Me K "holds" "Rising.holds" pG f48) (D49:Me K "holds" "Seen.holds" sN f49) (D50:Me K "holds" "Count.holds" qI f50) (D51:De K "number_within" oe) (D52:De K "is_filling" sO) (D53:De K "_law_joined" qJ) (D54:De K "_law_more" uA) (D55:De K "floor_of" wQ) (D56:De K "squares" yz) (D57:De K "reached" yA) (D58:De K "full" ES) (D59:De K "has_only" wR) (D60:De K "struck" AX) (D61:De K "ways" EU) (D62:De K "is_sign" yB) (D63:De K "has_its_rule" pH) (D64:De K "is_no_greater" og) (D65:De K "is_no_less" sP) (D66:De K "pair_strikes" pI) (D67:De K "sum_strikes" qK) (D68:De K "around" AY) (D69:Me K "has_two_beside" "Ring.has_two_beside" jn f69) (D70:De K "first_within" pJ) (D71:De K "told_cells" sQ) (D72:De K "rule_by" yC) (D73:De K "checked_clues" oh) (D74:De K "_law_by_floor" oi) (D75:De K "_law_thought" pK) (D76:De K "is_formed" uB) (D77:De K "many_only" uC) (D78:De K "only_strikes" pL) (D79:De K "place_strikes" oj) (D80:De K "step_strikes" pM) (D81:De K "rest_of_square" ng) (D82:De K "is_another_with_only" iH) (D83:De K "strikes_on_floor" lx) (D84:Me K "is_joined" "Joined.is_joined" ly f84) (D85:Me K "holds" "NoSquare.holds" nh f85) (D86:De K "cells_of" wY) (D87:De K "checked_floor" oo) (D88:De K "_law_rule" uD) (D89:De K "strikes_by_line" lQ) (D90:De K "count_strikes" oq) (D91:De K "square_strikes" ni) (D92:De K "reach_strikes" or) (D93:De K "turn_strikes" pN) (D94:De K "strikes_what_stands" jo) (D95:Me K "holds" "Joined.holds" pO f95) (D96:Me K "holds" "Ring.holds" sS f96) (D97:De K "read_rule" uE) (D98:De K "ways_strikes" pQ) (D99:De K "strikes_by_region" kr) (D100:De K "read_rules" sU) (D101:De K "strikes_by_number" kt) (D102:Me K "__init__" "Puzzle.__init__" lR f102) (D103:De K "strikes" yD) (D104:De K "allowed" yE) (D105:De K "fault_in" w9) (D106:De K "_law_book" uF) (D107:De K "follow_from" qL) (D108:De K "follow" A4) (D109:De K "law" xa) (g_KINDS:GT0 K "KINDS" qe) (g_LINE_KINDS:GT0 K "LINE_KINDS" iJ) (g_NUMBER_KINDS:GT0 K "NUMBER_KINDS" gn) (g_OF_ALL_CELLS:GT0 K "OF_ALL_CELLS" gl) (g_WITH_NUMBER:GT0 K "WITH_NUMBER" g9) (g_WITH_SIGN:GT0 K "WITH_SIGN" gE) (gd_RULES_OF_KIND_:GD0 w K "RULES_OF_KIND" gd_RULES_OF_KIND) (K2:nsIn K mainGlobals "FIGURES"=some (some (.str (tx [48,49,50,51,52,53,54,55,56,57]) tk_FIGURES))) (KG:nsIn K mainGlobals "MOST_CELLS"=some (some (.int 16 tk_MOST_CELLS))) (Kw:nsIn K mainGlobals "MOST_FIGURES"=some (some (.int 9 tk_MOST_FIGURES))) (KD:nsIn K mainGlobals "MOST_NUMBER"=some (some (.int 99 tk_MOST_NUMBER))) (KH:nsIn K mainGlobals "MOST_RULES"=some (some (.int 12 tk_MOST_RULES))) (KQ:nsIn K mainGlobals "MOST_SIDE"=some (some (.int 6 tk_MOST_SIDE))) (KI:nsIn K mainGlobals "MOST_SIGNS"=some (some (.int 6 tk_MOST_SIGNS))) (KR:nsIn K mainGlobals "MOST_WAYS"=some (some (.int 32 tk_MOST_WAYS))) (K3:nsIn K mainGlobals "SUPPOSE"=some (some (.str (tx [115,117,112,112,111,115,101]) tk_SUPPOSE))) (z:Zn K) (K9:Nn K "divmod"):
  ∃ fd:FuncData,(∀(s:Shared) (v:Value),BindsTo s fd ⟨[v],[]⟩ [("_law_script",v)])/\∀ base:Heap,K.In base->base.Ns mainGlobals mg->FnOk l.prog w K mg base CX0 13 fa fd ["_law_script"] (xN K):=by
 obtain⟨f,fd,a,F⟩:=D109.ex;have e:=hfa.symm.trans (PySem.W.mg_of X G a);cases e;obtain⟨oc,od,kV,doc,pm,an,Le,ct,osl,rfl,lk,hcd⟩:=F.ex;refine⟨fnOf "law" "law" (dh xa) (ck xa) (aY xa) .none kV doc pm an Le ct,fun s v=>.of_eq rfl,fun base _ _=>?_⟩;let Z:Z5:=⟨l.prog,w,K,mg,base⟩;have Bz:Bt3 Z:=Hu X G z;let c:RCl RK:=mkC x1 x2 x3 x4 x5 x6 x7 x8;let d:RCl PzK:=mkD y1;have CC:C8 K x1 x2 x3 x4 x5 x6 x7 x8:=⟨Q_Unlike.cl,Q_Sum.cl,Q_Rising.cl,Q_Seen.cl,Q_Count.cl,Q_Joined.cl,Q_NoSquare.cl,Q_Ring.cl⟩;have Ke:=Bz.ns K2;have JG:=Bz.ns KG;have Jo:=Bz.ns Kw;have JD:=Bz.ns KD;have JN:=Bz.ns KH;have JB:=Bz.ns KQ;have JH:=Bz.ns KI;have J1:=Bz.ns KR;have Kf:=Bz.ns K3;have BX_divmod:=PySem.W.mg_none_of X G K9;have Ie:FldK Z.K c "amount":=fk8 CC n_c_amount;have Ij:FldK Z.K c "cells":=fk8 CC n_c_cells;have Im:FldK Z.K c "floor":=fk8 CC n_c_floor;have Iz:FldK Z.K c "mark":=fk8 CC n_c_mark;have IT:FldK Z.K c "words":=fk8 CC n_c_words;have ID:FldK Z.K d "floor":=⟨fun _ _=>⟨Q_Puzzle.cl,n_d_floor⟩⟩;have IU:FldK Z.K d "given":=⟨fun _ _=>⟨Q_Puzzle.cl,n_d_given⟩⟩;have I0:FldK Z.K d "laws":=⟨fun _ _=>⟨Q_Puzzle.cl,n_d_laws⟩⟩;have KA:=g_KINDS.of Bz;have JP:=g_LINE_KINDS.of Bz;have Jy:=g_NUMBER_KINDS.of Bz;have Jr:=g_OF_ALL_CELLS.of Bz;have JE:=g_WITH_NUMBER.of Bz;have J0:=g_WITH_SIGN.of Bz;have Je:=GD0.of (Z:=Z) gd_RULES_OF_KIND_ Bz;have Ii:=Br Bz D0;have Ib:=yR Bz D1;have Ja:=CZ Bz D2;have JV:=AF Bz D3;have Jp:=EM Bz D4;have Iq:=EN Bz D5;have IE:=C0 Bz D6;have Id:=Bs Bz D7;have Js:=wF Bz D8;have IO:=qw Bz D9;have IM:=AI Bz D10;have IN:=AJ Bz D11;have JY:=AK Bz D12;have T13:=vb Bz Ie Ij Im Iz IT D13;have Ko:aK Z "Unlike" (c.A .Unlike) c:=T13.mke Bz Q_Unlike;have K_Sum:aK Z "Sum" (c.A .Sum) c:=T13.mke Bz Q_Sum;have Kn:aK Z "Rising" (c.A .Rising) c:=T13.mke Bz Q_Rising;have KM:aK Z "Seen" (c.A .Seen) c:=T13.mke Bz Q_Seen;have Kz:aK Z "Count" (c.A .Count) c:=T13.mke Bz Q_Count;have Km:aK Z "Joined" (c.A .Joined) c:=T13.mke Bz Q_Joined;have J8:aK Z "NoSquare" (c.A .NoSquare) c:=T13.mke Bz Q_NoSquare;have KL:aK Z "Ring" (c.A .Ring) c:=T13.mke Bz Q_Ring;have T14:=AL Bz IT D14;have KK:EL Z c:=⟨fun i hi=>T14.at (c8 CC i) (at8 a14 i) fun _ _ _ _ h=>⟨i,h⟩⟩;have T15:=yS Bz Ij D15;have Iu:mh Z c:=⟨fun i hi=>T15.at (c8 CC i) (at8 a15 i) fun _ _ _ _ h=>⟨i,h⟩⟩;have T16:=xO Bz Ie D16;have IR:va Z c:=⟨fun i hi=>T16.at (c8 CC i) (at8 a16 i) fun _ _ _ _ h=>⟨i,h⟩⟩;have T17:=AM Bz Iz D17;have IJ:sE Z c:=⟨fun i hi=>T17.at (c8 CC i) (at8 a17 i) fun _ _ _ _ h=>⟨i,h⟩⟩;have T18:=vc Bz Ij D18;have Io:kf Z c:=⟨fun i hi=>T18.at (c8 CC i) (at8 a18 i) fun _ _ _ _ h=>⟨i,h⟩⟩;have Kk:=fk1 (k:=.Joined) rfl Ij;have Ku:=fk1 (k:=.Joined) rfl Iz;have T19_Joined:=kS (c:=(mk1 c .Joined)) Bz Kk Ku D19;have Kx:jd Z (mk1 c .Joined):=⟨fun i hi=>by cases o8 hi;exact T19_Joined.at Q_Joined.cl (at8 a19 .Joined) fun _ _ _ _ h=>⟨.Joined,h⟩⟩;have Ky:=fk1 (k:=.Ring) rfl Ij;have KF:=fk1 (k:=.Ring) rfl Iz;have T19_Ring:=kS (c:=(mk1 c .Ring)) Bz Ky KF D19;have KJ:jd Z (mk1 c .Ring):=⟨fun i hi=>by cases o8 hi;exact T19_Ring.at Q_Ring.cl (at8 a19 .Ring) fun _ _ _ _ h=>⟨.Ring,h⟩⟩;have T19:=kS Bz Ij Iz D19;have IH:jd Z c:=⟨fun i hi=>T19.at (c8 CC i) (at8 a19 i) fun _ _ _ _ h=>⟨i,h⟩⟩;have JT:=AN Bz Ke Jo D20;have T21:=wG (c:=c) Bz ID D21;have Iw:mf Z c d:=⟨fun i hi=>by cases i;exact T21.at Q_Puzzle.cl KS fun _ _ _ _ h=>h⟩;have T22:=wH (c:=c) Bz IU D22;have KB:B1 Z c d:=⟨fun i hi=>by cases i;exact T22.at Q_Puzzle.cl KU fun _ _ _ _ h=>h⟩;have T23:=wI (c:=c) Bz I0 D23;have IC:pr Z c d:=⟨fun i hi=>by cases i;exact T23.at Q_Puzzle.cl KW fun _ _ _ _ h=>h⟩;have Ih:=wJ Bz D24;have JQ:=yT Bz D25;have Ix:=AO Bz BX_divmod D26;have Ji:=yU Bz D27;have Jg:=yV Bz D28;have JK:=yW Bz D29;have JJ:=yX Bz D30;have Il:=qT Bz D31;have Ik:=tS Bz Ii D32;have Iv:=EO Bz Ja D33;have JU:=AR Bz Ja D34;have JW:=AS Bz Jp D35;have Jb:=C2 Bz Jp Iq D36;have Ic:=Bu Bz Iq D37;have IF:=C4 Bz Ii Ib D38;have Kg:=C5 Bz KK Je D39;have Ig:=EQ Bz Iu D40;have Iy:=Bv Bz Iq D41;have J9:=Bw Bz Iu D42;have Kp:=ER Bz Iu D43;have IY:=tT Bz IM D44;have Jz:=wN Bz IN Kf D45;have T46:=wO Bz Io D46;have T47:=AV Bz Ie Io D47;have T48:=wP Bz Io D48;have T49:=yY Bz Ie Io D49;have T50:=xP Bz Ie IH D50;have IA:=vd Bz JT D51;have JI:=yZ Bz Ii Ib D52;have JC:=xQ Bz Ix D53;have JX:=AW Bz Ix D54;have Ka:=Bx Bz Ik JG JB JH D55;have Jc:=C6 Bz JU Ib JV D56;have IL:=C7 Bz Iv D57;have KO:=Gx Bz JW Ib D58;have Ip:=By Bz Jb D59;have Ks:=ET Bz Jb D60;have KN:=Gy Bz Ic D61;have IG:=C9 Bz Ik D62;have Jq:=wS Bz Kg Ii IC Iu D63;have Jf:=ve Bz Ic D64;have JL:=y0 Bz Ic D65;have Ju:=wT Bz IO Ig Ic D66;have JF:=xR Bz IE Id Ig Ic IR D67;have Kq:=EV Bz Iv D68;have JS:=fk1 (k:=.Ring) rfl Im;have T69_Ring:=oU (c:=(mk1 c .Ring)) Bz Iv JS D69;have J7:m7 Z (mk1 c .Ring):=⟨fun i hi=>by cases o8 hi;exact T69_Ring.at Q_Ring.cl K6 fun _ _ _ _ h=>h⟩;have IV:=wU Bz IA D70;have JM:=y2 Bz Ib IA D71;have Kh:=Da Bz Kz Km J8 KL Kn KM K_Sum Ko D72;have Jm:=vf Bz JI D73;have Jh:=vg Bz JC Ix D74;have JA:=wV Bz JJ JX JK D75;have J4:=AZ Bz Jq IF IG Ii Iw KA D76;have Ir:=A0 Bz Ip D77;have Jt:=wW Bz Ip Ig D78;have Jj:=vh Bz IG Iy Id Ig Iu D79;have Jv:=wX Bz J9 Kp Jf JL D80;have IX:=tU Bz Jc D81;have II:=nk Bz Ip IF D82;have IS:=qU Bz IN IF IG Iw D83;have Kl:=fk1 (k:=.Joined) rfl Im;have T84_Joined:=kq (c:=(mk1 c .Joined)) Bz IL Kl D84;have Kj:lc Z (mk1 c .Joined):=⟨fun i hi=>by cases o8 hi;exact T84_Joined.at Q_Joined.cl K0 fun _ _ _ _ h=>⟨.Joined,h⟩⟩;have T84_Ring:=kq (c:=(mk1 c .Ring)) Bz IL JS D84;have Kv:lc Z (mk1 c .Ring):=⟨fun i hi=>by cases o8 hi;exact T84_Ring.at Q_Ring.cl K7 fun _ _ _ _ h=>⟨.Ring,h⟩⟩;have T85:=tV Bz JY Jc Im IH D85;have Kb:=BA Bz Ib JM Jr D86;have Jn:=vi Bz Ka D87;have J6:=A1 Bz Jg Jh Ji D88;have IW:=sR Bz Js Jt Ju Jj Jv KB Iw IC D89;have Jl:=vj Bz Iy Ir Id Ig IR IJ D90;have IZ:=tW Bz Ir Id IX IJ D91;have Jk:=vk Bz II Ig IL Iq IJ D92;have Jw:=wZ Bz Kq Iv Ip Iy Ir Id IJ D93;have IK:=oV Bz Iq IS D94;have T95_Joined:=w5 (c:=(mk1 c .Joined)) Bz Kj Kx D95;have T96_Ring:=y3 (c:=(mk1 c .Ring)) Bz J7 Kv KJ D96;have KC:B2 Z c:=⟨fun i hi=>by cases i with | Rule=>exact(Ly hi).elim | Unlike=>exact T46.at Q_Unlike.cl KY fun _ _ _ _ h=>h | Sum=>exact T47.at Q_Sum.cl La fun _ _ _ _ h=>h | Rising=>exact T48.at Q_Rising.cl KZ fun _ _ _ _ h=>h | Seen=>exact T49.at Q_Seen.cl K5 fun _ _ _ _ h=>h | Count=>exact T50.at Q_Count.cl K4 fun _ _ _ _ h=>h | Joined=>exact T95_Joined.at Q_Joined.cl K1 (fun vs H Q E h=>by obtain⟨r,p,f,ws,cs,xs,n,m,h,w,g,e,x,y⟩:=h;exact⟨r,p,f,ws,cs,xs,n,m,h,w,g,e,⟨rfl,x.ex⟩,y⟩) | NoSquare=>exact T85.at Q_NoSquare.cl KP fun _ _ _ _ h=>h | Ring=>exact T96_Ring.at Q_Ring.cl K8 (fun vs H Q E h=>by obtain⟨r,p,f,ws,cs,xs,n,m,h,w,g,e,x,y⟩:=h;exact⟨r,p,f,ws,cs,xs,n,m,h,w,g,e,⟨rfl,x.ex⟩,y⟩)⟩;have J3:=A2 Bz Kb IV Kh JD JE J0 D97;have Jx:=w6 Bz IE Id Ig Ic KN IY IM J1 KC D98;have IQ:=qx Bz Jk IZ Jw Iw IC D99;have JO:=y4 Bz J3 JN D100;have IP:=qy Bz Jl JF Jx IC D101;have T102:=sV Bz Jm Jn JO ID IU I0 D102;have Kt:lP Z "Puzzle" (d.A .Puzzle) c d:=T102.mke Bz Q_Puzzle;have Ki:=Db Bz IW IP IQ JP Jy D103;have Jd:=Dc Bz J4 Ki D104;have Kc:=BB Bz Jd Jz D105;have J5:=A3 Bz Ih JA Jd D106;have IB:=xS Bz IE Kc IK Ks D107;have JR:=EW Bz IB KO Iw D108;exact(HA Bz J5 Ih JQ Il J6 JR IB Kt F).imp fun vs H Q E h=>by obtain⟨a,ns,e,hS,hn,k⟩:=h;exact⟨a,ns,e,hS,hn,fun k hk=>by cases k <;> first | rfl | exact absurd rfl hk,rfl,k⟩
theorem walk {q:Program} {loose:List Str} {XP:(Str->Option Value)->Heap->Prop} {YP:World->Heap->Prop} {d:DefRec} {K:Params->Frag} (hn:l.most=some 63) (hdf:d.params.defaults=[])
  (hY:∀(w:World) (h:Heap),YP w h->(K w.params).In h)
  (F:∀(w:World) (mg:Str->Option Value) (fa:Addr) (h:Heap),(K w.params).In h->h.Ns mainGlobals mg->mg d.name=some (.ref fa)->
   ∃ fd:FuncData,(∀(s:Shared) (u:Value),BindsTo s fd ⟨[u],[]⟩ [("_law_script",u)])/\∀ base:Heap,(K w.params).In base->base.Ns mainGlobals mg->FnOk l.prog w (K w.params) mg base CX0 13 fa fd ["_law_script"] (xN (K w.params))):
  PySem.W.WalkO q loose XP YP l.row.toRowW d [] (fun f vs=>PySem.call f vs):=
 L2.FT (n:=63) (k:=13) (x:="_law_script") (CX:=fun _=>CX0) (sp:=fun w=>xN (K w.params)) hn (by decide) hdf ⟨rfl,by decide,by decide⟩ hY F (fun _ _ a ns hl _ hS=>⟨a,ns,rfl,hS,hl,fun _=>rfl⟩) fun _ _ _ _ _ z=>z
variable{P:Program}{w:World}{K:Frag}{mg:Str->Option Value}{base:Heap}
theorem tX {w:World} {K:Frag} {p:Addr} {ep:Nat} {dh0:Int} {dt0:Tok} {dq0:Addr} {dod0:Option Addr} {dn0:Nat} {dsl0:Array (Option Value)} {du0_0:Tok} {dh1:Int} {dt1:Tok} {dq1:Addr} {dod1:Option Addr} {dn1:Nat} {dsl1:Array (Option Value)} {du1_0:Tok} {dh2:Int} {dt2:Tok} {dq2:Addr} {dod2:Option Addr} {dn2:Nat} {dsl2:Array (Option Value)} {du2_0:Tok} {dh3:Int} {dt3:Tok} {dq3:Addr} {dod3:Option Addr} {dn3:Nat} {dsl3:Array (Option Value)} {du3_0:Tok} {dh4:Int} {dt4:Tok} {dq4:Addr} {dod4:Option Addr} {dn4:Nat} {dsl4:Array (Option Value)} {du4_0:Tok} {dh5:Int} {dt5:Tok} {dq5:Addr} {dod5:Option Addr} {dn5:Nat} {dsl5:Array (Option Value)} {du5_0:Tok} {dh6:Int} {dt6:Tok} {dq6:Addr} {dod6:Option Addr} {dn6:Nat} {dsl6:Array (Option Value)} {du6_0 du6_1:Tok} {dh7:Int} {dt7:Tok} {dq7:Addr} {dod7:Option Addr} {dn7:Nat} {dsl7:Array (Option Value)} {du7_0:Tok} {dh8:Int} {dt8:Tok} {dq8:Addr} {dod8:Option Addr} {dn8:Nat} {dsl8:Array (Option Value)} {du8_0:Tok}
  (a:nsIn K mainGlobals "RULES_OF_KIND"=some (some (.ref p))) (b:K.lookup p=some ⟨.type "dict",none,.dict #[⟨dh0,.str (tx [111,110,108,121]) dt0,.ref dq0⟩,⟨dh1,.str (tx [112,108,97,99,101]) dt1,.ref dq1⟩,⟨dh2,.str (tx [99,111,117,110,116]) dt2,.ref dq2⟩,⟨dh3,.str (tx [115,116,101,112]) dt3,.ref dq3⟩,⟨dh4,.str (tx [115,117,109]) dt4,.ref dq4⟩,⟨dh5,.str (tx [115,113,117,97,114,101]) dt5,.ref dq5⟩,⟨dh6,.str (tx [114,101,97,99,104]) dt6,.ref dq6⟩,⟨dh7,.str (tx [116,117,114,110]) dt7,.ref dq7⟩,⟨dh8,.str (tx [112,97,105,114]) dt8,.ref dq8⟩] ep,#[]⟩) (k0:K.lookup dq0=some ⟨.type "tuple",dod0,.seq #[.str (tx [117,110,108,105,107,101]) du0_0] dn0,dsl0⟩) (h0:dh0=hashStr w (tx [111,110,108,121])) (k1:K.lookup dq1=some ⟨.type "tuple",dod1,.seq #[.str (tx [117,110,108,105,107,101]) du1_0] dn1,dsl1⟩) (h1:dh1=hashStr w (tx [112,108,97,99,101])) (k2:K.lookup dq2=some ⟨.type "tuple",dod2,.seq #[.str (tx [99,111,117,110,116]) du2_0] dn2,dsl2⟩) (h2:dh2=hashStr w (tx [99,111,117,110,116])) (k3:K.lookup dq3=some ⟨.type "tuple",dod3,.seq #[.str (tx [114,105,115,105,110,103]) du3_0] dn3,dsl3⟩) (h3:dh3=hashStr w (tx [115,116,101,112])) (k4:K.lookup dq4=some ⟨.type "tuple",dod4,.seq #[.str (tx [115,117,109]) du4_0] dn4,dsl4⟩) (h4:dh4=hashStr w (tx [115,117,109])) (k5:K.lookup dq5=some ⟨.type "tuple",dod5,.seq #[.str (tx [110,111,115,113,117,97,114,101]) du5_0] dn5,dsl5⟩) (h5:dh5=hashStr w (tx [115,113,117,97,114,101])) (k6:K.lookup dq6=some ⟨.type "tuple",dod6,.seq #[.str (tx [106,111,105,110,101,100]) du6_0,.str (tx [114,105,110,103]) du6_1] dn6,dsl6⟩) (h6:dh6=hashStr w (tx [114,101,97,99,104])) (k7:K.lookup dq7=some ⟨.type "tuple",dod7,.seq #[.str (tx [114,105,110,103]) du7_0] dn7,dsl7⟩) (h7:dh7=hashStr w (tx [116,117,114,110])) (k8:K.lookup dq8=some ⟨.type "tuple",dod8,.seq #[.str (tx [117,110,108,105,107,101]) du8_0] dn8,dsl8⟩) (h8:dh8=hashStr w (tx [112,97,105,114])):GD0 w K "RULES_OF_KIND" gd_RULES_OF_KIND:=
 ⟨p,_,_,_,a,b,⟨rfl,rfl,rfl⟩,rfl,(.cons h0 k0 rfl rfl (Mj (aH (Mt rfl))) (.cons ⟨_,rfl⟩ .nil) (.cons h1 k1 rfl rfl (Mj (aH (Mt rfl))) (.cons ⟨_,rfl⟩ .nil) (.cons h2 k2 rfl rfl (Mj (aH (Mt rfl))) (.cons ⟨_,rfl⟩ .nil) (.cons h3 k3 rfl rfl (Mj (aH (Mt rfl))) (.cons ⟨_,rfl⟩ .nil) (.cons h4 k4 rfl rfl (Mj (aH (Mt rfl))) (.cons ⟨_,rfl⟩ .nil) (.cons h5 k5 rfl rfl (Mj (aH (Mt rfl))) (.cons ⟨_,rfl⟩ .nil) (.cons h6 k6 rfl rfl (Mj (aH (Mt rfl))) (.cons ⟨_,rfl⟩ (.cons ⟨_,rfl⟩ .nil)) (.cons h7 k7 rfl rfl (Mj (aH (Mt rfl))) (.cons ⟨_,rfl⟩ .nil) (.cons h8 k8 rfl rfl (Mj (aH (Mt rfl))) (.cons ⟨_,rfl⟩ .nil) .nil))))))))),by decide+kernel⟩
end L2
open PySem PySem.W PyProof.Rows
namespace PySem.W.Fast
def tw1822886986428679625:=()
def tw7891791888359422436:=()
def tw13856544006738669697:=()
def tw5585088105356044179:=()
def tw17588624406995690965:=()
def tw15144948414273249184:=()
def tw9662319416048529155:=()
def tw12193699269559232280:=()
def tw9624550961200598679:=()
def tw17020721403724670884:=()
def tw19476426393772603:=()
def tw9194798791951302004:=()
def tw8964370106571813700:=()
def tw9322591182421732479:=()
def tw14763855815079172529:=()
def tw4637543111102542420:=()
def tw764908506942424900:=()
def tw10142557343782825113:=()
def tw14136690570238369209:=()
def tw12082013146555286183:=()
def tw2826594410912127022:=()
def tw3423384629759965992:=()
def tw9865701792793788649:=()
def tw8469455049899484616:=()
def tw2684986829956875055:=()
def tw4107671039507844875:=()
def tw14400316508376519659:=()
def tw10485540142995451163:=()
def tw8858649489790316190:=()
def tw10789154658138201942:=()
def tw3079223211999135975:=()
def tw3787899387824020377:=()
def tw15412227998568355200:=()
def tw5327365898045750961:=()
def tw15219641813757909339:=()
def tw3611715065626364272:=()
def tw5257611104431043787:=()
def tw380071836102335608:=()
def tw18100356887485060311:=()
def tw9085634410244750455:=()
def tw5811517469277990102:=()
def tw15130472313193221117:=()
def tw11165892865994007476:=()
def tw7636108582706654581:=()
def tw17405071272373492485:=()
def tw8340021322991046020:=()
def tw9860436438289509883:=()
def tw4913156124686491971:=()
def tw16000992106568144836:=()
def tw7490946210911929128:=()
def tw4314310104708570340:=()
def tw3879854709173592837:=()
def tw5071341554602013479:=()
def tw6919535631056290050:=()
def tw12630782769033606871:=()
def tw11180917731716412541:=()
def tw1346865990115993140:=()
def tw9974724946171939533:=()
def tw15050075902796979567:=()
def tw9220025758112011874:=()
def tw9622730605939155549:=()
def tw3178895621996848345:=()
def tw5510181850069088359:=()
def tw10307211228901868279:=()
def tw4319186560217250854:=()
def tw6410437929055445675:=()
def tw7277963162805760503:=()
def tw11335150362132777113:=()
def tw13819320244408080738:=()
def tw6869548088127997189:=()
def tw12342928603663089700:=()
def tw4061010661502488075:=()
def tw489196364367639608:=()
def tw15536860214526523324:=()
def tw5170401974627061921:=()
def tw15774093290556599435:=()
def tw14601212891558474308:=()
def tw18400894211118469410:=()
def tw4546479123385997406:=()
def tw7635928906727263915:=()
def tw4406696621628850107:=()
def tw9829369920705982086:=()
def tw7197563053537075794:=()
def tw5802769147620618231:=()
def tw1057999264127036589:=()
def tw15287671814664013897:=()
def tw6707219419660820165:=()
def tw356339333314103633:=()
def tw16037328957273833637:=()
def tw1839330516395619565:=()
def tw12489474726398331191:=()
def tw16153822723241271797:=()
def tw16302145813867589575:=()
def tw14249975854501739616:=()
def tw4102084357524768914:=()
def tw5024204001442318188:=()
def tw15203884483224177271:=()
def tw6954039565847745045:=()
def tw10022937877239455453:=()
def tw11073426947622643446:=()
def tw3535964758349472311:=()
def tw16757596560821291756:=()
def tw5640460576959250799:=()
def tw11952901664397579979:=()
def tw12901356648870674994:=()
def tw17178040240814111232:=()
def tw6997358118969574462:=()
def tw11693712437905237781:=()
def tw799419525895814666:=()
def tw15753974872519613351:=()
def tw13905554255417841548:=()
def tw2792364884916263484:=()
def tw10307806284907079891:=()
def tw14679214721855110543:=()
def tw18338701863573120052:=()
def tw1496801612111022072:=()
def tw6269459071557412615:=()
def tw14396676160294428543:=()
def tw8316269932036737088:=()
def tw3193785511348055529:=()
def tw17544171250905193215:=()
def tw18413121589042616639:=()
def tw18205061762530442243:=()
def tw6876435221198004:=()
def tw648340744116838719:=()
def tw16299328845628138948:=()
def tw8053225501769482874:=()
def tw357186588636812292:=()
def tw1576827365566865855:=()
def tw12231825710672303666:=()
def tw4425236660707641042:=()
def tw1053571760272776256:=()
def tw15788672398600904349:=()
def tw6110946561146931272:=()
def tw17768679633928015451:=()
def tw5816756675575476128:=()
def tw14487090642295247671:=()
def tw9074474118920165796:=()
def tw13109431475582152564:=()
def tw2559310753035967922:=()
def tw3088190654865097423:=()
def tw5235277929897438965:=()
def tw11030067749344609545:=()
def tw9154932003444150845:=()
def tw3373650860704750174:=()
def tw864539044497808948:=()
def tw3004238449079642183:=()
def tw7328292264236232788:=()
def tw2409343954844679188:=()
def tw8472858299172939326:=()
def tw4323679171623066427:=()
def tw4270594330057279542:=()
def tw5949971748016270868:=()
def tw9134229095364624730:=()
def tw5276616255092444477:=()
def tw7357808999501223068:=()
def tw7762242374807527099:=()
def tw17335785657497497949:=()
def tw8837749449469779344:=()
def tw17241204102906642439:=()
def tw8545204748757078363:=()
def tw18119497676198103355:=()
def tw781281988330099799:=()
def tw13051462493955878816:=()
def tw10791520024762234272:=()
def tw13566164414563974867:=()
def tw4671217827695593009:=()
def tw12926623991751749441:=()
def tw4711672521987595969:=()
def tw5137201416116736426:=()
def tw5548786239760697386:=()
def tw4590710944204979172:=()
def tw4486354011952420265:=()
def tw13150696063286777216:=()
def tw18094974029529951457:=()
def tw1630159521659137717:=()
def tw5748306298107144954:=()
def tw9782017613719334385:=()
def tw2413791553355255028:=()
def tw18185205602405661953:=()
def tw4165076075778980473:=()
def tw17812825006651543367:=()
def tw9120319185392115658:=()
def tw10174240172016704820:=()
def tw7008581660294871496:=()
def tw1346163072821175829:=()
def tw2310092885717634890:=()
def tw8917852418995568378:=()
def tw4984940059600827138:=()
def tw7410975188014235674:=()
def tw15292013469875438742:=()
def tw13479869731541449135:=()
def tw1470130119101445001:=()
def tw16094653009144010721:=()
def tw8966459155038937249:=()
def tw4440155873618045647:=()
def tw16783995519903777724:=()
def tw7042942324953228707:=()
def tw12724742297879139321:=()
def tw15639104881549956651:=()
def tw13018837845170132037:=()
def tw6640552152736643129:=()
def tw763337973426661046:=()
def tw13929944982610513034:=()
def tw8085110163271337111:=()
def tw88782502737764679:=()
def tw17919912726368973458:=()
def tw2843922521807197331:=()
def tw9676703294822181822:=()
def tw4194920913689241041:=()
def tw8995467088577723690:=()
def tw17563248389483424205:=()
def tw7811245343885358530:=()
def tw11228644942046266911:=()
def tw5700084699996148974:=()
def tw9246720986038607592:=()
def tw14440397179912625318:=()
def tw3897639929473398521:=()
def tw4967696159209187238:=()
def tw12264779840067775565:=()
def tw3271320995957471765:=()
def tw13424885502029947276:=()
def tw4769054017474691609:=()
def tw13889245799524082607:=()
def tw5040336884578240921:=()
def tw16488907419463832045:=()
def tw3482226990365393789:=()
def tw11593901175187023101:=()
def tw13052042452252824830:=()
def tw5864358793658371237:=()
def tw12857067381340821803:=()
def tw13884308574455517034:=()
def tw6688752340402801485:=()
def tw14414146858605424983:=()
def tw2479631200624162889:=()
def tw15289987892890888602:=()
def tw14759319402777212544:=()
def tw3229715366482283349:=()
def tw13423996508647927117:=()
def tw2266987951745851191:=()
def tw4756800205915965780:=()
def tw5796975693735129927:=()
def tw4637185771465885393:=()
def tw9617207915374998242:=()
def tw15430799525879952925:=()
def tw2965839472398607095:=()
def tw17946994783711013141:=()
def tw297286716235984869:=()
def tw12406533953142360470:=()
def tw17421106754444772052:=()
def tw10403278951099766006:=()
def tw10709677862567163542:=()
def tw15312333284201497386:=()
def tw10086031164068447822:=()
def tw15797451959177179669:=()
def tw11927407770507250550:=()
def tw13860643996070795110:=()
def tw6579011338249053676:=()
def tw15469152332812107037:=()
def tw8147447410076332851:=()
def tw4905662302340433307:=()
def tw7843505900910116541:=()
def tw18350221888908471641:=()
def tw7851827096291880183:=()
def tw17846208763624697391:=()
def tw8076875460836234638:=()
def tw2758731836863231493:=()
def tw14748308844022111716:=()
def tw5486592257716697206:=()
def tw11967780850121930656:=()
def tw9421349033241466606:=()
def tw16526194726216498693:=()
def tw797334390286073112:=()
def tw18041364126936076426:=()
def tw8409788277453301030:=()
def tw9246446651317511651:=()
def tw5305343243798656227:=()
def tw9044154316578678510:=()
def tw8018607825730272404:=()
def tw1009197866982826262:=()
def tw6564968952942664011:=()
def tw8259083691122987670:=()
def tw6983158922079664728:=()
def tw10880364937104304041:=()
def tw17696156567399158707:=()
def tw16707126021404648899:=()
def tw12575691101546070666:=()
def tw14236878110886407678:=()
def tw13020021110362160497:=()
def tw8550110391811290647:=()
def tw1392623996532179971:=()
def tw11635098000351731123:=()
def tw518091910409554776:=()
def tw9976157037286676918:=()
def tw4535578907585540193:=()
def tw655844214283450063:=()
def tw16566952106189448682:=()
def tw6020135381579600498:=()
def tw6941383449410158036:=()
def tw9206132441473218049:=()
def tw13226118288605216660:=()
def tw14320270966410476443:=()
def tw14492459309361373475:=()
def tw1076937576510924664:=()
def tw7066091241717463334:=()
def tw11917227697467595491:=()
def tw7221097852158513992:=()
def tw16824587873159239822:=()
def tw14801743518248767895:=()
def tw9105291228804534805:=()
def tw3691618928591584907:=()
def tw5944008839266011207:=()
def tw12266174773401802886:=()
def tw1659897287523263237:=()
def tw785875847378590254:=()
def tw11568557285980114355:=()
def tw13393353565043966522:=()
def tw15086369048041387287:=()
def tw6457680829344170653:=()
def tw2539324986296545184:=()
def tw7357278114075339147:=()
def tw14762251928279621344:=()
end PySem.W.Fast
set_option maxRecDepth 100000 in
set_option maxHeartbeats 0 in
theorem PySem.Challenge.cw_cluemaker_k40_a_book_followed_holds : PySem.Challenge.rw_cluemaker_k40_a_book_followed.Holds := by
  w_on; o_law; k_head; (case hw => w_witness2)
  k_fill
  refine L2.walk (l := PySem.Challenge.rw_cluemaker_k40_a_book_followed) rfl rfl (fun w h Y => PySem.W.kIn_of Y) ?F
  case F =>
    intro w mg fa h KX G hmg
    refine' L2.HB KX G hmg ?_ ?_ ?_ ?_ ?_ ?_ ?_ ?_ ?_ ?_ ?_ ?_ ?_ ?_ ?_ ?_ ?_ ?_ ?_ ?_ ?_ ?_ ?_ ?_ ?_ ?_ ?_ ?_ ?_ ?_ ?_ ?_ ?_ ?_ ?_ ?_ ?_ ?_ ?_ ?_ ?_ ?_ ?_ ?_ ?_ ?_ ?_ ?_ ?_ ?_ ?_ ?_ ?_ ?_ ?_ ?_ ?_ ?_ ?_ ?_ ?_ ?_ ?_ ?_ ?_ ?_ ?_ ?_ ?_ ?_ ?_ ?_ ?_ ?_ ?_ ?_ ?_ ?_ ?_ ?_ ?_ ?_ ?_ ?_ ?_ ?_ ?_ ?_ ?_ ?_ ?_ ?_ ?_ ?_ ?_ ?_ ?_ ?_ ?_ ?_ ?_ ?_ ?_ ?_ ?_ ?_ ?_ ?_ ?_ ?_ ?_ ?_ ?_ ?_ ?_ ?_ ?_ ?_ ?_ ?_ ?_ ?_ ?_ ?_ ?_ ?_ ?_ ?_ ?_ ?_ ?_ ?_ ?_ ?_ ?_ ?_ ?_ ?_ ?_ ?_ ?_ ?_ ?_ ?_ ?_ ?_ ?_ ?_ ?_ ?_ ?_ ?_ ?_ ?_ ?_ ?_ ?_ ?_ ?_ ?_ ?_ ?_ ?_ ?_ ?_
    all_goals first
      | (refine' L2.De.of ?a (L2.Dx ?l ?c ?k); (case a => k_is); (case l => k_is); (case c => k_is); case k => k_is)
      | (refine' L2.Me.of (L2.Dx ?l ?c ?k) ?n; (case l => k_is); (case c => k_is); (case k => k_is); case n => k_is)
      | (refine' L2.ClsP.mk ?a ?b ?c ?d ⟨?e, ?f, ?g, ?h⟩; (case a => k_is); (case b => k_is); (case c => k_is); (case d => k_is); (case e => k_is); (case f => k_is); (case g => k_is); case h => k_is)
      | (unfold L2.At8; refine' ⟨?_, ?_, ?_, ?_, ?_, ?_, ?_, ?_⟩ <;> k_is)
      | (refine' L2.GT0.mk' ?a ?b ?x ?y ?c ?d; (case a => k_is); (case b => k_is); (case x => rfl); (case y => rfl); (case c => exact Nat.le_of_lt (L2.aH (by decide))); (case d => repeat' (first | exact .nil | refine' .cons ⟨_, rfl⟩ ?_)))
      | (refine' L2.tX ?a ?b ?k0 ?h0 ?k1 ?h1 ?k2 ?h2 ?k3 ?h3 ?k4 ?h4 ?k5 ?h5 ?k6 ?h6 ?k7 ?h7 ?k8 ?h8; (case a => k_is); (case b => k_is); (case k0 => k_is); (case h0 => first | exact rfl | with_unfolding_all rfl); (case k1 => k_is); (case h1 => first | exact rfl | with_unfolding_all rfl); (case k2 => k_is); (case h2 => first | exact rfl | with_unfolding_all rfl); (case k3 => k_is); (case h3 => first | exact rfl | with_unfolding_all rfl); (case k4 => k_is); (case h4 => first | exact rfl | with_unfolding_all rfl); (case k5 => k_is); (case h5 => first | exact rfl | with_unfolding_all rfl); (case k6 => k_is); (case h6 => first | exact rfl | with_unfolding_all rfl); (case k7 => k_is); (case h7 => first | exact rfl | with_unfolding_all rfl); (case k8 => k_is); case h8 => first | exact rfl | with_unfolding_all rfl)
      | (unfold L2.Zn; refine' ⟨?_, ?_, ?_, ?_, ?_, ?_, ?_, ?_, ?_, ?_, ?_, ?_, ?_, ?_, ?_, ?_, ?_, ?_, ?_⟩ <;> (unfold L2.Nn; k_is))
      | (unfold L2.Nn; k_is)
      | k_is
      | skip
