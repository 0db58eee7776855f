import PyProof.Rows.All
import Wide.All
import OpenK.AllK
import Wide.FinOn
import Lean
import PyProof.EqAt
import PyProof.EqKinds
import PyProof.TupleCall
import PyProof.ZipIter
import PyProof.ConsumeS
import PyProof.StrCalls2
import PyProof.StrWalks
import PyProof.SliceStr2
import PyProof.StrBlock
import PyProof.StrBlockL
import PyProof.ListIndex
import PyProof.StrLawsTight
import PyProof.StrLawsChain
import PyProof.StrLaws
import PyProof.StrLawsFirst
import PyProof.StationsW
import PyProof.ExcClass3
import PyProof.NsDelKeeps
import PyProof.RulesAs
import PyProof.ExcBaseAll.ValueError
import PyProof.ExcArgsOwn
import PyProof.ExcAttrAll.ValueError
import KE.KTryMore
import KE.RegKTryMore
import KE.RegKIsAll
import PyProof.Rows.Range3
import PyProof.Rows.SumGenD
import PyProof.Rows.RuleM_int
import PyProof.EnumMake
import PyProof.EnumFor
import PyProof.EnumStmt
import PyProof.Rows.EnumRows
import KE.KRevIter
import PyProof.ListNew
import PyProof.CollectIter
import PyProof.ListRange
import PyProof.CallStr
import PyProof.StrBlock2
import PyProof.Rows.StrMadeLen
import PyProof.Rows.SetFrom
import PyProof.SetRoads
import PyProof.MeetsStr2
import KE.KRevSl
import PyProof.Conv_int
import PyProof.WalkInts
import PyProof.Rows.SeqMore
import PySem.Challenge.RW_cluemaker_k62_a_hint
set_option Elab.async false
set_option linter.all false
set_option maxRecDepth 100000
open PySem.W (Frag nsIn findIn fnOf isFn codeIn keepIn)
set_option maxHeartbeats 40000000
namespace L2
open PySem PySem.Spec PyProof.Rows
abbrev Mr:=@List.length_map
abbrev Mt:=@List.getElem?_eq_getElem
abbrev Mu:=@decide_eq_false
abbrev Mv:=@decide_eq_true
abbrev Mx:=@decide_eq_true_eq
abbrev My:=@List.getElem?_eq_some_iff
abbrev Mz:=@List.mem_of_getElem?
abbrev MA:=@List.getElem?_map
abbrev MC:=@List.all_eq_true
abbrev MD:=@List.mem_cons_self
abbrev ME:=@Bool.false_ne_true
abbrev MF:=@List.mem_range
abbrev MG:=@of_decide_eq_true
abbrev MH:=@Bool.and_eq_true
abbrev MI:=@List.mem_cons_of_mem
abbrev MJ:=@List.mem_map
abbrev MK:=@List.mem_filter
abbrev ML:=@Nat.le_trans
abbrev MM:=@List.length_filter_le
abbrev MN:=@List.mem_singleton
abbrev MP:=@if_neg
abbrev MQ:=@Bool.false_and
abbrev MR:=@Bool.true_and
abbrev MS:=@List.mem_cons
abbrev MT:=@List.getElem_mem
abbrev MU:=@if_pos
abbrev MV:=@Heap.get?_push_of_some
abbrev MW:=@Nat.le_refl
abbrev MX:=@List.size_toArray
abbrev MY:=@PySem.F.plainAttrs_list
abbrev MZ:=@Bool.eq_iff_iff
abbrev M0:=@List.mem_append
abbrev M3:=@List.length_cons
abbrev M4:=@List.map_cons
abbrev M5:=@Heap.lt_size
abbrev M6:=@List.length_append
abbrev M7:=@List.getElem?_eq_none
abbrev M8:=@PassesOwn.never
abbrev M9:=@Nat.lt_of_lt_of_le
abbrev Na:=@List.map_map
abbrev Nb:=@wpAny_bind
abbrev Nc:=@List.getElem?_append_left
abbrev Nd:=@List.filter_append
abbrev Nf:=@Heap.get?_push_size
abbrev Ng:=@PySem.F.slot_list_append
abbrev Nh:=@PySem.F.type_list_append
abbrev Ni:=@List.filter_cons
abbrev Nj:=@Nat.le_of_lt
abbrev Nk:=@List.getElem?_append_right
abbrev Nl:=@Nat.ne_of_lt
abbrev Nm:=@List.nodup_cons
abbrev No:=@wpAny_pure
abbrev Np:=@List.mem_append_right
abbrev Nq:=@Nat.le_of_ble_eq_true
abbrev Nr:=@List.lookup_cons
abbrev Nt:=@List.take_length
abbrev Nu:=@Nat.zero_le
abbrev Nv:=@List.length_range
abbrev Nw:=@PyProof.Rows.callWith_type1
abbrev Ny:=@List.getElem?_range
abbrev Nz:=@Bool.not_eq_true'
abbrev NA:=@List.eq_nil_of_length_eq_zero
abbrev NB:=@List.range_succ
abbrev NC:=@Bool.false_or
abbrev ND:=@PySem.mem_of_lookup
abbrev NE:=@decide_eq_false_iff_not
abbrev NF:=@wpAny_mono
abbrev NG:=@Nat.lt_of_le_of_lt
abbrev NH:=@Int.emod_lt_of_pos
abbrev NI:=@PySem.W.kia_one
abbrev NJ:=@List.foldl_cons
abbrev NK:=@List.take_of_length_le
abbrev NL:=@List.append_assoc
abbrev NM:=@List.take_add_one
abbrev NN:=@List.map_id'
abbrev NO:=@List.length_take
abbrev NP:=@List.not_mem_nil
abbrev NQ:=@PySem.F.slot_list_index
abbrev NR:=@PySem.F.type_list_index
abbrev NS:=@Nat.lt_irrefl
abbrev NT:=@Option.map_eq_some_iff
abbrev NU:=@Int.toNat_natCast
abbrev NV:=@Int.emod_nonneg
abbrev NW:=@List.drop_eq_getElem_cons
abbrev NX:=@wpAny_Call_Name_kw
abbrev NY:=@List.mem_iff_getElem
abbrev NZ:=@wpAny_truthy_bool
abbrev N0:=@Nat.lt_succ_of_lt
abbrev N1:=@List.ext_getElem?
abbrev N4:=@List.filter_cons_of_pos
abbrev N5:=@Option.some.inj
abbrev N6:=@List.countP_eq_length_filter
abbrev N7:=@List.replicate_succ
abbrev N8:=@List.set_set
abbrev N9:=@List.sum_cons
abbrev Oa:=@Bool.not_true
abbrev Ob:=@List.any_eq_true
abbrev Oc:=@Bool.not_false
abbrev Od:=@wpAny_passesOwn
abbrev Oe:=@List.find?_cons
abbrev Of:=@List.nodup_append
abbrev Og:=@Int.zero_add
abbrev Oh:=@List.foldl_append
abbrev Oi:=@List.filter_eq_self
abbrev Oj:=@Heap.size_push
abbrev Ol:=@wpAny_getItem_str_slice
abbrev Om:=@Int.eq_ofNat_of_zero_le
abbrev On:=@List.filter_cons_of_neg
abbrev Oo:=@call_meets
abbrev Op:=@List.all_map
abbrev Oq:=@PySem.F.plainAttrs_str
abbrev Os:=@Bool.or_eq_true
abbrev Ot:=@List.filter_map
abbrev Ov:=@List.any_cons
abbrev Ow:=@List.length_replicate
abbrev Ox:=@List.flatten_cons
abbrev Oy:=@beq_iff_eq
abbrev Oz:=@Int.ediv_emod_unique
abbrev OA:=@Int.mul_nonneg
abbrev OB:=@List.take_succ
abbrev OC:=@beq_eq_false_iff_ne
abbrev OD:=@Array.length_toList
abbrev OE:=@Nat.add_le_add_left
abbrev OF:=@List.map_congr_left
abbrev OG:=@List.map_append
abbrev OH:=@Calls.spliced_cons
abbrev OI:=@tupleKind_room_in1
abbrev OJ:=@List.mem_replicate
abbrev OK:=@List.length_eq_zero_iff
abbrev OL:=@wpAny_pyIter_list
abbrev OM:=@Calls.spliced_nil
abbrev ON:=@Bool.true_or
abbrev OO:=@List.nodup_nil
abbrev OP:=@List.findIdx_lt_length_of_exists
abbrev OQ:=@List.length_filter_eq_length_iff
abbrev OR:=@builtinLookup_eq_fast
abbrev OS:=@PySem.F.slot_str_join
abbrev OT:=@PySem.F.type_str_join
abbrev OU:=@Nat.lt_succ_self
abbrev OV:=@PyProof.Rows.callWith_builtin1
abbrev OW:=@typeIs_str
abbrev OX:=@Nat.le_add_right
abbrev OY:=@List.find?_eq_some_iff_getElem
abbrev OZ:=@List.drop_length
abbrev O0:=@List.all_cons
abbrev O1:=@Bool.and_self
abbrev O3:=@List.mem_append_left
abbrev O4:=@Nat.le_succ
abbrev O5:=@or_false
abbrev O6:=@Nat.mul_le_mul_right
abbrev O8:=@wpAny_execs_nil
abbrev O9:=@pushCells_keeps
abbrev Pa:=@post_val_or_str
abbrev Pb:=@List.filterMap_cons
abbrev Pc:=@PySem.W.plainGet_of
abbrev Pd:=@ne_true_of_eq_false
abbrev Pe:=@List.flatMap_append
abbrev Pf:=@List.mergeSort_perm
abbrev Pg:=@Ne.symm
abbrev Ph:=@Nat.ne_of_gt
abbrev Pi:=@PySem.F.slot_int_bit_length
abbrev Pj:=@PySem.F.type_int_bit_length
abbrev Pk:=@Calls.Name_function_global
abbrev Pl:=@Int.fdiv_eq_ediv_of_nonneg
abbrev Pm:=@PySem.W.callWith_K
abbrev Pn:=@F.args_str_split_2
abbrev Po:=@List.pairwise_cons
abbrev Pp:=@List.map_replicate
abbrev Pq:=@List.filter_filter
abbrev Pr:=@PySem.F.slot_dict_getitem
abbrev Ps:=@Array.getElem?_eq_getElem
abbrev Pt:=@Decidable.byContradiction
abbrev Pu:=@List.mem_of_find?_eq_some
abbrev Pw:=@Classical.byContradiction
abbrev Px:=@List.any_eq_false
abbrev Py:=@Option.isSome_map
abbrev Pz:=@F.entry_str_split
abbrev PB:=@List.filter_congr
abbrev PC:=@wpAny_holding
abbrev PD:=@wpAny_comprehension_free
abbrev PF:=@PySem.F.slot_list_extend
abbrev PH:=@PySem.F.type_list_extend
abbrev PJ:=@F.slot_str_split
abbrev PK:=@List.nodup_range
abbrev PL:=@Nat.min_eq_right
abbrev PM:=@List.ext_getElem
abbrev PN:=@List.mem_flatMap
abbrev PP:=@decide_eq_decide
abbrev PQ:=@List.getElem?_set_self
abbrev PR:=@PySem.W.cellsFrom_some
abbrev PU:=@subscriptTail_builtinR
abbrev PV:=@Calls.callWith_builtin
abbrev PX:=@Txt.slice_le
abbrev PY:=@List.length_pos_of_mem
abbrev PZ:=@List.drop_eq_nil_of_le
abbrev P0:=@PySem.F.plainAttrs_int
abbrev P1:=@List.append_nil
abbrev P2:=@List.of_mem_zip
abbrev P3:=@typeLookup_type
abbrev P4:=@List.length_singleton
abbrev P5:=@Array.getElem?_toList
abbrev P6:=@Int.mul_ediv_add_emod
abbrev P7:=@PySem.W.methodCall_KW
abbrev P8:=@List.take_append_drop
abbrev P9:=@List.countP_mono_left
abbrev Qb:=@Nat.mul_le_mul
abbrev Qc:=@Paired.length
abbrev Qd:=@wpAny_standAt
abbrev Qe:=@List.map_take
abbrev Qg:=@codeAny_mono
abbrev Qh:=@if_true
abbrev Qi:=@Nat.succ_mul
abbrev Qj:=@Int.ne_of_gt
abbrev Qk:=@List.any_map
abbrev Ql:=@decide_false
abbrev Key:=Sum Int Str
def keyIs:Key->Value->Bool
 | .inl k,v=>Value.isInt k v
 | .inr x,v=>Value.isStrOf x v
def keyH(w:World):Key->Int
 | .inl k=>hashInt k
 | .inr x=>hashStr w x
theorem bS:∀{k:Key} {v:Value},keyIs k v=true->(∃ i t,k=Sum.inl i/\v=Value.int i t)\/(∃ x t,k=Sum.inr x/\v=Value.str x t)
 | .inl i,v,h=>by
  obtain⟨t,e⟩:=Value.isInt_shape (k:=i) (v:=v) h;exact .inl ⟨i,t,rfl,e⟩
 | .inr x,v,h=>by
  obtain⟨t,e⟩:=Value.isStrOf_shape (x:=x) (v:=v) h;exact .inr ⟨x,t,rfl,e⟩
theorem DH(i:Int)(t:Tok):keyIs (.inl i) (.int i t)=true:=by simp[keyIs,Value.isInt]
theorem DI(x:Str)(t:Tok):keyIs (.inr x) (.str x t)=true:=by simp[keyIs,Value.isStrOf]
theorem Hi(a b:Int):decide ((Sum.inl a:Key)=Sum.inl b)=(a==b):=by
 by_cases e:a=b
 . subst e;simp
 . have h:¬ (Sum.inl a:Key)=Sum.inl b:=fun q=>e (Sum.inl.inj q);rw[Mu h];exact(OC.mpr e).symm
theorem Hj(a b:Str):decide ((Sum.inr a:Key)=Sum.inr b)=decide (a=b):=by
 by_cases e:a=b
 . subst e;simp
 . have h:¬ (Sum.inr a:Key)=Sum.inr b:=fun q=>e (Sum.inr.inj q);rw[Mu h,Mu e]
theorem Hk(a:Int)(b:Str):decide ((Sum.inl a:Key)=Sum.inr b)=false:=Mu (fun q=>nomatch q)
theorem Hl(a:Str)(b:Int):decide ((Sum.inr a:Key)=Sum.inl b)=false:=Mu (fun q=>nomatch q)
def ck(prog:Program)(w:World):PySem.KeyKind prog w Key where
 is:=keyIs
 hash:=keyH w
 inj:=fun v a b ha hb=>by
  rcases bS ha with ⟨i,t,rfl,rfl⟩ | ⟨x,t,rfl,rfl⟩
  . rcases bS hb with ⟨j,u,rfl,e⟩ | ⟨y,u,rfl,e⟩
    . injection e with e1 _;rw[e1]
    . exact nomatch e
  . rcases bS hb with ⟨j,u,rfl,e⟩ | ⟨y,u,rfl,e⟩
    . exact nomatch e
    . injection e with e1 _;rw[e1]
 byValue:=fun k v h=>by
  rcases bS h with ⟨i,t,rfl,rfl⟩ | ⟨x,t,rfl,rfl⟩ <;> rfl
 pyHash:=fun hv h=>by
  rcases bS hv with ⟨i,t,rfl,rfl⟩ | ⟨x,t,rfl,rfl⟩
  . exact wpAny_pyHash_int h
  . exact wpAny_pyHash_str h
 eqBool:=fun hu hv h=>by
  rcases bS hu with ⟨i,t,rfl,rfl⟩ | ⟨x,t,rfl,rfl⟩
  . rcases bS hv with ⟨j,u,rfl,rfl⟩ | ⟨y,u,rfl,rfl⟩
    . rw[Hi] at h;exact wpAny_eqBool_int h
    . rw[Hk] at h;exact SeqAt.EqAt.int_str i t y u _ _ _ _ h
  . rcases bS hv with ⟨j,u,rfl,rfl⟩ | ⟨y,u,rfl,rfl⟩
    . rw[Hl] at h;exact SeqAt.EqAt.str_int x t j u _ _ _ _ h
    . rw[Hj] at h;exact wpAny_eqBool_str h
 «strs»:=fun k x t v h=>by
  rcases bS h with ⟨i,u,rfl,e⟩ | ⟨y,u,rfl,e⟩
  . exact nomatch e
  . injection e with e1 _;subst e1;cases v <;> rfl
theorem BD(prog:Program)(w:World)(i:Int)(t:Tok):(ck prog w).is (.inl i) (.int i t)=true:=DH i t
theorem BE(prog:Program)(w:World)(x:Str)(t:Tok):(ck prog w).is (.inr x) (.str x t)=true:=DI x t
inductive V where
 | non | bl (b:Bool) | int (i:Int) | str (x:Str) | byt (b:Array UInt8) | flt (b:UInt64) | ref (a:Addr) | ty (n:String)
 deriving DecidableEq
def RelV:V->Value->Prop
 | .non,u=>u=Value.none
 | .bl b,u=>u=Value.bool b
 | .int i,u=>∃ t,u=Value.int i t
 | .str x,u=>∃ t,u=Value.str x t
 | .byt b,u=>∃ t,u=Value.bytes b t
 | .flt b,u=>∃ t,u=Value.float b t
 | .ref a,u=>u=Value.ref a
 | .ty n,u=>u=Value.type n
abbrev Vals:List V->List Value->Prop:=Paired RelV
theorem Vals.length{xs:List V}{us:List Value}(r:Vals xs us):xs.length=us.length:=Qc r
theorem Vals.get:∀{xs:List V} {us:List Value} {i:Nat} {x:V},Vals xs us->xs[i]? =some x->∃ u,us[i]? =some u/\RelV x u
 | _,_,_,_,.nil,e=>by simp at e
 | _,_,0,_,.cons r _,e=>by simp at e;subst e;exact⟨_,rfl,r⟩
 | _,_,i+1,x,.cons _ t,e=>by
  obtain⟨u,h1,h2⟩:=Vals.get (i:=i) (x:=x) t (by simpa using e);exact⟨u,by simpa using h1,h2⟩
theorem Vals.append:∀{xs ys:List V} {us ws:List Value},Vals xs us->Vals ys ws->Vals (xs++ys) (us++ws)
 | _,_,_,_,.nil,s=>s
 | _,_,_,_,.cons r t,s=>.cons r (Vals.append t s)
theorem Vals.take:∀{xs:List V} {us:List Value} (n:Nat),Vals xs us->Vals (xs.take n) (us.take n)
 | _,_,0,_=>.nil
 | _,_,_+1,.nil=>.nil
 | _,_,n+1,.cons r t=>.cons r (Vals.take n t)
theorem Vals.drop:∀{xs:List V} {us:List Value} (n:Nat),Vals xs us->Vals (xs.drop n) (us.drop n)
 | _,_,0,r=>r
 | _,_,_+1,.nil=>.nil
 | _,_,n+1,.cons _ t=>Vals.drop n t
def RelO:Option V->Option Value->Prop
 | some v,some u=>RelV v u
 | none,none=>True
 | _,_=>False
def KV{κ:Type}:List (κ × V)->List (κ × Value)->Prop:=Paired fun(p:κ × V) (q:κ × Value)=>p.1=q.1/\RelV p.2 q.2
def kV:Key->V
 | .inl i=>.int i
 | .inr x=>.str x
inductive HO where
  | lst (xs:List V)
  | tup (xs:List V)
  | dK (Mh:List (Key × V)) | dT (Mh:List (List Key × V))
  | set (S:Int->Bool) (n:Nat)
  | ins (C dx:Addr) (fs:List (Str × V))
  | own (x:Addr)
  | xd (fs:List (Str × V))
  | met (f x:Addr)
  | rng (lo hi:Int)
  | frz (o:Obj) (u:HO)
  | tbl (ps:Array Value)
  | ext (φ:Heap->Prop)
abbrev Hp:=Addr->Option HO
def upd(H:Hp)(a:Addr)(o:HO):Hp:=fun b=>if b=a then some o else H b
variable{H:Hp}{a:Addr}{o:HO}
theorem ak:upd H a o a=some o:=by unfold upd;rw[MU rfl]
variable{b:Addr}
theorem aq(h:b≠a):upd H a o b=H b:=by unfold upd;rw[MP h]
theorem IM{u:HO}(h:H a=some o)(h':H b=some u)(d:o≠u):a≠b:=by
 intro e;subst e;rw[h] at h';exact d (N5 h')
theorem aC(h:H a=some o)(h':H b=none):a≠b:=by
 intro e;subst e;rw[h] at h';cases h'
section
variable(P:Program)(w:World)
def ObjOk(H:Hp)(h:Heap)(a:Addr):HO->Prop
 | .lst xs=>xs.length<=sizeLine/\∃(Mi:List Value) (n:Nat),Vals xs Mi/\h.get? a=some {cls:=.type "list",data:=.seq Mi.toArray n}
 | .tup xs=>xs.length<=sizeLine/\∃ Mi:List Value,Vals xs Mi/\IsTup h a Mi.toArray
 | .dK Mh=>Mh.length<=sizeLine/\(a==sysModules)=false/\∃ vs,KV Mh vs/\h.DictOf (ck P w) a vs
 | .dT Mh=>Mh.length<=sizeLine/\(a==sysModules)=false/\∃ xs:List (List Key × Addr × Value),
   Paired (fun(p:List Key × V) (q:List Key × Addr × Value)=>p.1=q.1/\H q.2.1=some (.tup (p.1.map kV))/\RelV p.2 q.2.2) Mh xs/\
   ∃ o es ep,h.get? a=some o/\o.ExactDict/\o.data=.dict es ep/\es.toList=xs.map (entryOfKey (tupleKind (ck P w)))/\(xs.map (·.1)).Nodup
 | .set S n=>h.SetOf (intKind P w) a S n
 | .ins C dx fs=>H dx=some (.own a)/\fs.length<=1000/\dx≠a/\h.get? a=some (PySem.W.instObj C dx)/\
   ∃ mA,h.Ns1 dx mA/\(∀ f,RelO (fs.lookup f) (mA f))/\PySem.Within mA (fs.map (·.1))
 | .own _=>∃ o,h.get? a=some o
 | .xd fs=>∃ mA,h.Ns1 a mA/\∀ f,RelO (fs.lookup f) (mA f)
 | .rng lo hi=>∃ t u v,h.get? a=some {cls:=.type "range",data:=.fields #[.int lo t,.int hi u,.int 1 v]}
 | .frz o u=>h.get? a=some o/\ObjOk H h a u
 | .tbl ps=>h.get? a=some {cls:=.none,data:=.fields ps}
 | .met f x=>h.get? a=some (PySem.W.methodObj (.ref f) (.ref x))
 | .ext φ=>φ h/\(∃ o,h.get? a=some o)/\∀ h1 h2:Heap,φ h1->(∀ o,h1.get? a=some o->h2.get? a=some o)->φ h2
def HOk(H:Hp)(h:Heap):Prop:=∀ a o,H a=some o->ObjOk P w H h a o
end
section
variable{P:Program}{w:World}{H H':Hp}{h h':Heap}{a:Addr}{o:HO}
theorem ObjOk.lt(x:ObjOk P w H h a o):a<h.objs.size:=by
 cases o with
 | lst xs=>obtain⟨_,_,_,_,e⟩:=x;exact M5 e
 | tup xs=>obtain⟨_,_,_,p⟩:=x;exact p.lt
 | dK Mh=>obtain⟨_,_,_,_,o,_,_,e,_⟩:=x;exact M5 e
 | dT Mh=>obtain⟨_,_,_,_,o,_,_,e,_⟩:=x;exact M5 e
 | set S n=>obtain⟨o,_,_,_,e,_⟩:=x;exact M5 e
 | ins C dx fs=>obtain⟨_,_,_,e,_⟩:=x;exact M5 e
 | own y=>obtain⟨_,e⟩:=x;exact M5 e
 | xd fs=>obtain⟨_,⟨_,_,_,e,_⟩,_⟩:=x;exact M5 e
 | rng lo hi=>obtain⟨_,_,_,e⟩:=x;exact M5 e
 | frz ob u=>obtain⟨e,_⟩:=x;exact M5 e
 | tbl ps=>exact M5 (show h.get? a=some _ from x)
 | met f y=>exact M5 (show h.get? a=some _ from x)
 | ext φ=>obtain⟨_,⟨_,e⟩,_⟩:=x;exact M5 e
theorem Paired.mapP{α β:Type}{F G:α->β->Prop}:∀{l₁:List α} {l₂:List β},Paired F l₁ l₂->(∀ a b,F a b->G a b)->Paired G l₁ l₂
 | _,_,.nil,_=>.nil
 | _,_,.cons r t,f=>.cons (f _ _ r) (Paired.mapP t f)
theorem ObjOk.stay (x:ObjOk P w H h a o) (k:∀ b u,(b=a\/H b=some (.own a))->h.get? b=some u->h'.get? b=some u)
  (ho:∀ b,H b=some (.own a)->H' b=some (.own a)) (ht:∀ b xs,H b=some (.tup xs)->H' b=some (.tup xs)):ObjOk P w H' h' a o:=by
 induction o with
 | lst xs=>obtain⟨z,Mi,n,r,e⟩:=x;exact⟨z,Mi,n,r,k _ _ (.inl rfl) e⟩
 | tup xs=>obtain⟨z,Mi,r,ob,e,c⟩:=x;exact⟨z,Mi,r,ob,k _ _ (.inl rfl) e,c⟩
 | dK Mh=>obtain⟨z,y,vs,r,ob,es,ep,e,c⟩:=x;exact⟨z,y,vs,r,ob,es,ep,k _ _ (.inl rfl) e,c⟩
 | dT Mh=>
  obtain⟨z,y,xs,r,ob,es,ep,e,c⟩:=x;exact⟨z,y,xs,Paired.mapP r fun p q z=>⟨z.1,ht _ _ z.2.1,z.2.2⟩,ob,es,ep,k _ _ (.inl rfl) e,c⟩
 | set S n=>obtain⟨ob,es,ep,t,e,c⟩:=x;exact⟨ob,es,ep,t,k _ _ (.inl rfl) e,c⟩
 | ins C dx fs=>
  obtain⟨d,z,ne,e,mA,⟨od,es,ep,e2,c⟩,r⟩:=x;exact⟨ho _ d,z,ne,k _ _ (.inl rfl) e,mA,⟨od,es,ep,k _ _ (.inr d) e2,c⟩,r⟩
 | own y=>obtain⟨ob,e⟩:=x;exact⟨ob,k _ _ (.inl rfl) e⟩
 | xd fs=>obtain⟨mA,⟨od,es,ep,e,c⟩,r⟩:=x;exact⟨mA,⟨od,es,ep,k _ _ (.inl rfl) e,c⟩,r⟩
 | rng lo hi=>obtain⟨t,u,v,e⟩:=x;exact⟨t,u,v,k _ _ (.inl rfl) e⟩
 | frz ob u ih=>obtain⟨e,q⟩:=x;exact⟨k _ _ (.inl rfl) e,ih q⟩
 | tbl ps=>
  have e:h.get? a=some {cls:=.none,data:=.fields ps}:=x;show h'.get? a=some {cls:=.none,data:=.fields ps};exact k a _ (.inl rfl) e
 | met f y=>
  have e:h.get? a=some (PySem.W.methodObj (.ref f) (.ref y)):=x;show h'.get? a=some (PySem.W.methodObj (.ref f) (.ref y));exact k a _ (.inl rfl) e
 | ext φ=>obtain⟨p,⟨o,e⟩,st⟩:=x;exact⟨st _ _ p fun o q=>k _ _ (.inl rfl) q,⟨o,k _ _ (.inl rfl) e⟩,st⟩
theorem HOk.lt(x:HOk P w H h)(e:H a=some o):a<h.objs.size:=(x a o e).lt
theorem HOk.fresh(x:HOk P w H h)(e:h.objs.size<=a):H a=none:=by
 cases q:H a with
 | none=>rfl
 | some u=>exact absurd (M9 (x.lt q) e) (NS _)
theorem HOk.kept(x:HOk P w H h)(k:∀ b u,h.get? b=some u->h'.get? b=some u):HOk P w H h':=fun a o e=>
 (x a o e).stay (fun b u _ q=>k b u q) (fun _ q=>q) fun _ _ q=>q
theorem HOk.laid(x:HOk P w H h)(k:∀ b u,h.get? b=some u->h'.get? b=some u)(hp:h.objs.size<=a)(new:ObjOk P w (upd H a o) h' a o):HOk P w (upd H a o) h':=fun b u e=>by
 have hn:=x.fresh hp;by_cases hb:b=a
 . subst hb;rw[ak] at e;cases e;exact new
 . rw[aq hb] at e;exact(x b u e).stay (fun c v _ q=>k c v q) (fun c q=>by rw[aq (aC q hn)];exact q) fun c xs q=>by rw[aq (aC q hn)];exact q
end
def Rd(H:Hp)(a:Addr)(u:HO):Prop:=H a=some u\/∃ o,H a=some (.frz o u)
variable{h:Heap}
theorem Rd.ok{P:Program}{w:World}{u:HO}(r:Rd H a u)(x:HOk P w H h):ObjOk P w H h a u:=by
 rcases r with r | ⟨o,r⟩
 . exact x a u r
 . obtain⟨_,q⟩:=x a _ r;exact q
def Mut:Option HO->Prop
 | some (.lst _)=>True
 | some (.dK _)=>True
 | some (.dT _)=>True
 | some (.set _ _)=>True
 | some (.ins _ _ _)=>True
 | some (.ext _)=>True
 | _=>False
section
variable{P:Program}{w:World}{H:Hp}{h h':Heap}{x e:Addr}{o':HO}
theorem HOk.write (ok:HOk P w H h) (mu:Mut (H x)) (he:e=x\/H e=some (.own x)) (k:∀ b u,b≠e->h.get? b=some u->h'.get? b=some u) (heo:∃ u,h'.get? e=some u)
  (new:ObjOk P w (upd H x o') h' x o'):HOk P w (upd H x o') h':=fun b u q=>by
 have nown:∀ c y,H c=some (.own y)->c≠x:=fun c y r z=>by subst z;rw[r] at mu;exact mu
 have ntup:∀ c xs,H c=some (.tup xs)->c≠x:=fun c xs r z=>by subst z;rw[r] at mu;exact mu
 by_cases hb:b=x
 . subst hb;rw[ak] at q;cases q;exact new
 . rw[aq hb] at q;by_cases hbe:b=e
   . have q':H b=some (.own x):=by
      rcases he with z | z
      . exact absurd (hbe.trans z) hb
      . rw[hbe];exact z
     rw[q] at q';cases q';obtain⟨v,hv⟩:=heo;exact⟨v,by rw[hbe];exact hv⟩
   . refine(ok b u q).stay (fun c v hc r=>k c v ?_ r) (fun c r=>by rw[aq (nown c b r)];exact r) fun c xs r=>by rw[aq (ntup c xs r)];exact r
     rcases hc with rfl | hc
     . exact hbe
     . rintro rfl;rcases he with z | z
       . exact nown c b hc z
       . rw[hc] at z;cases z;exact hb rfl
end
structure Un(fs ex:List Addr)(H H':Hp)(h h':Heap):Prop where
 keep:∀ b o,h.get? b=some o->H b=none->b∉fs->b∉ex->h'.get? b=some o
 slot:∀ b o,h.get? b=some o->H b=none->b∈fs->b∉ex->∃ sl,h'.get? b=some {o with slots:=sl}
 free:∀ b o,h.get? b=some o->H b=none->b∉ex->H' b=none
 there:∀ b o,h.get? b=some o->b∉ex->∃ o',h'.get? b=some o'
 tups:∀ b xs,H b=some (.tup xs)->H' b=some (.tup xs)
 frzs:∀ b o u,H b=some (.frz o u)->H' b=some (.frz o u)
 tbls:∀ b ps,H b=some (.tbl ps)->∃ more,H' b=some (.tbl (ps++more))
section
variable{fs fs' ex ex':List Addr}{H H1 H2:Hp}{h h1 h2 h':Heap}{a x e:Addr}{o:HO}
theorem Un.any(u:Un fs ex H H1 h h1){b:Addr}{ob:Obj}(q:h.get? b=some ob)(n:H b=none)(hx:b∉ex):∃ sl,h1.get? b=some {ob with slots:=sl}:=by
 by_cases hb:b∈fs
 . exact u.slot b ob q n hb hx
 . exact⟨ob.slots,u.keep b ob q n hb hx⟩
theorem Un.kept(k:∀ b u,h.get? b=some u->h'.get? b=some u):Un fs ex H H h h':=
 ⟨fun b ob q _ _ _=>k b ob q,fun b ob q _ _ _=>⟨ob.slots,k b ob q⟩,fun _ _ _ n _=>n,fun b ob q _=>⟨ob,k b ob q⟩,fun _ _ q=>q,fun _ _ _ q=>q,fun _ ps q=>⟨#[],by rw[q];simp⟩⟩
theorem Un.refl:Un fs ex H H h h:=Un.kept fun _ _ q=>q
theorem Un.laid(k:∀ b u,h.get? b=some u->h'.get? b=some u)(hp:h.objs.size<=a)(hn:H a=none):Un fs ex H (upd H a o) h h' where
 keep:=fun b u q _ _ _=>k b u q
 slot:=fun b u q _ _ _=>⟨u.slots,k b u q⟩
 free:=fun b u q n _=>by rw[aq (Nl (M9 (M5 q) hp))];exact n
 there:=fun b u q _=>⟨u,k b u q⟩
 tups:=fun b xs q=>by rw[aq (aC q hn)];exact q
 frzs:=fun b u xs q=>by rw[aq (aC q hn)];exact q
 tbls:=fun b ps q=>⟨#[],by rw[aq (aC q hn),q];simp⟩
theorem Un.write(mu:Mut (H x))(he:e=x\/H e=some (.own x))(k:∀ b u,b≠e->h.get? b=some u->h'.get? b=some u)(heo:∃ u,h'.get? e=some u):Un fs ex H (upd H x o) h h':=by
 have hx:∀ b,H b=none->b≠x:=fun b n z=>by subst z;rw[n] at mu;exact mu
 have hb:∀ b,H b=none->b≠e:=fun b n z=>by
  subst z;rcases he with r | r
  . exact hx b n r
  . rw[n] at r;cases r
 have hm:∀ b u,H b=some u->¬ Mut (some u)->b≠x:=fun b u q nm z=>by subst z;rw[q] at mu;exact nm mu
 refine⟨fun b u q n _ _=>k b u (hb b n) q,fun b u q n _ _=>⟨u.slots,k b u (hb b n) q⟩,fun b u q n _=>by rw[aq (hx b n)];exact n,fun b u q _=>?_,
  fun b xs q=>by rw[aq (hm b _ q fun z=>z)];exact q,fun b u xs q=>by rw[aq (hm b _ q fun z=>z)];exact q,fun b ps q=>⟨#[],by rw[aq (hm b _ q fun z=>z),q];simp⟩⟩
 by_cases hbe:b=e
 . subst hbe;exact heo
 . exact⟨u,k b u hbe q⟩
end
def trk(h:Heap)(H:Hp):List Addr:=(List.range h.objs.size).filter fun a=>(H a).isSome
def hidT(h:Heap)(H:Hp):Heap:=PySem.W.hideAll h (trk h H)
theorem DJ(h:Heap)(H:Hp):(hidT h H).objs.size=h.objs.size:=PySem.W.hideAll_size _ _
theorem Fr{o:Obj}(e:h.get? b=some o)(n:H b=none):(hidT h H).get? b=some o:=
 PySem.W.hideAll_get _ e fun hm=>by
  have q:(H b).isSome=true:=(MK.mp hm).2;rw[n] at q;simp at q
theorem Gh{o:Obj}(e:(hidT h H).get? b=some o):h.get? b=some o/\H b=none:=by
 have e':h.get? b=some o:=PySem.W.of_hideAll (trk h H) e;refine⟨e',?_⟩
 cases q:H b with
 | none=>rfl
 | some x=>
  have hm:b∈trk h H:=MK.mpr ⟨MF.mpr (M5 e'),by simp[q]⟩;have z:(hidT h H).get? b=none:=PySem.W.hideAll_none (trk h H) hm;rw[z] at e;cases e
structure Mod(K:Frag)(mg:Str->Option Value)(base:Heap):Prop where
 kin:K.In base
 glob:base.Ns mainGlobals mg
 blt:∃ mb,base.Ns builtinsNs mb/\∀ x:Str,x≠"__name__"->mb x=bootBuiltins x
 nolimit:base.NoLimit
structure Cx where
 prog:Program
 w:World
 K:Frag
 mg:Str->Option Value
 base:Heap
 A:Around
 N:List Str
 s₀:Shared
 H₀:Hp
 env:Env
 outer:List Env
 stack:List Env
 ex:List Addr
 fn:Str->Bool
 calm:Bool
 pn:List (Addr × Obj)
 xe:Value->Shared->Prop
def frs(l:List Env):List Addr:=l.filterMap (·.frame)
abbrev Cx.fs(X:Cx):List Addr:=frs X.outer
def Vis(sc:Scope)(x:Str):Prop:=sc.names.lookup x=some .local\/sc.names.lookup x=some .cell\/sc.names.lookup x=some .free
def Loc(sc:Scope)(x:Str):Prop:=sc.names.lookup x=some .local\/sc.names.lookup x=some .cell
def Look(env:Env)(h:Heap)(m:Str->Option Value)(x:Str)(u:Value):Prop:=
 (env.kindOf x=some .local/\m x=some u)\/((env.kindOf x=some .cell\/env.kindOf x=some .free)/\∃ c,env.cells.lookup x=some c/\h.IsCell c (some u))
structure Cx.Ok(X:Cx):Prop where
 mod:Mod X.K X.mg X.base
 kind:X.env.scope.kind=.function
 glob:X.env.globals=mainGlobals
 blt:X.env.builtins=builtinsNs
 above:X.s₀.heap.objs.size<=X.env.locals
 inj:∀ x y c,X.env.cells.lookup x=some c->X.env.cells.lookup y=some c->x=y
 has:∀ x,(X.env.kindOf x=some .cell\/X.env.kindOf x=some .free)->∃ c,X.env.cells.lookup x=some c
 cab:∀ x c,X.fn x=true->X.env.cells.lookup x=some c->X.s₀.heap.objs.size<=c
 hd:X.calm=true->X.A.handled=none
 frames:X.A.frames=some X.stack
 stk:X.stack=X.outer\/(X.stack=X.env::X.outer/\X.env.frame=some X.env.locals)
 exf:∀ b∈X.ex,b≠X.env.locals/\∀ x c,X.env.cells.lookup x=some c->c≠b
 bs:∀ b o,X.base.get? b=some o->X.s₀.heap.get? b=some o/\X.H₀ b=none
 bsz:X.base.objs.size<=X.s₀.heap.objs.size
 noex:∀ b o,X.base.get? b=some o->b∉X.ex
 exfs:∀ b∈X.ex,b∉X.fs
 funs:X.s₀.heap.FunFrames X.base X.outer
 frf:∀ b∈X.fs,X.H₀ b=none
structure Inv(X:Cx)(Md:List (Addr × Obj))(σ:List (Option V))(H:Hp)(s:Shared):Prop where
 ok:X.Ok
 os:s.os=X.s₀.os
 bare:AllBare s.gens
 base:Un X.fs X.ex X.H₀ H X.s₀.heap s.heap
 loc:∃ m,s.heap.Ns X.env.locals m/\∀(i:Nat) (x:Str) (v:V),X.N[i]? =some x->σ[i]? =some (some v)->Vis X.env.scope x->∃ u,RelV v u/\Look X.env s.heap m x u
 cell:∀ x c,X.env.cells.lookup x=some c->∃ v,s.heap.IsCell c v
 free:H X.env.locals=none
 freeC:∀ x c,X.env.cells.lookup x=some c->H c=none
 pin:∀ p∈X.pn++Md,s.heap.get? p.1=some p.2/\H p.1=none/\p.1≠X.env.locals/\p.1∉X.fs/\∀ v,p.2.data≠.cell v
 hok:HOk X.prog X.w H s.heap
 len:σ.length=X.N.length
section
variable{X:Cx}{Md:List (Addr × Obj)}{σ:List (Option V)}{H H':Hp}{s:Shared}{h':Heap}
theorem Cx.Ok.nofr(ok:X.Ok){b:Addr}{o:Obj}(e:X.base.get? b=some o):b∉X.fs:=fun hb=>by
 have:=(ok.funs.mem hb).1;rw[e] at this;cases this
theorem Inv.bs(I:Inv X Md σ H s):∀ b o,X.base.get? b=some o->s.heap.get? b=some o/\H b=none:=fun b o e=>
 ⟨I.base.keep b o (I.ok.bs b o e).1 (I.ok.bs b o e).2 (I.ok.nofr e) (I.ok.noex b o e),I.base.free b o (I.ok.bs b o e).1 (I.ok.bs b o e).2 (I.ok.noex b o e)⟩
theorem Inv.bk(I:Inv X Md σ H s):∀ b o,X.base.get? b=some o->s.heap.get? b=some o:=fun b o e=>(I.bs b o e).1
theorem Inv.mod(I:Inv X Md σ H s):Mod X.K X.mg X.base:=I.ok.mod
theorem Inv.kIn(I:Inv X Md σ H s):X.K.In s.heap:=I.ok.mod.kin.keeps I.bk
theorem Inv.lt(I:Inv X Md σ H s):X.env.locals<s.heap.objs.size:=let ⟨_,hn,_⟩:=I.loc;hn.lt
theorem Inv.sz(I:Inv X Md σ H s):X.s₀.heap.objs.size<=s.heap.objs.size:=ML I.ok.above (Nj I.lt)
theorem Inv.nofs(I:Inv X Md σ H s){a:Addr}(h:s.heap.objs.size<=a):a∉X.fs:=fun hb=>by
 obtain⟨_,o,ho,_⟩:=I.ok.funs.mem hb;exact absurd (M9 (M5 ho) (ML I.sz h)) (NS _)
theorem Inv.cne(I:Inv X Md σ H s):∀ x c,X.env.cells.lookup x=some c->c≠X.env.locals:=fun x c e z=>by
 obtain⟨v,o,ho,hd⟩:=I.cell x c e;obtain⟨m,⟨o',es,ep,ho',hd',_⟩,_⟩:=I.loc;rw[z,ho'] at ho;cases ho;rw[hd'] at hd;cases hd
theorem Inv.funs(I:Inv X Md σ H s):s.heap.FunFrames X.base X.outer:=by
 have all:∀(l:List Env),(∀ b∈frs l,b∈X.fs)->X.s₀.heap.FunFrames X.base l->s.heap.FunFrames X.base l:=by
  intro l
  induction l with
  | nil=>intro _ _;trivial
  | cons env r ih=>
   intro hs hl;obtain⟨hk,⟨L,o,hf,hn,ho,hd⟩,hr⟩:=hl;have hL:L∈X.fs:=hs L (by unfold frs;rw[Pb,hf];exact MD);obtain⟨sl,e⟩:=I.base.slot L o ho (I.ok.frf L hL) hL fun z=>I.ok.exfs L z hL;exact⟨hk,⟨L,_,hf,hn,e,hd⟩,ih (fun b hb=>hs b (by unfold frs;rw[Pb,hf];exact MI _ hb)) hr⟩
 exact all X.outer (fun _ hb=>hb) I.ok.funs
theorem Inv.stack(I:Inv X Md σ H s):s.heap.FunFrames X.base X.stack:=by
 rcases I.ok.stk with e | ⟨e,hf⟩
 . rw[e];exact I.funs
 . rw[e];obtain⟨m,hn,_⟩:=I.loc;refine .cons (by rw[I.ok.kind];decide) hf hn ?_ I.funs;exact Heap.get?_none_of_le (ML I.ok.bsz I.ok.above)
theorem Inv.stkSub(I:Inv X Md σ H s):∀ b∈frs X.stack,b∈X.env.locals::X.fs:=fun b hb=>by
 rcases I.ok.stk with e | ⟨e,hf⟩
 . rw[e] at hb;exact MI _ hb
 . rw[e] at hb;unfold frs at hb;rw[Pb,hf] at hb;exact hb
theorem Inv.stkFree(I:Inv X Md σ H s):∀ b∈frs X.stack,H b=none:=fun b hb=>by
 rcases MS.mp (I.stkSub b hb) with e | hb
 . rw[e];exact I.free
 . obtain⟨_,o,ho,_⟩:=I.ok.funs.mem hb;exact I.base.free b o ho (I.ok.frf b hb) fun z=>I.ok.exfs b z hb
theorem Inv.step {g':Array GenState} {t':Nat} {d':Drawn} {ch:List Addr} (I:Inv X Md σ H s)
  (hch:∀ b∈ch,(b∈X.ex\/X.s₀.heap.objs.size<=b)/\b≠X.env.locals/\(∀ x c,X.env.cells.lookup x=some c->c≠b)/\∀ p∈X.pn++Md,p.1≠b)
  (keep:∀ b o,b≠X.env.locals->b∉X.fs->b∉ch->s.heap.get? b=some o->H b=none->h'.get? b=some o)
  (slot:∀ b o,b≠X.env.locals->b∈X.fs->b∉ch->s.heap.get? b=some o->H b=none->∃ sl,h'.get? b=some {o with slots:=sl}) (free:∀ b o,b∉ch->s.heap.get? b=some o->H b=none->H' b=none)
  (there:∀ b o,b∉ch->s.heap.get? b=some o->∃ o',h'.get? b=some o')
  (tups:∀ b xs,H b=some (.tup xs)->H' b=some (.tup xs)) (frzs:∀ b o u,H b=some (.frz o u)->H' b=some (.frz o u)) (tbls:∀ b ps,H b=some (.tbl ps)->∃ more,H' b=some (.tbl (ps++more)))
  (ns:∀ m,s.heap.Ns X.env.locals m->h'.Ns X.env.locals m) (hok:HOk X.prog X.w H' h') (hg:AllBare g'):
  Inv X Md σ H' {s with heap:=h',gens:=g',drawn:=d',toks:=t'}:=by
 have neL:∀ b o,X.s₀.heap.get? b=some o->b≠X.env.locals:=fun b o e=>Nl (M9 (M5 e) I.ok.above)
 have neC:∀ b o,X.s₀.heap.get? b=some o->b∉X.ex->b∉ch:=fun b o e hx hb=>by
  rcases(hch b hb).1 with z | z
  . exact hx z
  . exact absurd (M9 (M5 e) z) (NS _)
 have cellK:∀ x c,X.env.cells.lookup x=some c->∀ v,s.heap.IsCell c v->h'.IsCell c v:=fun x c e v ⟨o,ho,hd⟩=>by
  have nch:c∉ch:=fun z=>(hch c z).2.2.1 x c e rfl;by_cases hc:c∈X.fs
  . obtain⟨sl,q⟩:=slot c o (I.cne x c e) hc nch ho (I.freeC x c e);exact⟨_,q,hd⟩
  . exact⟨o,keep c o (I.cne x c e) hc nch ho (I.freeC x c e),hd⟩
 refine⟨I.ok,I.os,hg,⟨fun b o e n hb hx=>?_,fun b o e n hb hx=>?_,fun b o e n hx=>?_,fun b o e hx=>?_,fun b xs e=>tups b xs (I.base.tups b xs e),fun b o xs e=>frzs b o xs (I.base.frzs b o xs e),fun b ps e=>?_⟩,?_,fun x c e=>?_,?_,fun x c e=>?_,fun p hp=>?_,hok,I.len⟩
 . exact keep b o (neL b o e) hb (neC b o e hx) (I.base.keep b o e n hb hx) (I.base.free b o e n hx)
 . obtain⟨sl,e1⟩:=I.base.slot b o e n hb hx;obtain⟨sl',e2⟩:=slot b _ (neL b o e) hb (neC b o e hx) e1 (I.base.free b o e n hx);exact⟨sl',e2⟩
 . obtain⟨o',e1⟩:=I.base.there b o e hx;exact free b o' (neC b o e hx) e1 (I.base.free b o e n hx)
 . obtain⟨o',e1⟩:=I.base.there b o e hx;exact there b o' (neC b o e hx) e1
 . obtain⟨m1,e1⟩:=I.base.tbls b ps e;obtain⟨m2,e2⟩:=tbls b _ e1;exact⟨m1++m2,by rw[e2,Array.append_assoc]⟩
 . obtain⟨m,hn,hl⟩:=I.loc;refine⟨m,ns m hn,fun i x v e1 e2 e3=>?_⟩;obtain⟨u,r,l⟩:=hl i x v e1 e2 e3;refine⟨u,r,?_⟩;rcases l with l | ⟨k,c,e,z⟩
   . exact .inl l
   . exact .inr ⟨k,c,e,cellK x c e _ z⟩
 . obtain⟨v,z⟩:=I.cell x c e;exact⟨v,cellK x c e v z⟩
 . obtain⟨m,⟨o,_,_,ho,_⟩,_⟩:=I.loc;exact free _ o (fun z=>(hch _ z).2.1 rfl) ho I.free
 . obtain⟨v,o,ho,hd⟩:=I.cell x c e;exact free c o (fun z=>(hch c z).2.2.1 x c e rfl) ho (I.freeC x c e)
 . obtain⟨e,n,ne,nf,d⟩:=I.pin p hp;have nch:p.1∉ch:=fun z=>(hch p.1 z).2.2.2 p hp rfl;exact⟨keep p.1 p.2 ne nf nch e n,free p.1 p.2 nch e n,ne,nf,d⟩
theorem Inv.un{t':Nat}(I:Inv X Md σ H s)(u:Un X.fs [] H H' s.heap h')(hok:HOk X.prog X.w H' h'):Inv X Md σ H' {s with heap:=h',toks:=t'}:=by
 obtain⟨m,⟨o,es,ep,ho,r⟩,_⟩:=id I.loc;obtain⟨sl,hL⟩:=u.any ho I.free (by simp)
 exact I.step (g':=s.gens) (d':=s.drawn) (ch:=[]) (fun _ z=>nomatch z) (fun b o _ hb _ e n=>u.keep b o e n hb (by simp)) (fun b o _ hb _ e n=>u.slot b o e n hb (by simp)) (fun b o _ e n=>u.free b o e n (by simp)) (fun b o _ e=>u.there b o e (by simp)) u.tups u.frzs u.tbls (fun m' hm=>by
  obtain⟨o',es',ep',ho',r'⟩:=hm;rw[ho] at ho';cases ho';exact⟨_,es',ep',hL,r'⟩) hok I.bare
theorem Inv.call {g':Array GenState} {t':Nat} {d':Drawn} {ch:List Addr} (I:Inv X Md σ H s) (u:Un (frs X.stack) ch H H' s.heap h') (hok:HOk X.prog X.w H' h') (hg:AllBare g')
  (hch:∀ b∈ch,(b∈X.ex\/X.s₀.heap.objs.size<=b)/\b≠X.env.locals/\(∀ x c,X.env.cells.lookup x=some c->c≠b)/\∀ p∈X.pn++Md,p.1≠b):
  Inv X Md σ H' {s with heap:=h',gens:=g',drawn:=d',toks:=t'}:=by
 obtain⟨m,⟨o,es,ep,ho,r⟩,_⟩:=id I.loc;obtain⟨sl,hL⟩:=u.any ho I.free fun z=>(hch _ z).2.1 rfl
 exact I.step (ch:=ch) hch (fun b o hL hb hc e n=>u.keep b o e n (fun z=>(MS.mp (I.stkSub b z)).elim hL hb) hc) (fun b o _ _ hc e n=>u.any e n hc) (fun b o hc e n=>u.free b o e n hc) (fun b o hc e=>u.there b o e hc) u.tups u.frzs u.tbls (fun m' hm=>by
  obtain⟨o',es',ep',ho',r'⟩:=hm;rw[ho] at ho';cases ho';exact⟨_,es',ep',hL,r'⟩) hok hg
theorem Inv.turned {t':Nat} {it:Addr} (I:Inv X Md σ H s) (k:∀ b o,b≠it->s.heap.get? b=some o->h'.get? b=some o) (hn:H it=none) (hL:it≠X.env.locals)
  (h1:it∈X.ex\/X.s₀.heap.objs.size<=it) (h2:∀ x c,X.env.cells.lookup x=some c->c≠it) (h3:∀ p∈X.pn++Md,p.1≠it):Inv X Md σ H {s with heap:=h',toks:=t'}:=by
 have nit:∀ b u,H b=some u->b≠it:=fun b u e z=>by rw[z,hn] at e;cases e
 refine I.step (g':=s.gens) (d':=s.drawn) (ch:=[it]) (fun b hb=>?_) (fun b o _ _ hc e _=>k b o (fun z=>hc (by simp[z])) e) (fun b o _ _ hc e _=>⟨o.slots,k b o (fun z=>hc (by simp[z])) e⟩) (fun _ _ _ _ n=>n)
  (fun b o hc e=>⟨o,k b o (fun z=>hc (by simp[z])) e⟩) (fun _ _ e=>e) (fun _ _ _ e=>e) (fun b ps e=>⟨#[],by rw[e];simp⟩) (fun m hm=>?_) (fun b u e=>?_) I.bare
 . have e:b=it:=by simpa using hb
   subst e;exact⟨h1,hL,h2,h3⟩
 . obtain⟨o,es,ep,ho,r⟩:=hm;exact⟨o,es,ep,k _ o (Pg hL) ho,r⟩
 . refine(I.hok b u e).stay (fun c v hc q=>k c v ?_ q) (fun _ q=>q) fun _ _ q=>q;rcases hc with z | z
   . rw[z];exact nit b u e
   . exact nit c _ z
theorem Inv.tok(I:Inv X Md σ H s)(t:Nat):Inv X Md σ H {s with toks:=t}:=I.un (h':=s.heap) (t':=t) Un.refl I.hok
theorem Inv.kept{t':Nat}(I:Inv X Md σ H s)(k:∀ b u,s.heap.get? b=some u->h'.get? b=some u):Inv X Md σ H {s with heap:=h',toks:=t'}:=I.un (Un.kept k) (I.hok.kept k)
theorem Inv.laid{a:Addr}{o:HO}{t':Nat}(I:Inv X Md σ H s)(k:∀ b u,s.heap.get? b=some u->h'.get? b=some u)(hp:s.heap.objs.size<=a)(new:ObjOk X.prog X.w (upd H a o) h' a o):
  Inv X Md σ (upd H a o) {s with heap:=h',toks:=t'}:=I.un (Un.laid k hp (I.hok.fresh hp)) (I.hok.laid k hp new)
theorem Inv.write {x e:Addr} {o:HO} {t':Nat} (I:Inv X Md σ H s) (mu:Mut (H x)) (he:e=x\/H e=some (.own x)) (k:∀ b u,b≠e->s.heap.get? b=some u->h'.get? b=some u) (heo:∃ u,h'.get? e=some u)
  (new:ObjOk X.prog X.w (upd H x o) h' x o):Inv X Md σ (upd H x o) {s with heap:=h',toks:=t'}:=I.un (Un.write mu he k heo) (I.hok.write mu he k heo new)
theorem Inv.pins_of{pins':List (Addr × Obj)}(I:Inv X Md σ H s)(h:∀ p∈pins',s.heap.get? p.1=some p.2/\H p.1=none/\p.1≠X.env.locals/\p.1∉X.fs/\∀ v,p.2.data≠.cell v):Inv X pins' σ H s:=
 ⟨I.ok,I.os,I.bare,I.base,I.loc,I.cell,I.free,I.freeC,fun p hp=>(M0.mp hp).elim (fun z=>I.pin p (O3 _ z)) (h p),I.hok,I.len⟩
theorem zI{N:List Str}(hN:N.Nodup){i j:Nat}{x:Str}(a:N[i]? =some x)(b:N[j]? =some x):i=j:=by
 obtain⟨h1,e1⟩:=My.mp a;obtain⟨h2,e2⟩:=My.mp b;exact(List.getElem_inj hN).mp (e1.trans e2.symm)
theorem xZ {M:Model} {A:Around} {E:Value->Shared->Prop} {i:Nat} {x:Str} {v:V} {u:Value} {Q:Unit->Shared->Prop} (I:Inv X Md σ H s) (hN:X.N.Nodup) (hi:X.N[i]? =some x) (hx:Loc X.env.scope x) (r:RelV v u)
  (h:∀ s',Inv X Md (σ.set i (some v)) H s'->(∃ a,Heap.SameBut a s.heap s'.heap/\(a=X.env.locals\/X.env.cells.lookup x=some a))->Q () s') (hf:X.fn x=true\/X.env.scope.names.lookup x=some .local:=by first | exact .inl rfl | exact .inr rfl | assumption):wpAny M A (storeName X.env x u) Q E s:=by
 obtain⟨m,hn,hl⟩:=id I.loc;have hcls:(X.env.scope.kind==.class||(X.env.scope.kind==.module&&X.env.locals != X.env.globals))=false:=by rw[I.ok.kind];rfl
 have hiσ:i<σ.length:=by rw[I.len];exact(My.mp hi).1
 have cne:=I.cne
 have tracked:∀{a:Addr} {h':Heap},(∃ o,s.heap.get? a=some o/\H a=none)->Heap.SameBut a s.heap h'->HOk X.prog X.w H h':=fun{a h'} ha hs b ob e=>by
  obtain⟨_,_,hfree⟩:=ha;refine(I.hok b ob e).stay (fun c w' hc q=>(hs.2 c ?_).trans q) (fun _ q=>q) fun _ _ q=>q;rintro rfl;rcases hc with rfl | hc
  . rw[hfree] at e;cases e
  . rw[hfree] at hc;cases hc
 rcases hx with hk | hk
 . refine wpAny_storeName_local hk hn (fun h' hn' hs=>?_) hcls;obtain⟨oL,_,_,hoL,_⟩:=id hn;refine h _ ⟨I.ok,I.os,I.bare,⟨fun b o e n hb hx=>?_,fun b o e n hb hx=>?_,I.base.free,fun b o e hx=>?_,I.base.tups,I.base.frzs,I.base.tbls⟩,⟨_,hn',fun j y v' e1 e2 e3=>?_⟩,fun y c e=>?_,I.free,I.freeC,fun p hp=>?_,tracked ⟨oL,hoL,I.free⟩ hs,by simpa using I.len⟩ ⟨_,hs,.inl rfl⟩
   . exact(hs.2 b (Nl (M9 (M5 e) I.ok.above))).trans (I.base.keep b o e n hb hx)
   . obtain⟨sl,e1⟩:=I.base.slot b o e n hb hx;exact⟨sl,(hs.2 b (Nl (M9 (M5 e) I.ok.above))).trans e1⟩
   . obtain⟨o',e1⟩:=I.base.there b o e hx;exact⟨o',(hs.2 b (Nl (M9 (M5 e) I.ok.above))).trans e1⟩
   . by_cases hj:j=i
     . subst hj;rw[hi] at e1;cases e1;rw[PQ hiσ] at e2;cases e2;exact⟨u,r,.inl ⟨hk,by simp⟩⟩
     . rw[List.getElem?_set_ne (Pg hj)] at e2;obtain⟨u',r',q⟩:=hl j y v' e1 e2 e3;refine⟨u',r',?_⟩;rcases q with ⟨k,e⟩ | ⟨k,c,e,z⟩
       . refine .inl ⟨k,?_⟩;have:y≠x:=fun e=>hj (zI hN e1 (e ▸ hi));simp[this,e]
       . exact .inr ⟨k,c,e,z.sameBut hs (cne y c e)⟩
   . obtain⟨w',z⟩:=I.cell y c e;exact⟨w',z.sameBut hs (cne y c e)⟩
   . obtain⟨e,n,ne,nf,d⟩:=I.pin p hp;exact⟨(hs.2 p.1 ne).trans e,n,ne,nf,d⟩
 . have hfn:X.fn x=true:=by
    rcases hf with z | z
    . exact z
    . rw[z] at hk;cases hk
   obtain⟨c,hc⟩:=I.ok.has x (.inl hk);obtain⟨w',z⟩:=I.cell x c hc;refine wpAny_storeName_cell I.ok.kind hk hc z (fun h' hc' hs=>?_);obtain⟨oc,hoc,hocd⟩:=id z;refine h {s with heap:=h'} ⟨I.ok,I.os,I.bare,⟨fun b o e n hb hx=>?_,fun b o e n hb hx=>?_,I.base.free,fun b o e hx=>?_,I.base.tups,I.base.frzs,I.base.tbls⟩,⟨m,hn.sameBut hs (Pg (cne x c hc)),fun j y v' e1 e2 e3=>?_⟩,fun y c' e=>?_,I.free,I.freeC,fun p hp=>?_,tracked ⟨oc,hoc,I.freeC x c hc⟩ hs,by simpa using I.len⟩ ⟨c,hs,.inr hc⟩
   . exact(hs.2 b (Nl (M9 (M5 e) (I.ok.cab x c hfn hc)))).trans (I.base.keep b o e n hb hx)
   . obtain⟨sl,e1⟩:=I.base.slot b o e n hb hx;exact⟨sl,(hs.2 b (Nl (M9 (M5 e) (I.ok.cab x c hfn hc)))).trans e1⟩
   . obtain⟨o',e1⟩:=I.base.there b o e hx;exact⟨o',(hs.2 b (Nl (M9 (M5 e) (I.ok.cab x c hfn hc)))).trans e1⟩
   . by_cases hj:j=i
     . subst hj;rw[hi] at e1;cases e1;rw[PQ hiσ] at e2;cases e2;exact⟨u,r,.inr ⟨.inl hk,c,hc,hc'⟩⟩
     . rw[List.getElem?_set_ne (Pg hj)] at e2;obtain⟨u',r',q⟩:=hl j y v' e1 e2 e3;refine⟨u',r',?_⟩;rcases q with q | ⟨k,c',e,z'⟩
       . exact .inl q
       . refine .inr ⟨k,c',e,z'.sameBut hs ?_⟩;rintro rfl;exact hj (zI hN e1 (I.ok.inj _ _ _ e hc ▸ hi))
   . by_cases hcc:c'=c
     . subst hcc;exact⟨_,hc'⟩
     . obtain⟨w2,z2⟩:=I.cell y c' e;exact⟨w2,z2.sameBut hs hcc⟩
   . obtain⟨e,n,ne,nf,d⟩:=I.pin p hp;refine⟨(hs.2 p.1 ?_).trans e,n,ne,nf,d⟩;intro q;rw[q,hoc] at e;have q':oc=p.2:=N5 e;exact d w' (by rw[← q'];exact hocd)
theorem zJ {M:Model} {A:Around} {E:Value->Shared->Prop} {i:Nat} {x:Str} {v:V} {u:Value} {Q:Unit->Shared->Prop} (I:Inv X Md σ H s) (hN:X.N.Nodup) (hi:X.N[i]? =some x) (hx:Loc X.env.scope x) (r:RelV v u)
  (h:∀ s',Inv X Md (σ.set i (some v)) H s'->Q () s') (hf:X.fn x=true\/X.env.scope.names.lookup x=some .local:=by first | exact .inl rfl | exact .inr rfl | assumption):wpAny M A (storeName X.env x u) Q E s:=
 xZ I hN hi hx r (fun s' I' _=>h s' I') hf
theorem Inv.call' {s':Shared} {ch:List Addr} (I:Inv X Md σ H s) (ho:s'.os=s.os) (u:Un (frs X.stack) ch H H' s.heap s'.heap) (hok:HOk X.prog X.w H' s'.heap) (hg:AllBare s'.gens)
  (hch:∀ b∈ch,(b∈X.ex\/X.s₀.heap.objs.size<=b)/\b≠X.env.locals/\(∀ x c,X.env.cells.lookup x=some c->c≠b)/\∀ p∈X.pn++Md,p.1≠b):Inv X Md σ H' s':=by
 obtain⟨h',g',d',t',o'⟩:=s';have e:o'=s.os:=ho;subst e;exact I.call (g':=g') (t':=t') (d':=d') u hok hg hch
end
abbrev XK:=Value->Option Addr->Hp->Prop
abbrev St:=List (Option V)
abbrev VK:=V->Hp->Prop
abbrev TE:=St->Hp->VK->Prop
abbrev TT:=St->Hp->(Bool->Hp->Prop)->Prop
abbrev TA:=St->Hp->(List V->Hp->Prop)->Prop
structure Ends where
 nx:St->Hp->Prop
 rt:VK
 bk:St->Hp->Prop:=fun _ _=>False
 ct:St->Hp->Prop:=fun _ _=>False
abbrev TS:=Ends->St->Hp->Prop
def EP(X:Cx)(Md:List (Addr × Obj))(σ:St)(Q:VK)(u:Value)(s':Shared):Prop:=∃ v H',Inv X Md σ H' s'/\RelV v u/\Q v H'
def TP(X:Cx)(Md:List (Addr × Obj))(σ:St)(Q:Bool->Hp->Prop)(b:Bool)(s':Shared):Prop:=∃ H',Inv X Md σ H' s'/\Q b H'
def AP(X:Cx)(Md:List (Addr × Obj))(σ:St)(Q:List V->Hp->Prop)(us:List Value)(s':Shared):Prop:=∃ vs H',Inv X Md σ H' s'/\Vals vs us/\Q vs H'
def SP(X:Cx)(Md:List (Addr × Obj))(D:Ends)(f:Flow)(s':Shared):Prop:=
 match f with
 | .next=>∃ σ' H',Inv X Md σ' H' s'/\D.nx σ' H'
 | .brk=>∃ σ' H',Inv X Md σ' H' s'/\D.bk σ' H'
 | .cont=>∃ σ' H',Inv X Md σ' H' s'/\D.ct σ' H'
 | .ret u=>∃ v σ' H',Inv X Md σ' H' s'/\RelV v u/\D.rt v H'
def PE(X:Cx)(e:Expr)(t:TE):Prop:=
 ∀(Md:List (Addr × Obj)) (s:Shared) (σ:St) (H:Hp) (Q:VK),Inv X Md σ H s->t σ H Q->wpAny (model X.prog X.w) X.A (eval e X.env) (EP X Md σ Q) X.xe s
def PT(X:Cx)(e:Expr)(t:TT):Prop:=
 ∀(Md:List (Addr × Obj)) (s:Shared) (σ:St) (H:Hp) (Q:Bool->Hp->Prop),Inv X Md σ H s->t σ H Q->wpAny (model X.prog X.w) X.A (isTrue e X.env (eval e X.env)) (TP X Md σ Q) X.xe s
def PW(X:Cx)(e:Expr)(t:TT):Prop:=
 ∀(Mp:Sem Value) (Md:List (Addr × Obj)) (s:Shared) (σ:St) (H:Hp) (Q:Bool->Hp->Prop),Inv X Md σ H s->t σ H Q->wpAny (model X.prog X.w) X.A (isTrue e X.env Mp) (TP X Md σ Q) X.xe s
theorem PW.pt{X:Cx}{e:Expr}{t:TT}(h:PW X e t):PT X e t:=h _
abbrev Ou:=@PW.pt
def PA(X:Cx)(es:List Expr)(t:TA):Prop:=
 ∀(pos:Pos) (Md:List (Addr × Obj)) (s:Shared) (σ:St) (H:Hp) (Q:List V->Hp->Prop),Inv X Md σ H s->t σ H Q->wpAny (model X.prog X.w) X.A (spliced (backTo pos (starEach es X.env))) (AP X Md σ Q) X.xe s
def PS(X:Cx)(st:Stmt)(t:TS):Prop:=
 ∀(Md:List (Addr × Obj)) (s:Shared) (σ:St) (H:Hp) (D:Ends),Inv X Md σ H s->t D σ H->wpAny (model X.prog X.w) X.A (exec st X.env) (SP X Md D) X.xe s
def PSs(X:Cx)(st:List Stmt)(t:TS):Prop:=
 ∀(Md:List (Addr × Obj)) (s:Shared) (σ:St) (H:Hp) (D:Ends),Inv X Md σ H s->t D σ H->wpAny (model X.prog X.w) X.A (execs st X.env) (SP X Md D) X.xe s
theorem thn{α:Type}{t:Sem α}{Q Q':α->Shared->Prop}{M:Model}{A:Around}{E:Value->Shared->Prop}{s:Shared}(h:wpAny M A t Q E s)(hQ:∀ a s,Q a s->Q' a s):wpAny M A t Q' E s:=NF h hQ fun _ _ x=>x
section
variable{X:Cx}
def vB:Option (Option V)->(V->Prop)->Prop
 | some (some v),k=>k v
 | _,_=>False
theorem F3{o:Option (Option V)}{k:V->Prop}(h:vB o k):∃ v,o=some (some v)/\k v:=by
 rcases o with _ | _ | v
 . cases h
 . cases h
 . exact⟨v,rfl,h⟩
theorem pX{o:Option (Option V)}{k:V->Prop}{v:V}(e:o=some (some v))(h:k v):vB o k:=by subst e;exact h
def tVar(i:Nat):TE:=fun σ H Q=>vB σ[i]? fun v=>Q v H
def tC(v:V):TE:=fun _ H Q=>Q v H
theorem Hm{i:Nat}{x:Str}{pos:Pos}(hN:X.N[i]? =some x)(hv:Vis X.env.scope x)(hd:(x==("__debug__":Str))=false:=by decide)(hcd:(x==("__classdict__":Str))=false:=by decide):PE X (.Name x pos) (tVar i):=by
 intro Md s σ H Q I h;obtain⟨v,e,h⟩:=F3 h;obtain⟨m,hn,hl⟩:=I.loc;obtain⟨u,r,l⟩:=hl i x v hN e hv;have fin:EP X Md σ Q u s:=⟨v,H,I,r,h⟩;rcases l with ⟨hk,hm⟩ | ⟨hk,c,hc,hcell⟩
 . exact wpAny_Name (wpAny_loadName_local I.ok.kind hk hn hm fin) hd
 . rcases hk with hk | hk
   . exact wpAny_Name (wpAny_loadName_cell I.ok.kind hk hc hcell fin) hd
   . exact wpAny_Name (wpAny_loadName_free I.ok.kind hk hc hcell fin hcd) hd
theorem ah{i j pos}:PE X (.Constant (.int i) j pos) (tC (.int i)):=fun _ _ _ H _ I h=>wpAny_Constant_int ⟨.int i,H,I.tok _,⟨_,rfl⟩,h⟩
theorem bg{b j pos}:PE X (.Constant (.bool b) j pos) (tC (.bl b)):=fun _ _ _ H _ I h=>Constant_bool ⟨.bl b,H,I,rfl,h⟩
theorem iW{j pos}:PE X (.Constant .none j pos) (tC .non):=fun _ _ _ H _ I h=>Constant_none ⟨.non,H,I,rfl,h⟩
theorem aM{x j pos}:PE X (.Constant (.str x) j pos) (tC (.str x)):=fun _ _ _ H _ I h=>Calls.Constant_str ⟨.str x,H,I.tok _,⟨_,rfl⟩,h⟩
def Gl(X:Cx)(x:Str):Prop:=X.env.kindOf x=some .globalImplicit
theorem wV {E:Value->Shared->Prop} {Md:List (Addr × Obj)} {s:Shared} {σ:St} {H:Hp} {x:Str} {u:Value} {pos:Pos} {Q:Value->Shared->Prop} (I:Inv X Md σ H s) (hg:Gl X x) (hm:X.mg x=some u) (h:Q u s)
  (hd:(x==("__debug__":Str))=false:=by decide):wpAny (model X.prog X.w) X.A (eval (.Name x pos) X.env) Q E s:=
 Pk I.ok.kind hg (Calls.loadGlobal_global (by rw[I.ok.glob];exact I.mod.glob.keeps I.bk) hm h) hd
theorem gS {E:Value->Shared->Prop} {Md:List (Addr × Obj)} {s:Shared} {σ:St} {H:Hp} {x:Str} {u:Value} {pos:Pos} {Q:Value->Shared->Prop} (I:Inv X Md σ H s) (hg:Gl X x) (hm:X.mg x=none) (hv:bootBuiltins x=some u) (h:Q u s)
  (hn:x≠"__name__":=by decide) (hd:(x==("__debug__":Str))=false:=by decide):wpAny (model X.prog X.w) X.A (eval (.Name x pos) X.env) Q E s:=by
 obtain⟨mb,h1,h2⟩:=I.mod.blt;exact Pk I.ok.kind hg (Calls.loadGlobal_builtin (by rw[I.ok.glob];exact I.mod.glob.keeps I.bk) hm (by rw[I.ok.blt];exact h1.keeps I.bk) ((h2 x hn).trans hv) h) hd
theorem cp{x:Str}{v:V}{u:Value}{pos:Pos}(hg:Gl X x)(hm:X.mg x=some u)(r:RelV v u)(hd:(x==("__debug__":Str))=false:=by decide):PE X (.Name x pos) (tC v):=
 fun _ _ _ H _ I h=>wV I hg hm ⟨v,H,I,r,h⟩ hd
theorem dI{x:Str}{v:V}{u:Value}{pos:Pos}(hg:Gl X x)(hm:X.mg x=none)(hv:bootBuiltins x=some u)(r:RelV v u)(hn:x≠"__name__":=by decide)(hd:(x==("__debug__":Str))=false:=by decide):PE X (.Name x pos) (tC v):=
 fun _ _ _ H _ I h=>gS I hg hm hv ⟨v,H,I,r,h⟩ hn hd
variable{a b:Expr}{ta tb:TE}{pos:Pos}
def tB(t:TE):TT:=fun σ H Q=>t σ H fun x H1=>∃ c,x=.bl c/\Q c H1
theorem aL{e:Expr}{t:TE}(h:PE X e t)(he:∀ Mp,isTrue e X.env Mp=(do let v ← Mp;standAt e.pos;holding [v] (truthy v)):=by intro _;rfl):PT X e (tB t):=by
 intro Md s σ H Q I hw;refine isTrue_plain (thn (h Md s σ H _ I hw) fun v s1 ⟨x,H1,I1,r1,q1⟩=>?_) (he _);obtain⟨d,rfl,q⟩:=q1;cases r1;exact NZ ⟨H1,I1,q⟩
variable{tA tB':TT}{rest:List Expr}
def tAnd(t u:TT):TT:=fun σ H Q=>t σ H fun c H1=>if c=true then u σ H1 Q else Q false H1
def tOr(t u:TT):TT:=fun σ H Q=>t σ H fun c H1=>if c=true then Q true H1 else u σ H1 Q
def tNot(t:TT):TT:=fun σ H Q=>t σ H fun c H1=>Q (!c) H1
theorem l7(ha:PT X a tA):PW X (.BoolOp .And [a] pos) tA:=by
 intro wh Md s σ H Q I h;refine isTrue_and (thn (ha Md s σ H Q I h) fun c s1 e=>?_)
 cases c with
 | true=>exact isTrue_and_nil e
 | false=>exact e
theorem bC(ha:PT X a tA):PW X (.BoolOp .Or [a] pos) tA:=by
 intro wh Md s σ H Q I h;refine isTrue_or (thn (ha Md s σ H Q I h) fun c s1 e=>?_)
 cases c with
 | false=>exact isTrue_or_nil e
 | true=>exact e
theorem oQ(ha:PT X a tA)(hb:PW X (.BoolOp .And (b::rest) pos) tB'):PW X (.BoolOp .And (a::b::rest) pos) (tAnd tA tB'):=by
 intro wh Md s σ H Q I h;refine isTrue_and (thn (ha Md s σ H _ I h) fun c s1 ⟨H1,I1,q1⟩=>?_)
 cases c with
 | true=>exact hb wh Md s1 σ H1 Q I1 q1
 | false=>exact⟨H1,I1,q1⟩
theorem bj(ha:PT X a tA)(hb:PW X (.BoolOp .Or (b::rest) pos) tB'):PW X (.BoolOp .Or (a::b::rest) pos) (tOr tA tB'):=by
 intro wh Md s σ H Q I h;refine isTrue_or (thn (ha Md s σ H _ I h) fun c s1 ⟨H1,I1,q1⟩=>?_)
 cases c with
 | true=>exact⟨H1,I1,q1⟩
 | false=>exact hb wh Md s1 σ H1 Q I1 q1
theorem be(ha:PT X a tA):PT X (.UnaryOp .Not a pos) (tNot tA):=by
 intro Md s σ H Q I h;exact isTrue_not (ha Md s σ H (fun c H1=>Q (!c) H1) I h)
def tAndV(ta tb:TE):TE:=fun σ H Q=>ta σ H fun x H1=>∃ c,x=.bl c/\if c=true then tb σ H1 Q else Q (.bl false) H1
def tOrV(ta tb:TE):TE:=fun σ H Q=>ta σ H fun x H1=>∃ c,x=.bl c/\if c=true then Q (.bl true) H1 else tb σ H1 Q
def tNotV(ta:TE):TE:=fun σ H Q=>ta σ H fun x H1=>∃ c,x=.bl c/\Q (.bl (!c)) H1
theorem br{op}{t:TE}(h:PE X a t):PE X (.BoolOp op [a] pos) t:=fun Md s σ H Q I hw=>BoolOp_one (h Md s σ H Q I hw)
theorem bm(ha:PE X a ta)(hb:PE X (.BoolOp .And (b::rest) pos) tb):PE X (.BoolOp .And (a::b::rest) pos) (tAndV ta tb):=by
 intro Md s σ H Q I h;refine BoolOp_and (thn (ha Md s σ H _ I h) fun v s1 ⟨x,H1,I1,r1,q1⟩=>?_);obtain⟨c,rfl,q1⟩:=q1;cases r1;refine NZ ?_
 cases c with
 | true=>exact hb Md s1 σ H1 Q I1 q1
 | false=>exact⟨.bl false,H1,I1,rfl,q1⟩
theorem vb(ha:PE X a ta)(hb:PE X (.BoolOp .Or (b::rest) pos) tb):PE X (.BoolOp .Or (a::b::rest) pos) (tOrV ta tb):=by
 intro Md s σ H Q I h;refine BoolOp_or (thn (ha Md s σ H _ I h) fun v s1 ⟨x,H1,I1,r1,q1⟩=>?_);obtain⟨c,rfl,q1⟩:=q1;cases r1;refine NZ ?_
 cases c with
 | false=>exact hb Md s1 σ H1 Q I1 q1
 | true=>exact⟨.bl true,H1,I1,rfl,q1⟩
theorem DK(ha:PE X a ta):PE X (.UnaryOp .Not a pos) (tNotV ta):=by
 intro Md s σ H Q I h;refine UnaryOp_ (thn (ha Md s σ H _ I h) fun v s1 ⟨x,H1,I1,r1,q1⟩=>?_);obtain⟨c,rfl,q1⟩:=q1;cases r1;exact not_of (NZ ⟨.bl (!c),H1,I1,rfl,q1⟩)
def tIf(t:TT)(ta tb:TE):TE:=fun σ H Q=>t σ H fun c H1=>if c=true then ta σ H1 Q else tb σ H1 Q
theorem fL{c:Expr}(hc:PT X c tA)(ha:PE X a ta)(hb:PE X b tb):PE X (.IfExp c a b pos) (tIf tA ta tb):=by
 intro Md s σ H Q I h;refine wpAny_IfExp (thn (hc Md s σ H _ I h) fun d s1 ⟨H1,I1,q1⟩=>?_)
 cases d with
 | true=>exact ha Md s1 σ H1 Q I1 q1
 | false=>exact hb Md s1 σ H1 Q I1 q1
end
def SqL(K:Frag)(H:Hp)(a:Addr)(xs:List V):Prop:=
 Rd H a (.lst xs)\/
  ∃(o:Obj) (Mi:Array Value) (n:Nat),K.lookup a=some o/\o.cls=.type "list"/\o.dict=none/\o.data=.seq Mi n/\Mi.size<=sizeLine/\Vals xs Mi.toList
def SqT(K:Frag)(H:Hp)(a:Addr)(xs:List V):Prop:=
 Rd H a (.tup xs)\/
  ∃(o:Obj) (Mi:Array Value) (n:Nat),K.lookup a=some o/\o.cls=.type "tuple"/\o.data=.seq Mi n/\Mi.size<=sizeLine/\Vals xs Mi.toList
def absV:Value->Option V
 | .none=>some .non
 | .bool b=>some (.bl b)
 | .int i _=>some (.int i)
 | .str x _=>some (.str x)
 | .bytes b _=>some (.byt b)
 | .float b _=>some (.flt b)
 | .ref a=>some (.ref a)
 | .type n=>some (.ty n)
 | _=>none
variable{u:Value}
theorem RelV.abs{x:V}(r:RelV x u):absV u=some x:=by
 cases x with
 | non=>cases r;rfl
 | bl _=>cases r;rfl
 | int _=>obtain⟨t,rfl⟩:=r;rfl
 | str _=>obtain⟨t,rfl⟩:=r;rfl
 | byt _=>obtain⟨t,rfl⟩:=r;rfl
 | flt _=>obtain⟨t,rfl⟩:=r;rfl
 | ref _=>cases r;rfl
 | ty _=>cases r;rfl
theorem RelV.inj{x y:V}(r:RelV x u)(q:RelV y u):x=y:=N5 (r.abs.symm.trans q.abs)
theorem Vals.inj:∀{xs ys:List V} {us:List Value},Vals xs us->Vals ys us->xs=ys
 | _,_,_,.nil,.nil=>rfl
 | _,_,_,.cons r t,.cons r' t'=>by rw[r.inj r',Vals.inj t t']
section
variable{X:Cx}{Md:List (Addr × Obj)}{σ:St}{H:Hp}{s:Shared}{a:Addr}{xs ys:List V}
theorem SqL.of{K:Frag}(h:H a=some (.lst xs)):SqL K H a xs:=.inl (.inl h)
abbrev MO:=@SqL.of
theorem SqT.of{K:Frag}(h:H a=some (.tup xs)):SqT K H a xs:=.inl (.inl h)
abbrev Qa:=@SqT.of
theorem Inv.list(I:Inv X Md σ H s)(h:SqL X.K H a xs):∃ Mi:List Value,Vals xs Mi/\PlainL s.heap a Mi.toArray/\xs.length<=sizeLine:=by
 rcases h with h | ⟨o,Mi,n,hk,hc,hd,hs,hz,r⟩
 . obtain⟨z,Mi,n,r,e⟩:=h.ok I.hok;exact⟨Mi,r,⟨_,n,e,rfl,rfl,rfl⟩,z⟩
 . refine⟨Mi.toList,r,⟨o,n,I.kIn a o hk,hc,hd,by simpa using hs⟩,?_⟩;have e:=r.length;simp only[OD] at e;omega
theorem Inv.tuple(I:Inv X Md σ H s)(h:SqT X.K H a xs):∃ Mi:List Value,Vals xs Mi/\IsTup s.heap a Mi.toArray/\xs.length<=sizeLine:=by
 rcases h with h | ⟨o,Mi,n,hk,hc,hs,hz,r⟩
 . obtain⟨z,Mi,r,p⟩:=h.ok I.hok;exact⟨Mi,r,p,z⟩
 . refine⟨Mi.toList,r,⟨o,I.kIn a o hk,hc,n,by simpa using hs⟩,?_⟩;have e:=r.length;simp only[OD] at e;omega
theorem Inv.list_inj(I:Inv X Md σ H s)(h:SqL X.K H a xs)(h':SqL X.K H a ys):xs=ys:=by
 obtain⟨Mi,r,⟨o,n,e,_,_,d⟩,_⟩:=I.list h;obtain⟨its',r',⟨o',n',e',_,_,d'⟩,_⟩:=I.list h';rw[e] at e';cases e';rw[d] at d';injection d' with d1 _;have:Mi=its':=by simpa using congrArg Array.toList d1
 subst this;exact r.inj r'
theorem Inv.tuple_inj(I:Inv X Md σ H s)(h:SqT X.K H a xs)(h':SqT X.K H a ys):xs=ys:=by
 obtain⟨Mi,r,⟨o,e,_,n,d⟩,_⟩:=I.tuple h;obtain⟨its',r',⟨o',e',_,n',d'⟩,_⟩:=I.tuple h';rw[e] at e';cases e';rw[d] at d';injection d' with d1 _;have:Mi=its':=by simpa using congrArg Array.toList d1
 subst this;exact r.inj r'
end
abbrev Cx.wish(X:Cx)(E:Value->Shared->Prop):Cx:={X with xe:=E}
abbrev Cx.nox(X:Cx):Cx:=X.wish fun _ _=>False
variable{X:Cx}
theorem Cx.Ok.wish(ok:X.Ok)(E:Value->Shared->Prop):(X.wish E).Ok:=
 ⟨ok.mod,ok.kind,ok.glob,ok.blt,ok.above,ok.inj,ok.has,ok.cab,ok.hd,ok.frames,ok.stk,ok.exf,ok.bs,ok.bsz,ok.noex,ok.exfs,ok.funs,ok.frf⟩
variable{E:Value->Shared->Prop}
theorem Cx.Ok.unwish(ok:(X.wish E).Ok):X.Ok:=
 ⟨ok.mod,ok.kind,ok.glob,ok.blt,ok.above,ok.inj,ok.has,ok.cab,ok.hd,ok.frames,ok.stk,ok.exf,ok.bs,ok.bsz,ok.noex,ok.exfs,ok.funs,ok.frf⟩
section
variable{X:Cx}{Md:List (Addr × Obj)}{σ:St}{H:Hp}{s:Shared}{E:Value->Shared->Prop}
theorem Inv.wish(I:Inv X Md σ H s)(E:Value->Shared->Prop):Inv (X.wish E) Md σ H s:=⟨I.ok.wish E,I.os,I.bare,I.base,I.loc,I.cell,I.free,I.freeC,I.pin,I.hok,I.len⟩
theorem Inv.unwish(I:Inv (X.wish E) Md σ H s):Inv X Md σ H s:=⟨I.ok.unwish,I.os,I.bare,I.base,I.loc,I.cell,I.free,I.freeC,I.pin,I.hok,I.len⟩
theorem SP.unwish{D:Ends}{f:Flow}{s':Shared}(h:SP (X.wish E) Md D f s'):SP X Md D f s':=by
 cases f with
 | next=>obtain⟨σ',H',I,q⟩:=h;exact⟨σ',H',I.unwish,q⟩
 | brk=>obtain⟨σ',H',I,q⟩:=h;exact⟨σ',H',I.unwish,q⟩
 | cont=>obtain⟨σ',H',I,q⟩:=h;exact⟨σ',H',I.unwish,q⟩
 | ret u=>obtain⟨v,σ',H',I,r,q⟩:=h;exact⟨v,σ',H',I.unwish,r,q⟩
theorem PSs.nox{st:List Stmt}{t:TS}(h:PSs X.nox st t):PSs X st t:=fun Md s σ H D I hw=>
 NF (h Md s σ H D (I.wish _) hw) (fun _ _ q=>q.unwish) fun _ _ z=>False.elim z
end
section
variable{X:Cx}{st:Stmt}{rest:List Stmt}{t u:TS}{e:Expr}{te:TE}{pos:Pos}
def tNext:TS:=fun D σ H=>D.nx σ H
def tSeq(t u:TS):TS:=fun D σ H=>t {D with nx:=u D} σ H
theorem ap:PSs X [] tNext:=fun _ _ σ H _ I h=>O8 ⟨σ,H,I,h⟩
theorem ae(h1:PS X st t)(h2:PSs X rest u):PSs X (st::rest) (tSeq t u):=by
 intro Md s σ H D I h;refine wpAny_execs_cons (thn (h1 Md s σ H {D with nx:=u D} I h) fun f s1 q=>?_)
 cases f with
 | next=>
  obtain⟨σ',H',I',q⟩:=q;exact h2 Md s1 σ' H' D I' q
 | ret v=>exact q
 | brk=>exact q
 | cont=>exact q
theorem af(h1:PS X st t):PSs X [st] t:=by
 intro Md s σ H D I h;refine wpAny_execs_cons (thn (h1 Md s σ H D I h) fun f s1 q=>?_)
 cases f with
 | next=>exact O8 q
 | ret v=>exact q
 | brk=>exact q
 | cont=>exact q
theorem Inv.quiet{Md:List (Addr × Obj)}{σ:St}{H:Hp}{s:Shared}(I:Inv X Md σ H s):interactive X.env=false:=by simp[interactive,I.ok.kind]
def tDrop(te:TE):TS:=fun D σ H=>te σ H fun _ H1=>D.nx σ H1
theorem cq(he:PE X e te)(hs:swapsWith e none pos.line X.env=pure false:=by rfl):PS X (.Expr e pos) (tDrop te):=by
 intro Md s σ H D I h;exact wpAny_Expr_any (thn (he Md s σ H _ I h) fun v s1 ⟨x,H1,I1,r1,q1⟩=>⟨σ,H1,I1,q1⟩) I.quiet hs
def tRet(te:TE):TS:=fun D σ H=>te σ H D.rt
theorem ai(he:PE X e te):PS X (.Return (some e) pos) (tRet te):=by
 intro Md s σ H D I h;exact wpAny_Return_some (thn (he Md s σ H _ I h) fun v s1 ⟨x,H1,I1,r1,q1⟩=>⟨x,σ,H1,I1,r1,q1⟩)
def tRetN:TS:=fun D _ H=>D.rt .non H
def tIfS(c:TT)(t u:TS):TS:=fun D σ H=>c σ H fun b H1=>if b=true then t D σ H1 else u D σ H1
theorem aw{c:Expr}{a b:List Stmt}{tc:TT}(hc:PT X c tc)(ha:PSs X a t)(hb:PSs X b u):PS X (.If c a b pos) (tIfS tc t u):=by
 intro Md s σ H D I h;refine wpAny_If (thn (hc Md s σ H _ I h) fun d s1 ⟨H1,I1,q1⟩=>?_)
 cases d with
 | true=>exact ha Md s1 σ H1 D I1 q1
 | false=>exact hb Md s1 σ H1 D I1 q1
def cw:TS:=fun _ _ _=>False
theorem bG:PS X st cw:=fun _ _ _ _ _ _ h=>h.elim
end
abbrev TG:=V->St->Hp->(St->Hp->Prop)->Prop
abbrev TGs:=List V->St->Hp->(St->Hp->Prop)->Prop
def PG(X:Cx)(target:Expr)(t:TG):Prop:=
 ∀(Md:List (Addr × Obj)) (s:Shared) (σ:St) (H:Hp) (v:V) (u:Value) (Q:St->Hp->Prop),Inv X Md σ H s->RelV v u->t v σ H Q->
  wpAny (model X.prog X.w) X.A (assign target X.env u) (fun _ s'=>∃ σ' H',Inv X Md σ' H' s'/\Q σ' H') X.xe s
def PGs(X:Cx)(ts:List Expr)(t:TGs):Prop:=
 ∀(Md:List (Addr × Obj)) (s:Shared) (σ:St) (H:Hp) (vs:List V) (us:List Value) (Q:St->Hp->Prop),Inv X Md σ H s->Vals vs us->t vs σ H Q->
  wpAny (model X.prog X.w) X.A (assignInOrder ((assignEach ts X.env).map (·.2)) us) (fun _ s'=>∃ σ' H',Inv X Md σ' H' s'/\Q σ' H') X.xe s
abbrev TSet:=V->V->V->Hp->(Hp->Prop)->Prop
def PSet(X:Cx)(t:TSet):Prop:=
 ∀(Md:List (Addr × Obj)) (s:Shared) (σ:St) (H:Hp) (o i v:V) (ov iv u:Value) (Q:Hp->Prop),Inv X Md σ H s->RelV o ov->RelV i iv->RelV v u->t o i v H Q->
  wpAny (model X.prog X.w) X.A (setItem ov iv u) (fun _ s'=>∃ H',Inv X Md σ H' s'/\Q H') X.xe s
section
variable{X:Cx}{pos:Pos}
def gName(i:Nat):TG:=fun v σ H Q=>Q (σ.set i (some v)) H
theorem ar{i:Nat}{x:Str}(hN:X.N.Nodup)(hi:X.N[i]? =some x)(hx:Loc X.env.scope x)(hf:X.fn x=true\/X.env.scope.names.lookup x=some .local:=by first | exact .inl rfl | exact .inr rfl | assumption):PG X (.Name x pos) (gName i):=by
 intro Md s σ H v u Q I r h;exact wpAny_assign_Name (zJ I hN hi hx r (fun s' I'=>⟨_,H,I',h⟩) hf)
def gNil:TGs:=fun vs σ H Q=>vs=[]/\Q σ H
def gCons(t:TG)(u:TGs):TGs:=fun vs σ H Q=>∃ v r,vs=v::r/\t v σ H fun σ' H'=>u r σ' H' Q
theorem oR:PGs X [] gNil:=by
 intro Md s σ H vs us Q I r h;obtain⟨e,h⟩:=h;subst e;cases r;exact assignInOrder_nil ⟨σ,H,I,h⟩
theorem b8 {e:Expr} {es:List Expr} {t:TG} {u:TGs} (h1:PG X e t) (h2:PGs X es u)
  (hs:(assignEach (e::es) X.env).map (·.2)=assign e X.env::(assignEach es X.env).map (·.2):=by rfl):PGs X (e::es) (gCons t u):=by
 intro Md s σ H vs us Q I r h;obtain⟨v,vr,e1,h⟩:=h;subst e1
 cases r with
 | cons r rr=>
  rw[hs];refine assignInOrder_cons (thn (h1 Md s σ H _ _ _ I r h) fun _ s1 ⟨σ1,H1,I1,q1⟩=>?_);exact h2 Md s1 σ1 H1 _ _ Q I1 rr q1
def gTup(K:Frag)(n:Nat)(t:TGs):TG:=fun v σ H Q=>∃ a xs,v=.ref a/\SqT K H a xs/\xs.length=n/\t xs σ H Q
theorem qS {es:List Expr} {k:Nat} {t:TGs} {n:Nat} (hc:X.calm=true) (h:PGs X es t)
  (hn:(assignEach es X.env).length=n:=by rfl) (hst:(assignEach es X.env).findIdx? (·.1)=none:=by rfl):PG X (.Tuple es k pos) (gTup X.K n t):=by
 intro Md s σ H v u Q I r hw;obtain⟨a,xs,e1,hq,hl,hw⟩:=hw;subst e1;cases r;obtain⟨Mi,rv,ht,hz⟩:=I.tuple hq;refine assign_Tuple_tuple (I.ok.hd hc) ht (by simp[hn,← hl,rv.length]) hst fun h' hx=>?_;have I1:Inv X Md σ H {s with heap:=h'}:=I.kept (t':=s.toks) fun b o e=>hx b o (Nl (M5 e)) e;exact h Md _ σ H xs _ Q I1 (by simpa using rv) hw
def gSub(to ti:TE)(t:TSet):TG:=fun v σ H Q=>to σ H fun o H1=>ti σ H1 fun i H2=>t o i v H2 fun H3=>Q σ H3
theorem Hn {o i:Expr} {to ti:TE} {t:TSet} (ho:PE X o to) (hi:PE X i ti) (hs:PSet X t)
  (ha:∀ v,assign (.Subscript o i pos) X.env v=(do
   let ov ← holding [v] (eval o X.env);let iv ← holding [v,ov] (eval i X.env)
   standAt pos
   holding [v,ov,iv] (setItem ov iv v)
   release [v,ov,iv] []):=by intro _;rfl):PG X (.Subscript o i pos) (gSub to ti t):=by
 intro Md s σ H v u Q I r h;rw[ha];refine Nb (PC (thn (ho Md s σ H _ I h) fun ov s1 ⟨x,H1,I1,r1,q1⟩=>?_));refine Nb (PC (thn (hi Md s1 σ H1 _ I1 q1) fun iv s2 ⟨y,H2,I2,r2,q2⟩=>?_));refine Nb (Qd (Nb (PC (thn (hs Md s2 σ H2 x y v ov iv u _ I2 r1 r2 r q2) fun _ s3 ⟨H3,I3,q3⟩=>?_))));exact wpAny_release ⟨σ,H3,I3,q3⟩
def tAsg(te:TE)(g:TG):TS:=fun D σ H=>te σ H fun x H1=>g x σ H1 D.nx
theorem zK {tg e:Expr} {te:TE} {g:TG} (he:PE X e te) (hg:PG X tg g) (hs:swapsWithSole [tg] e pos.line X.env=pure false:=by rfl) (hw:swappedStores [tg] e X.env=pure none:=by rfl)
  (h1:(assignEach [tg] X.env).map (·.2)=[assign tg X.env]:=by rfl):PS X (.Assign [tg] e pos) (tAsg te g):=by
 intro Md s σ H D I h;refine wpAny_Assign_stores (thn (he Md s σ H _ I h) fun v s1 ⟨x,H1,I1,r1,q1⟩=>?_) hs hw;rw[h1];exact thn (hg Md s1 σ H1 x v _ I1 r1 q1) fun _ s2 q=>q
theorem eh{i:Nat}{x:Str}{e:Expr}{te:TE}{pos':Pos}(hN:X.N.Nodup)(hi:X.N[i]? =some x)(hx:Loc X.env.scope x)(he:PE X e te)(hs:swapsWith e (some (.Name x pos')) pos.line X.env=pure false:=by rfl)(hf:X.fn x=true\/X.env.scope.names.lookup x=some .local:=by first | exact .inl rfl | exact .inr rfl | assumption):
  PS X (.Assign [.Name x pos'] e pos) (tAsg te (gName i)):=by
 intro Md s σ H D I h;refine wpAny_Assign_Name (thn (he Md s σ H _ I h) fun v s1 ⟨y,H1,I1,r1,q1⟩=>?_) hs;exact zJ I1 hN hi hx r1 (fun s2 I2=>⟨_,H1,I2,q1⟩) hf
end
section
variable{X:Cx}{pos:Pos}
def zL(c:TT)(tb:TS):TS:=fun D σ H=>∃ W:Nat->St->Hp->Prop,(∃ m,W m σ H)/\∀ m σ H,W m σ H->
 c σ H fun b H1=>if b=true then ∃ N:St->Hp->Prop,(∀ σ' H',N σ' H'->∃ m',m'<m/\W m' σ' H')/\tb {D with nx:=N,ct:=N,bk:=D.nx} σ H1 else D.nx σ H1
theorem zM{c:Expr}{body:List Stmt}{tc:TT}{tb:TS}(hp:PassesOwn (model X.prog X.w) X.A X.env X.xe)(hc:PT X c tc)(hb:PSs X body tb):PS X (.While c body [] pos) (zL tc tb):=by
 intro Md s σ H D I h;obtain⟨W,⟨m0,w0⟩,turn⟩:=h;refine wpAny_While (codeAny_whileLoop (fun n s'=>∃ σ' H',Inv X Md σ' H' s'/\W n σ' H') ?_ m0 ⟨σ,H,I,w0⟩);rintro n s1 ⟨σ1,H1,I1,w1⟩;refine Od hp (thn (hc Md s1 σ1 H1 _ I1 (turn n σ1 H1 w1)) fun b s2 ⟨H2,I2,q2⟩=>?_)
 cases b with
 | true=>
  obtain⟨N,hN,q2⟩:=q2;rw[MU rfl];refine Od hp (thn (hb Md s2 σ1 H2 _ I2 q2) fun f s3 q3=>?_)
  cases f with
  | next=>
   obtain⟨σ3,H3,I3,n3⟩:=q3;obtain⟨m',hm,w3⟩:=hN σ3 H3 n3;exact⟨m',hm,σ3,H3,I3,w3⟩
  | cont=>
   obtain⟨σ3,H3,I3,n3⟩:=q3;obtain⟨m',hm,w3⟩:=hN σ3 H3 n3;exact⟨m',hm,σ3,H3,I3,w3⟩
  | brk=>exact q3
  | ret v=>exact q3
 | false=>
  rw[MP ME];exact O8 ⟨σ1,H2,I2,q2⟩
end
structure It where
 go:Nat->Hp->Prop
 yld:Nat->Hp->V->Hp->Prop
 stop:Nat->Hp->Prop
def FpOk(X:Cx)(Md:List (Addr × Obj))(H:Hp)(b:Addr):Prop:=
 H b=none/\b≠X.env.locals/\b∉X.fs/\(b∈X.ex\/X.s₀.heap.objs.size<=b)/\(∀ x c,X.env.cells.lookup x=some c->c≠b)/\∀ p∈X.pn++Md,p.1≠b
variable{s:Shared}
theorem Inv.fpOk{Md:List (Addr × Obj)}{σ:St}{H H':Hp}{b:Addr}(I:Inv X Md σ H s)(hb:s.heap.objs.size<=b)(hn:H' b=none):FpOk X Md H' b:=by
 refine⟨hn,Ph (M9 I.lt hb),I.nofs hb,.inr (ML I.sz hb),fun x c e z=>?_,fun p hp z=>?_⟩
 . obtain⟨v,q⟩:=I.cell x c e;exact absurd (M9 q.lt (by rw[z];exact hb)) (NS _)
 . exact absurd (M9 (M5 (I.pin p hp).1) (by rw[z];exact hb)) (NS _)
structure Turn(P:Program)(w:World)(K:Frag)(tg:Expr)(J:It)(fp:List Addr)(it:Addr)(tn:Nat->Heap->Prop):Prop where
 mem:it∈fp
 obj:∀ i h,tn i h->∀ b∈fp,∃ o,h.get? b=some o/\∀ v,o.data≠.cell v
 keep:∀ i h h',tn i h->(∀ b∈fp,∀ o,h.get? b=some o->h'.get? b=some o)->tn i h'
 item:∀(X:Cx),X.prog=P->X.w=w->X.K=K->X.calm=true->∀(i:Nat) (Md:List (Addr × Obj)) (s:Shared) (σ:St) (H:Hp) (E:Value->Shared->Prop),Inv X Md σ H s->(∀ b∈fp,FpOk X Md H b)->tn i s.heap->J.go i H->
  wpAny (model P w) X.A (pyNext (.ref it)) (fun r s1=>∃ u,r=some u/\
   wpAny (model P w) X.A (letOwnedTupleGo tg (.ref it) u) (fun _ s2=>∃ x H',Inv X Md σ H' s2/\RelV x u/\J.yld i H x H'/\tn (i+1) s2.heap/\∀ b∈fp,H' b=none) E s1) E s
 done:∀(X:Cx),X.prog=P->X.w=w->X.K=K->X.calm=true->∀(i:Nat) (Md:List (Addr × Obj)) (s:Shared) (σ:St) (H:Hp) (E:Value->Shared->Prop),Inv X Md σ H s->(∀ b∈fp,FpOk X Md H b)->tn i s.heap->J.stop i H->
  wpAny (model P w) X.A (pyNext (.ref it)) (fun r s1=>r=none/\Inv X Md σ H s1) E s
 self:∀(A:Around) (i:Nat) (s:Shared) (Q:Value->Shared->Prop) (E:Value->Shared->Prop),tn i s.heap->Q (.ref it) s->wpAny (model P w) A (pyIter (.ref it)) Q E s
abbrev TI:=St->Hp->(It->Hp->Prop)->Prop
def PIE(X:Cx)(Md:List (Addr × Obj))(σ:St)(tg:Expr)(R:It->Hp->Prop)(itv:Value)(s2:Shared):Prop:=
 ∃(it:Addr) (fp:List Addr) (tn:Nat->Heap->Prop) (J:It) (H':Hp),itv=.ref it/\Inv X Md σ H' s2/\Turn X.prog X.w X.K tg J fp it tn/\tn 0 s2.heap/\(∀ b∈fp,FpOk X Md H' b)/\R J H'
def PI(X:Cx)(tg iter:Expr)(wi:TI):Prop:=
 ∀(Md:List (Addr × Obj)) (s:Shared) (σ:St) (H:Hp) (R:It->Hp->Prop),Inv X Md σ H s->wi σ H R->
  wpAny (model X.prog X.w) X.A (eval iter X.env) (fun v s1=>wpAny (model X.prog X.w) X.A (pyIter v) (PIE X Md σ tg R) X.xe s1) X.xe s
variable{tg:Expr}
theorem zy {M:Model} {A:Around} {it:Addr} {o:Obj} {n:String} {vs:Array Value} {Q:Unit->Shared->Prop} (ho:s.heap.get? it=some o) (hc:o.cls=.type n) (hd:o.data=.fields vs)
  (hn:["enumerate","zip","dict_itemiterator","dict_reverseitemiterator","odict_iterator","itertools.zip_longest","itertools.pairwise"].contains n=false) (hQ:Q () s):wpAny M A (letOwnedTupleGo tg (.ref it) u) Q E s:=by
 unfold letOwnedTupleGo
 cases tg <;> first
  | exact No hQ
  | (cases u <;> first
    | exact No hQ
    | (refine Nb (wpAny_load ho ?_)
       rw[hc,hd];show wpAny M A (if (["enumerate","zip","dict_itemiterator","dict_reverseitemiterator","odict_iterator","itertools.zip_longest","itertools.pairwise"].contains n&&vs[0]? ==some (rawInt _))=true then _ else _) Q E s;rw[MP (by intro h;rw[hn,MQ] at h;cases h)];exact No hQ))
def Itl(K:Frag)(a:Addr):It:=
 ⟨fun i H=>∃ xs x,SqL K H a xs/\xs[i]? =some x,fun i H x H'=>H'=H/\∀ xs,SqL K H a xs->xs[i]? =some x,fun i H=>∃ xs,SqL K H a xs/\xs.length<=i⟩
def Itt(K:Frag)(a:Addr):It:=
 ⟨fun i H=>∃ xs x,SqT K H a xs/\xs[i]? =some x,fun i H x H'=>H'=H/\∀ xs,SqT K H a xs->xs[i]? =some x,fun i H=>∃ xs,SqT K H a xs/\xs.length<=i⟩
def Itr(lo:Int)(n:Nat):It:=⟨fun i _=>i<n,fun i H x H'=>H'=H/\x=.int (lo+i),fun i _=>n<=i⟩
variable{P:Program}{w:World}{K:Frag}
theorem DL(a it:Addr):Turn P w K tg (Itl K a) [it] it (fun i h=>h.IsListIter it a i) where
 mem:=by simp
 obj:=fun i h st b hb=>by
  have e:b=it:=by simpa using hb
  subst e;obtain⟨o,e,c,d⟩:=st;exact⟨o,e,fun v z=>by rw[d] at z;cases z⟩
 keep:=fun i h h' st k=>st.at fun o e=>k it (by simp) o e
 item:=by
  intro X hP hw hK hc i Md s σ H E I hf st hg;subst hP hw hK;obtain⟨xs,x,hq,hx⟩:=hg;obtain⟨Mi,rv,p,hz⟩:=I.list hq;obtain⟨u,hu,ru⟩:=rv.get hx;obtain⟨f0,f1,f2,f3,f4,f5⟩:=hf it (by simp);refine wpAny_pyNext_list_item st p.isList (x:=u) (by simpa using hu) fun h' st' sb=>?_;have I1:Inv X Md σ H {s with heap:=h'}:=I.turned (t':=s.toks) (fun b o hb e=>(sb.2 b hb).trans e) f0 f1 f3 f4 f5;obtain⟨o,e,c,d⟩:=id st';exact⟨u,rfl,zy (s:={s with heap:=h'}) e c d (by decide) ⟨x,H,I1,ru,⟨rfl,fun ys hy=>by rw[I.list_inj hy hq];exact hx⟩,st',fun b hb=>(hf b hb).1⟩⟩
 done:=by
  intro X hP hw hK hc i Md s σ H E I hf st hg;subst hP hw hK;obtain⟨xs,hq,hx⟩:=hg;obtain⟨Mi,rv,p,hz⟩:=I.list hq;obtain⟨f0,f1,f2,f3,f4,f5⟩:=hf it (by simp);have hl:=rv.length;exact wpAny_pyNext_list_end (I.ok.hd hc) st p.isList (by simp;omega) fun h' eb=>⟨rfl,I.turned (t':=s.toks) (fun b o hb e=>eb b o hb e) f0 f1 f3 f4 f5⟩
 self:=fun _ _ _ _ _ st h=>wpAny_pyIter_listiter st h
theorem CK(a it:Addr):Turn P w K tg (Itt K a) [it] it (fun i h=>h.IsTupleIter it a i) where
 mem:=by simp
 obj:=fun i h st b hb=>by
  have e:b=it:=by simpa using hb
  subst e;obtain⟨o,e,c,d⟩:=st;exact⟨o,e,fun v z=>by rw[d] at z;cases z⟩
 keep:=fun i h h' st k=>st.at fun o e=>k it (by simp) o e
 item:=by
  intro X hP hw hK hc i Md s σ H E I hf st hg;subst hP hw hK;obtain⟨xs,x,hq,hx⟩:=hg;obtain⟨Mi,rv,p,hz⟩:=I.tuple hq;obtain⟨u,hu,ru⟩:=rv.get hx;obtain⟨f0,f1,f2,f3,f4,f5⟩:=hf it (by simp);refine wpAny_pyNext_tuple_item st (show s.heap.IsTuple a Mi.toArray from p) (x:=u) (by simpa using hu) fun h' st' sb=>?_;have I1:Inv X Md σ H {s with heap:=h'}:=I.turned (t':=s.toks) (fun b o hb e=>(sb.2 b hb).trans e) f0 f1 f3 f4 f5;obtain⟨o,e,c,d⟩:=id st';exact⟨u,rfl,zy (s:={s with heap:=h'}) e c d (by decide) ⟨x,H,I1,ru,⟨rfl,fun ys hy=>by rw[I.tuple_inj hy hq];exact hx⟩,st',fun b hb=>(hf b hb).1⟩⟩
 done:=by
  intro X hP hw hK hc i Md s σ H E I hf st hg;subst hP hw hK;obtain⟨xs,hq,hx⟩:=hg;obtain⟨Mi,rv,p,hz⟩:=I.tuple hq;obtain⟨f0,f1,f2,f3,f4,f5⟩:=hf it (by simp);have hl:=rv.length;exact wpAny_pyNext_tuple_end (I.ok.hd hc) st (show s.heap.IsTuple a Mi.toArray from p) (by simp;omega) fun h' eb=>⟨rfl,I.turned (t':=s.toks) (fun b o hb e=>eb b o hb e) f0 f1 f3 f4 f5⟩
 self:=fun _ _ _ _ _ st h=>wpAny_pyIter_tupleiter st h
theorem CL(it:Addr)(lo:Int)(n:Nat):Turn P w K tg (Itr lo n) [it] it (fun i h=>IsRangeIter h it (lo+(i:Nat)*1) ((n:Int) - (i:Nat)) 1) where
 mem:=by simp
 obj:=fun i h st b hb=>by
  have e:b=it:=by simpa using hb
  subst e
  exact⟨_,st,fun v z=>by
   have z':Data.fields _=Data.cell v:=z;cases z'⟩
 keep:=fun i h h' st k=>k it (by simp) _ st
 item:=by
  intro X hP hw hK hc i Md s σ H E I hf st hg;subst hP hw hK;obtain⟨f0,f1,f2,f3,f4,f5⟩:=hf it (by simp);have W:=Walks.range (prog:=X.prog) (w:=X.w) (I.ok.hd hc) it lo 1 n;refine W.item i s _ _ hg st fun v h' tk hv st' kk=>?_;obtain⟨t,rfl⟩:=hv;have I1:Inv X Md σ H {s with heap:=h',toks:=tk}:=I.turned (fun b o hb e=>kk b o (by simpa using hb) e) f0 f1 f3 f4 f5;refine⟨_,rfl,zy (s:={s with heap:=h',toks:=tk}) (n:="range_iterator") st' rfl rfl (by decide) ⟨.int (lo+i),H,I1,⟨t,?_⟩,⟨rfl,rfl⟩,st',fun b hb=>(hf b hb).1⟩⟩;rw[Int.mul_one]
 done:=by
  intro X hP hw hK hc i Md s σ H E I hf st hg;subst hP hw hK;obtain⟨f0,f1,f2,f3,f4,f5⟩:=hf it (by simp);exact wpAny_pyNext_range_end (I.ok.hd hc) st (by have:n<=i:=hg;omega) fun h' eb=>⟨rfl,I.turned (t':=s.toks) (fun b o hb e=>eb b o hb e) f0 f1 f3 f4 f5⟩
 self:=fun _ _ _ _ _ st h=>wpAny_pyIter_rangeiter st h
section
variable{X:Cx}{tg:Expr}
def iList(K:Frag)(tl:TE):TI:=fun σ H R=>tl σ H fun x H1=>∃ a,x=.ref a/\(∃ xs,SqL K H1 a xs)/\R (Itl K a) H1
def iTup(K:Frag)(tl:TE):TI:=fun σ H R=>tl σ H fun x H1=>∃ a,x=.ref a/\(∃ xs,SqT K H1 a xs)/\R (Itt K a) H1
theorem az{l:Expr}{tl:TE}(hl:PE X l tl):PI X tg l (iList X.K tl):=by
 intro Md s σ H R I h;refine thn (hl Md s σ H _ I h) fun v s1 ⟨x,H1,I1,r1,q1⟩=>?_;obtain⟨a,e,⟨xs,hq⟩,q⟩:=q1;subst e;cases r1;obtain⟨Mi,rv,p,hz⟩:=I1.list hq;refine OL p.isList ?_;refine⟨s1.heap.objs.size,[s1.heap.objs.size],_,_,H1,rfl,I1.kept (t':=s1.toks) fun b o e=>MV _ e,DL a _,⟨_,Nf _ rfl,rfl,rfl⟩,fun b hb=>?_,q⟩;have e:b=s1.heap.objs.size:=by simpa using hb
 subst e;exact I1.fpOk (MW _) (I1.hok.fresh (MW _))
theorem vc{l:Expr}{tl:TE}(hl:PE X l tl):PI X tg l (iTup X.K tl):=by
 intro Md s σ H R I h;refine thn (hl Md s σ H _ I h) fun v s1 ⟨x,H1,I1,r1,q1⟩=>?_;obtain⟨a,e,⟨xs,hq⟩,q⟩:=q1;subst e;cases r1;obtain⟨Mi,rv,p,hz⟩:=I1.tuple hq;refine wpAny_pyIter_tuple (show s1.heap.IsTuple a Mi.toArray from p) ?_;refine⟨s1.heap.objs.size,[s1.heap.objs.size],_,_,H1,rfl,I1.kept (t':=s1.toks) fun b o e=>MV _ e,CK a _,⟨_,Nf _ rfl,rfl,rfl⟩,fun b hb=>?_,q⟩;have e:b=s1.heap.objs.size:=by simpa using hb
 subst e;exact I1.fpOk (MW _) (I1.hok.fresh (MW _))
theorem zN {Md:List (Addr × Obj)} {σ:St} {H:Hp} {s:Shared} {R:It->Hp->Prop} {E:Value->Shared->Prop} {lo hi:Int} {t u v:Tok} {tk:Nat} (I:Inv X Md σ H s) (h1: -(2^62)<=lo) (h2:lo<2^62) (h3: -(2^62)<=hi) (h4:hi<2^62)
  (q:R (Itr lo (hi-lo).toNat) H):wpAny (model X.prog X.w) X.A (pyIter (.ref s.heap.objs.size)) (PIE X Md σ tg R) E {s with heap:=s.heap.push {cls:=.type "range",data:=.fields #[.int lo t,.int hi u,.int 1 v]},toks:=tk}:=by
 refine wpAny_pyIter_range (IsRange.new ..) (small_one h1 h2 h3 h4) ?_;have I1:Inv X Md σ H {s with heap:=s.heap.push {cls:=.type "range",data:=.fields #[.int lo t,.int hi u,.int 1 v]},toks:=tk}:=I.kept fun b o e=>MV _ e
 refine⟨(s.heap.push {cls:=.type "range",data:=.fields #[.int lo t,.int hi u,.int 1 v]}).objs.size,[(s.heap.push {cls:=.type "range",data:=.fields #[.int lo t,.int hi u,.int 1 v]}).objs.size],_,_,H,rfl,
  I1.kept (t':=tk) fun b o e=>MV _ e,CL _ lo (hi-lo).toNat,?_,fun b hb=>?_,q⟩
 . have e1:lo+((0:Nat):Int)*1=lo:=by simp
   have e2:(((hi-lo).toNat:Nat):Int) - ((0:Nat):Int)=Builtin.Range.rangeSize lo hi 1:=by rw[rangeSize_one];split <;> omega
   show IsRangeIter _ _ (lo+((0:Nat):Int)*1) ((((hi-lo).toNat:Nat):Int) - ((0:Nat):Int)) 1;rw[e1,e2];exact Nf _ rfl
 . have e:b=(s.heap.push {cls:=.type "range",data:=.fields #[.int lo t,.int hi u,.int 1 v]}).objs.size:=by simpa using hb
   subst e;exact I1.fpOk (MW _) (I1.hok.fresh (MW _))
def gi(ta:TA):TI:=fun σ H R=>ta σ H fun vs H1=>∃ j:Int,vs=[.int j]/\ -(2^62)<=j/\j<2^62/\R (Itr 0 j.toNat) H1
def sR(ta:TA):TI:=fun σ H R=>ta σ H fun vs H1=>∃ i j:Int,vs=[.int i,.int j]/\(-(2^62)<=i/\i<2^62/\ -(2^62)<=j/\j<2^62)/\R (Itr i (j-i).toNat) H1
theorem cW{a:Expr}{ta:TA}{p pos:Pos}(hg:Gl X "range")(hm:X.mg "range"=none)(ha:PA X [a] ta)(hs:starEach [a] X.env=[(false,eval a X.env)]:=by rfl):PI X tg (.Call (.Name "range" p) [a] [] pos) (gi ta):=by
 intro Md s σ H R I h;refine Call_ (gS I hg hm boot_range (Nw (thn (ha pos Md s σ H _ I h) fun us s1 ⟨vs,H1,I1,r1,q1⟩=>?_) hs rfl));obtain⟨j,e,q1,q2,q⟩:=q1;subst e
 cases r1 with
 | cons r rr=>
  cases rr;obtain⟨t,rfl⟩:=r;exact call_range_1 (zN I1 (by omega) (by omega) q1 q2 (by simpa using q))
theorem x9{a b:Expr}{ta:TA}{p pos:Pos}(hg:Gl X "range")(hm:X.mg "range"=none)(ha:PA X [a,b] ta)(hs:starEach [a,b] X.env=[(false,eval a X.env),(false,eval b X.env)]:=by rfl)(hs2:starEach [b] X.env=[(false,eval b X.env)]:=by rfl):
  PI X tg (.Call (.Name "range" p) [a,b] [] pos) (sR ta):=by
 intro Md s σ H R I h;refine Call_ (gS I hg hm boot_range (Nw (thn (ha pos Md s σ H _ I h) fun us s1 ⟨vs,H1,I1,r1,q1⟩=>?_) (by rw[hs,hs2]) (by rw[hs2];rfl)));obtain⟨i,j,e,⟨q1,q2,q3,q4⟩,q⟩:=q1;subst e
 cases r1 with
 | cons r rr=>
  cases rr with
  | cons r' rr=>
   cases rr;obtain⟨t,rfl⟩:=r;obtain⟨t',rfl⟩:=r';exact call_range_2 (zN I1 q1 q2 q3 q4 q)
def tFor(wi:TI)(g:TG)(tb:TS):TS:=fun D σ H=>wi σ H fun J H1=>∃ W:Nat->Nat->St->Hp->Prop,(∃ m,W 0 m σ H1)/\∀ i m σ H,W i m σ H->
 (J.stop i H/\D.nx σ H)\/(J.go i H/\∃ N:St->Hp->Prop,(∀ σ' H',N σ' H'->∃ m',m'<m/\W (i+1) m' σ' H')/\∀ x H',J.yld i H x H'->g x σ H' fun σ2 H2=>tb {D with nx:=N,ct:=N,bk:=D.nx} σ2 H2)
def qT(fp:List Addr)(h:Heap):List (Addr × Obj):=fp.filterMap fun b=>(h.get? b).map fun o=>(b,o)
theorem lQ{fp:List Addr}{h:Heap}{b:Addr}{o:Obj}(hb:b∈fp)(e:h.get? b=some o):(b,o)∈qT fp h:=List.mem_filterMap.mpr ⟨b,hb,by rw[e];rfl⟩
theorem DM{fp:List Addr}{h:Heap}{p:Addr × Obj}(hp:p∈qT fp h):p.1∈fp/\h.get? p.1=some p.2:=by
 obtain⟨b,hb,e⟩:=List.mem_filterMap.mp hp
 cases q:h.get? b with
 | none=>rw[q] at e;cases e
 | some o=>
  rw[q] at e;have e':(b,o)=p:=N5 e;subst e';exact⟨hb,q⟩
theorem Inv.pinned{Md:List (Addr × Obj)}{σ:St}{H:Hp}{s:Shared}{fp:List Addr}(I:Inv X Md σ H s)(hf:∀ b∈fp,FpOk X Md H b)(ho:∀ b∈fp,∃ o,s.heap.get? b=some o/\∀ v,o.data≠.cell v):Inv X (Md++qT fp s.heap) σ H s:=
 I.pins_of fun p hp=>(M0.mp hp).elim (fun z=>I.pin p (Np _ z)) fun z=>by
  obtain⟨hb,e⟩:=DM z;obtain⟨f0,f1,f2,_⟩:=hf p.1 hb;obtain⟨o,e',d⟩:=ho p.1 hb;rw[e] at e';cases e';exact⟨e,f0,f1,f2,d⟩
theorem Inv.unpinned{Md pl:List (Addr × Obj)}{σ:St}{H:Hp}{s:Shared}(I:Inv X (Md++pl) σ H s):Inv X Md σ H s:=I.pins_of fun p hp=>I.pin p (Np _ (O3 _ hp))
theorem bt {iter:Expr} {body:List Stmt} {wi:TI} {g:TG} {tb:TS} {pos:Pos} (hp:PassesOwn (model X.prog X.w) X.A X.env X.xe) (hc:X.calm=true) (hi:PI X tg iter wi) (hg:PG X tg g) (hb:PSs X body tb)
  (hs:∀ x,foldedSetIterable iter X.env x=pure x:=by intro _;rfl):PS X (.For tg iter body [] pos) (tFor wi g tb):=by
 intro Md s σ H D I h;refine wpAny_For (thn (hi Md s σ H _ I h) fun v s1 h1=>thn h1 fun itv s2 h2=>?_) hs;obtain⟨it,fp,tn,J,H2,e,I2,T,st2,f2,W,⟨m0,w0⟩,turn⟩:=h2;subst e;have stat:∀{H':Hp},(∀ b∈fp,H' b=none)->∀ b∈fp,FpOk X Md H' b:=fun hn b hb=>⟨hn b hb,(f2 b hb).2⟩;refine codeAny_forLoop_any (fun n s'=>∃ i σ' H',Inv X Md σ' H' s'/\tn i s'.heap/\(∀ b∈fp,H' b=none)/\W i n σ' H') ?_ m0 ⟨0,σ,H2,I2,st2,fun b hb=>(f2 b hb).1,w0⟩;rintro n s3 ⟨i,σ3,H3,I3,st3,fr3,w3⟩;rcases turn i n σ3 H3 w3 with ⟨stop,qn⟩ | ⟨go,N,hN,step⟩
 . refine Od hp (thn (T.done X rfl rfl rfl hc i Md s3 σ3 H3 X.xe I3 (stat fr3) st3 stop) fun r s4 ⟨hr,I4⟩=>?_);subst hr;exact O8 ⟨σ3,H3,I4,qn⟩
 . refine Od hp (thn (T.item X rfl rfl rfl hc i Md s3 σ3 H3 X.xe I3 (stat fr3) st3 go) fun r s4 ⟨u,hr,h4⟩=>?_);subst hr;refine Od hp (thn h4 fun _ s5 ⟨x,H5,I5,r5,y5,st5,fr5⟩=>?_);have I5':=I5.pinned (stat fr5) (T.obj _ _ st5);refine Od hp (thn (hg _ s5 σ3 H5 x u _ I5' r5 (step x H5 y5)) fun _ s6 ⟨σ6,H6,I6,q6⟩=>?_);refine Od hp (thn (hb _ s6 σ6 H6 _ I6 q6) fun f s7 q7=>?_)
   have again:∀{σ7:St} {H7:Hp},Inv X (Md++qT fp s5.heap) σ7 H7 s7->N σ7 H7->∃ m,m<n/\∃ i σ' H',Inv X Md σ' H' s7/\tn i s7.heap/\(∀ b∈fp,H' b=none)/\W i m σ' H':=fun{σ7 H7} I7 n7=>by
    obtain⟨m',hm,w7⟩:=hN σ7 H7 n7;refine⟨m',hm,i+1,σ7,H7,I7.unpinned,T.keep _ _ _ st5 fun b hb o e=>(I7.pin (b,o) (Np _ (Np _ (lQ hb e)))).1,fun b hb=>?_,w7⟩;obtain⟨o,e,d⟩:=T.obj _ _ st5 b hb;exact(I7.pin (b,o) (Np _ (Np _ (lQ hb e)))).2.1
   cases f with
   | next=>obtain⟨σ7,H7,I7,n7⟩:=q7;exact again I7 n7
   | cont=>obtain⟨σ7,H7,I7,n7⟩:=q7;exact again I7 n7
   | brk=>obtain⟨σ7,H7,I7,q7⟩:=q7;exact⟨σ7,H7,I7.unpinned,q7⟩
   | ret v=>obtain⟨x7,σ7,H7,I7,r7,q7⟩:=q7;exact⟨x7,σ7,H7,I7.unpinned,r7,q7⟩
end
variable{xs:List V}{g:TG}{tb:TS}{D:Ends}{σ:St}{H:Hp}
theorem bp {K:Frag} {a:Addr} (Pv:Nat->St->Hp->Prop) (h0:Pv 0 σ H) (hl:∀ i σ H,i<=xs.length->Pv i σ H->SqL K H a xs)
  (hs:∀ i x σ H,xs[i]? =some x->Pv i σ H->g x σ H fun σ2 H2=>tb {D with nx:=Pv (i+1),ct:=Pv (i+1),bk:=D.nx} σ2 H2) (hd:∀ σ H,Pv xs.length σ H->D.nx σ H):
  ∃ W:Nat->Nat->St->Hp->Prop,(∃ m,W 0 m σ H)/\∀ i m σ H,W i m σ H->
   ((Itl K a).stop i H/\D.nx σ H)\/((Itl K a).go i H/\∃ N:St->Hp->Prop,(∀ σ' H',N σ' H'->∃ m',m'<m/\W (i+1) m' σ' H')/\∀ x H',(Itl K a).yld i H x H'->g x σ H' fun σ2 H2=>tb {D with nx:=N,ct:=N,bk:=D.nx} σ2 H2):=by
 refine⟨fun i m σ H=>m=xs.length-i/\i<=xs.length/\Pv i σ H,⟨xs.length,by simp,Nu _,h0⟩,?_⟩;rintro i m σ H ⟨rfl,hi,p⟩;have q:=hl i σ H hi p;by_cases hlt:i<xs.length
 . refine .inr ⟨⟨xs,xs[i],q,by simp[hlt]⟩,Pv (i+1),fun σ' H' p'=>⟨xs.length - (i+1),by omega,rfl,hlt,p'⟩,fun x H' y=>?_⟩;obtain⟨e,y⟩:=y;subst e;exact hs i x σ _ (y xs q) p
 . have e:i=xs.length:=by omega
   subst e;exact .inl ⟨⟨xs,q,MW _⟩,hd σ H p⟩
theorem Gi {K:Frag} {a:Addr} (Pv:Nat->St->Hp->Prop) (h0:Pv 0 σ H) (hl:∀ i σ H,i<=xs.length->Pv i σ H->SqT K H a xs)
  (hs:∀ i x σ H,xs[i]? =some x->Pv i σ H->g x σ H fun σ2 H2=>tb {D with nx:=Pv (i+1),ct:=Pv (i+1),bk:=D.nx} σ2 H2) (hd:∀ σ H,Pv xs.length σ H->D.nx σ H):
  ∃ W:Nat->Nat->St->Hp->Prop,(∃ m,W 0 m σ H)/\∀ i m σ H,W i m σ H->
   ((Itt K a).stop i H/\D.nx σ H)\/((Itt K a).go i H/\∃ N:St->Hp->Prop,(∀ σ' H',N σ' H'->∃ m',m'<m/\W (i+1) m' σ' H')/\∀ x H',(Itt K a).yld i H x H'->g x σ H' fun σ2 H2=>tb {D with nx:=N,ct:=N,bk:=D.nx} σ2 H2):=by
 refine⟨fun i m σ H=>m=xs.length-i/\i<=xs.length/\Pv i σ H,⟨xs.length,by simp,Nu _,h0⟩,?_⟩;rintro i m σ H ⟨rfl,hi,p⟩;have q:=hl i σ H hi p;by_cases hlt:i<xs.length
 . refine .inr ⟨⟨xs,xs[i],q,by simp[hlt]⟩,Pv (i+1),fun σ' H' p'=>⟨xs.length - (i+1),by omega,rfl,hlt,p'⟩,fun x H' y=>?_⟩;obtain⟨e,y⟩:=y;subst e;exact hs i x σ _ (y xs q) p
 . have e:i=xs.length:=by omega
   subst e;exact .inl ⟨⟨xs,q,MW _⟩,hd σ H p⟩
theorem nc {lo:Int} {n:Nat} (Pv:Nat->St->Hp->Prop) (h0:Pv 0 σ H)
  (hs:∀ i σ H,i<n->Pv i σ H->g (.int (lo+i)) σ H fun σ2 H2=>tb {D with nx:=Pv (i+1),ct:=Pv (i+1),bk:=D.nx} σ2 H2) (hd:∀ σ H,Pv n σ H->D.nx σ H):
  ∃ W:Nat->Nat->St->Hp->Prop,(∃ m,W 0 m σ H)/\∀ i m σ H,W i m σ H->
   ((Itr lo n).stop i H/\D.nx σ H)\/((Itr lo n).go i H/\∃ N:St->Hp->Prop,(∀ σ' H',N σ' H'->∃ m',m'<m/\W (i+1) m' σ' H')/\∀ x H',(Itr lo n).yld i H x H'->g x σ H' fun σ2 H2=>tb {D with nx:=N,ct:=N,bk:=D.nx} σ2 H2):=by
 refine⟨fun i m σ H=>m=n-i/\i<=n/\Pv i σ H,⟨n,by simp,Nu _,h0⟩,?_⟩;rintro i m σ H ⟨rfl,hi,p⟩;by_cases hlt:i<n
 . refine .inr ⟨hlt,Pv (i+1),fun σ' H' p'=>⟨n - (i+1),by omega,rfl,hlt,p'⟩,fun x H' y=>?_⟩;obtain⟨e,y⟩:=y;subst e y;exact hs i σ _ hlt p
 . have e:i=n:=by omega
   subst e;exact .inl ⟨MW _,hd σ H p⟩
abbrev R2:=V->V->Hp->VK->Prop
def OpR(X:Cx)(f:Value->Value->Sem Value)(r:R2):Prop:=
 ∀(Md:List (Addr × Obj)) (s:Shared) (σ:St) (H:Hp) (x y:V) (v u:Value) (Q:VK),Inv X Md σ H s->RelV x v->RelV y u->r x y H Q->
  wpAny (model X.prog X.w) X.A (f v u) (EP X Md σ Q) X.xe s
def UnR(X:Cx)(f:Value->Sem Value)(r:V->Hp->VK->Prop):Prop:=
 ∀(Md:List (Addr × Obj)) (s:Shared) (σ:St) (H:Hp) (x:V) (v:Value) (Q:VK),Inv X Md σ H s->RelV x v->r x H Q->
  wpAny (model X.prog X.w) X.A (f v) (EP X Md σ Q) X.xe s
def CallR(X:Cx)(f:Value)(r:List V->Hp->VK->Prop):Prop:=
 ∀(Md:List (Addr × Obj)) (s:Shared) (σ:St) (H:Hp) (xs:List V) (us:List Value) (Q:VK),Inv X Md σ H s->Vals xs us->r xs H Q->
  wpAny (model X.prog X.w) X.A (call f us) (EP X Md σ Q) X.xe s
def tOp(r:R2)(ta tb:TE):TE:=fun σ H Q=>ta σ H fun x H1=>tb σ H1 fun y H2=>r x y H2 Q
def tUn(r:V->Hp->VK->Prop)(ta:TE):TE:=fun σ H Q=>ta σ H fun x H1=>r x H1 Q
def rI(C:Int->Int->Prop)(g:Int->Int->V):R2:=fun x y H Q=>∃ i j,x=.int i/\y=.int j/\C i j/\Q (g i j) H
def rI0(g:Int->Int->V):R2:=fun x y H Q=>∃ i j,x=.int i/\y=.int j/\Q (g i j) H
def rU(g:Int->V):V->Hp->VK->Prop:=fun x H Q=>∃ i,x=.int i/\Q (g i) H
section
variable{X:Cx}{a b c:Expr}{ta tb tc:TE}{pos:Pos}
theorem binT (ha:PE X a ta) (hb:PE X b tb) {Md:List (Addr × Obj)} {s:Shared} {σ:St} {H:Hp} {R:V->V->Hp->Prop} (I:Inv X Md σ H s)
  (h:ta σ H fun x H1=>tb σ H1 fun y H2=>R x y H2) {Q:Value->Shared->Prop} {f:Value->Value->Sem Value}
  (hf:∀ v u s2 x y H2,Inv X Md σ H2 s2->RelV x v->RelV y u->R x y H2->wpAny (model X.prog X.w) X.A (f v u) Q X.xe s2):
  wpAny (model X.prog X.w) X.A (eval a X.env) (fun v s₁=>wpAny (model X.prog X.w) X.A (eval b X.env) (fun u s₂=>wpAny (model X.prog X.w) X.A (f v u) Q X.xe s₂) X.xe s₁) X.xe s:=by
 refine thn (ha Md s σ H _ I h) fun v s1 ⟨x,H1,I1,r1,q1⟩=>?_;refine thn (hb Md s1 σ H1 _ I1 q1) fun u s2 ⟨y,H2,I2,r2,q2⟩=>?_;exact hf v u s2 x y H2 I2 r1 r2 q2
theorem av{op:Operator}{r:R2}(ho:OpR X (binaryOp op) r)(ha:PE X a ta)(hb:PE X b tb):PE X (.BinOp a op b pos) (tOp r ta tb):=by
 intro Md s σ H Q I h;exact wpAny_BinOp (binT ha hb I h fun v u s2 x y H2 I2 rx ry q=>ho Md s2 σ H2 x y v u Q I2 rx ry q)
theorem F4{op:UnaryOp}{r:V->Hp->VK->Prop}(ho:UnR X (unaryOp op) r)(ha:PE X a ta):PE X (.UnaryOp op a pos) (tUn r ta):=by
 intro Md s σ H Q I h;exact UnaryOp_ (thn (ha Md s σ H _ I h) fun v s1 ⟨x,H1,I1,r1,q1⟩=>ho Md s1 σ H1 x v Q I1 r1 q1)
theorem opI {f:Value->Value->Sem Value} {C:Int->Int->Prop} {g:Int->Int->Int}
  (rule:∀(i j:Int) (t u:Tok) (s:Shared) (Q:Value->Shared->Prop) (E:Value->Shared->Prop),C i j->Q (.int (g i j) s.toks) {s with toks:=s.toks+1}->wpAny (model X.prog X.w) X.A (f (.int i t) (.int j u)) Q E s):
  OpR X f (rI C fun i j=>.int (g i j)):=by
 intro Md s σ H x y v u Q I rx ry h;obtain⟨i,j,rfl,rfl,hc,q⟩:=h;obtain⟨t,rfl⟩:=rx;obtain⟨t',rfl⟩:=ry;exact rule i j t t' s _ _ hc ⟨.int (g i j),H,I.tok _,⟨_,rfl⟩,q⟩
theorem Fs {f:Value->Value->Sem Value} {g:Int->Int->Int}
  (rule:∀(i j:Int) (t u:Tok) (s:Shared) (Q:Value->Shared->Prop) (E:Value->Shared->Prop),Q (.int (g i j) s.toks) {s with toks:=s.toks+1}->wpAny (model X.prog X.w) X.A (f (.int i t) (.int j u)) Q E s):
  OpR X f (rI0 fun i j=>.int (g i j)):=by
 intro Md s σ H x y v u Q I rx ry h;obtain⟨i,j,rfl,rfl,q⟩:=h;obtain⟨t,rfl⟩:=rx;obtain⟨t',rfl⟩:=ry;exact rule i j t t' s _ _ ⟨.int (g i j),H,I.tok _,⟨_,rfl⟩,q⟩
theorem CM {f:Value->Value->Sem Value} {g:Int->Int->Bool}
  (rule:∀(i j:Int) (t u:Tok) (s:Shared) (Q:Value->Shared->Prop) (E:Value->Shared->Prop),Q (.bool (g i j)) s->wpAny (model X.prog X.w) X.A (f (.int i t) (.int j u)) Q E s):
  OpR X f (rI0 fun i j=>.bl (g i j)):=by
 intro Md s σ H x y v u Q I rx ry h;obtain⟨i,j,rfl,rfl,q⟩:=h;obtain⟨t,rfl⟩:=rx;obtain⟨t',rfl⟩:=ry;exact rule i j t t' s _ _ ⟨.bl (g i j),H,I,rfl,q⟩
def CDiv(i j:Int):Prop:=0<j/\j<1073741824
def CPow(i j:Int):Prop:=0<=j/\j<=1000000/\i.natAbs<2^64
def CMul(i j:Int):Prop:=(-(2^64)<i/\i<2^64)\/(-(2^64)<j/\j<2^64)
theorem CMul.ok{i j:Int}(h:CMul i j):IntMulOk i j:=by
 rcases h with ⟨h1,h2⟩ | ⟨h1,h2⟩
 . exact .of_left (intBits_le_64 h1 h2)
 . exact .of_right (intBits_le_64 h1 h2)
theorem CN(k:Nat):(0:Int)<=2^k:=by
 rw[two_pow_cast];exact Int.natCast_nonneg _
theorem Ho:OpR X (binaryOp .Add) (rI0 fun i j=>.int (i+j)):=Fs fun _ _ _ _ _ _ _ q=>add_int q
theorem Hq:OpR X (binaryOp .Sub) (rI0 fun i j=>.int (i-j)):=Fs fun _ _ _ _ _ _ _ q=>sub_int q
theorem Hr:OpR X (binaryOp .Mult) (rI CMul fun i j=>.int (i*j)):=opI fun _ _ _ _ _ _ _ hc q=>mul_int q hc.ok
theorem Gj:OpR X (binaryOp .FloorDiv) (rI CDiv fun i j=>.int (i/j)):=opI fun i j _ _ _ _ _ hc q=>by
 have h1:(0:Int)<j:=hc.1;have h2:j<1073741824:=hc.2;exact floordiv_int (by omega) (by rw[Pl i (by omega)];exact q) (.inl (PyProof.noPylong_small (by omega)))
theorem Hs:OpR X (binaryOp .Mod) (rI (fun _ j=>0<j) fun i j=>.int (i%j)):=opI fun i j _ _ _ _ _ hc q=>by
 have h1:(0:Int)<j:=hc;exact mod_int' (by omega) (by rw[Int.fmod_eq_emod_of_nonneg i (by omega)];exact q)
theorem Ht:OpR X (binaryOp .Pow) (rI CPow fun i j=>.int (i^j.toNat)):=opI fun _ _ _ _ _ _ _ hc q=>pow_int_small hc.1 hc.2.1 hc.2.2 q
theorem Hu:OpR X (binaryOp .RShift) (rI (fun _ j=>0<=j) fun i j=>.int (i/2^j.toNat)):=opI fun i j _ _ _ _ _ hc q=>
 rshift_int hc (by rw[Pl i (CN _)];exact q)
theorem IN:OpR X (binaryOp .BitOr) (rI0 fun i j=>.int (Builtin.bitOr i j)):=Fs fun _ _ _ _ _ _ _ q=>or_int q
theorem unI {f:Value->Sem Value} {g:Int->Int}
  (rule:∀(i:Int) (t:Tok) (s:Shared) (Q:Value->Shared->Prop) (E:Value->Shared->Prop),Q (.int (g i) s.toks) {s with toks:=s.toks+1}->wpAny (model X.prog X.w) X.A (f (.int i t)) Q E s):
  UnR X f (rU fun i=>.int (g i)):=by
 intro Md s σ H x v Q I rx h;obtain⟨i,rfl,q⟩:=h;obtain⟨t,rfl⟩:=rx;exact rule i t s _ _ ⟨.int (g i),H,I.tok _,⟨_,rfl⟩,q⟩
theorem DN:UnR X (unaryOp .USub) (rU fun i=>.int (-i)):=unI fun _ _ _ _ _ q=>neg_int q
end
def scal:V->V->Bool
 | .non,.non=>true | .non,.int _=>true | .int _,.non=>true | .non,.bl _=>true | .bl _,.non=>true | .non,.str _=>true | .str _,.non=>true
 | .int _,.int _=>true | .bl _,.bl _=>true | .str _,.str _=>true | .byt _,.byt _=>true
 | .int _,.str _=>true | .str _,.int _=>true | .bl _,.str _=>true | .str _,.bl _=>true
 | _,_=>false
def rEq:R2:=fun x y H Q=>scal x y=true/\Q (.bl (decide (x=y))) H
def rNe:R2:=fun x y H Q=>scal x y=true/\Q (.bl (!decide (x=y))) H
theorem Ce{i j:Int}:decide (V.int i=V.int j)=(i==j):=by
 rw[MZ];simp
theorem DO{i j:Bool}:decide (V.bl i=V.bl j)=(i==j):=by
 rw[MZ];simp
theorem Cf{i j:Str}:decide (V.str i=V.str j)=(i==j):=by
 rw[MZ];simp
theorem Cg{i j:Array UInt8}:decide (V.byt i=V.byt j)=(i.toList==j.toList):=by
 rw[MZ];cases i;cases j;simp
section
variable{X:Cx}{a b c:Expr}{ta tb tc:TE}{pos:Pos}
theorem aW{Md:List (Addr × Obj)}{σ:St}{H:Hp}{s:Shared}{Q:VK}{k k':Bool}(I:Inv X Md σ H s)(q:Q (.bl k) H)(e:k=k'):EP X Md σ Q (.bool k') s:=by
 subst e;exact⟨.bl k,H,I,rfl,q⟩
theorem CO:OpR X (compareOp .Eq) rEq:=by
 intro Md s σ H x y v u Q I rx ry h;obtain⟨hs,q⟩:=h
 cases x with
 | non=>
  cases rx
  cases y with
  | non=>cases ry;exact PySem.EqNone.eq_none_none (aW I q (by simp))
  | bl j=>cases ry;exact PySem.EqNone.eq_none_bool (aW I q (by simp))
  | int j=>obtain⟨t',rfl⟩:=ry;exact PySem.EqNone.eq_none_int (aW I q (by simp))
  | str j=>obtain⟨t',rfl⟩:=ry;exact PySem.EqNone.eq_none_str (aW I q (by simp))
  | _=>exact absurd (show false=true from hs) ME
 | bl i=>
  cases rx
  cases y with
  | non=>cases ry;exact PySem.EqNone.eq_bool_none (aW I q (by simp))
  | bl j=>cases ry;exact eq_bool (aW I q DO)
  | str j=>obtain⟨t',rfl⟩:=ry;exact PySem.EqMixed.eq_bool_str (aW I q (by simp))
  | _=>exact absurd (show false=true from hs) ME
 | int i=>
  obtain⟨t,rfl⟩:=rx
  cases y with
  | non=>cases ry;exact PySem.EqNone.eq_int_none (aW I q (by simp))
  | int j=>obtain⟨t',rfl⟩:=ry;exact eq_int (aW I q Ce)
  | str j=>obtain⟨t',rfl⟩:=ry;exact PySem.EqMixed.eq_int_str (aW I q (by simp))
  | _=>exact absurd (show false=true from hs) ME
 | str i=>
  obtain⟨t,rfl⟩:=rx
  cases y with
  | non=>cases ry;exact PySem.EqNone.eq_str_none (aW I q (by simp))
  | bl j=>cases ry;exact PySem.EqMixed.eq_str_bool (aW I q (by simp))
  | int j=>obtain⟨t',rfl⟩:=ry;exact PySem.EqMixed.eq_str_int (aW I q (by simp))
  | str j=>obtain⟨t',rfl⟩:=ry;exact eq_str (aW I q Cf)
  | _=>exact absurd (show false=true from hs) ME
 | byt i=>
  obtain⟨t,rfl⟩:=rx
  cases y with
  | byt j=>obtain⟨t',rfl⟩:=ry;exact PySem.W.eq_bytes (aW I q Cg)
  | _=>exact absurd (show false=true from hs) ME
 | _=>cases y <;> exact absurd (show false=true from hs) ME
theorem CP:OpR X (compareOp .NotEq) rNe:=by
 intro Md s σ H x y v u Q I rx ry h;obtain⟨hs,q⟩:=h
 cases x with
 | non=>
  cases rx
  cases y with
  | non=>cases ry;exact PySem.EqNone.ne_none_none (aW I q (by simp))
  | bl j=>cases ry;exact PySem.EqNone.ne_none_bool (aW I q (by simp))
  | int j=>obtain⟨t',rfl⟩:=ry;exact PySem.EqNone.ne_none_int (aW I q (by simp))
  | str j=>obtain⟨t',rfl⟩:=ry;exact PySem.EqNone.ne_none_str (aW I q (by simp))
  | _=>exact absurd (show false=true from hs) ME
 | bl i=>
  cases rx
  cases y with
  | non=>cases ry;exact PySem.EqNone.ne_bool_none (aW I q (by simp))
  | bl j=>cases ry;exact ne_bool (aW I q (congrArg not DO))
  | str j=>obtain⟨t',rfl⟩:=ry;exact PySem.EqMixed.ne_bool_str (aW I q (by simp))
  | _=>exact absurd (show false=true from hs) ME
 | int i=>
  obtain⟨t,rfl⟩:=rx
  cases y with
  | non=>cases ry;exact PySem.EqNone.ne_int_none (aW I q (by simp))
  | int j=>obtain⟨t',rfl⟩:=ry;exact ne_int (aW I q (congrArg not Ce))
  | str j=>obtain⟨t',rfl⟩:=ry;exact PySem.EqMixed.ne_int_str (aW I q (by simp))
  | _=>exact absurd (show false=true from hs) ME
 | str i=>
  obtain⟨t,rfl⟩:=rx
  cases y with
  | non=>cases ry;exact PySem.EqNone.ne_str_none (aW I q (by simp))
  | bl j=>cases ry;exact PySem.EqMixed.ne_str_bool (aW I q (by simp))
  | int j=>obtain⟨t',rfl⟩:=ry;exact PySem.EqMixed.ne_str_int (aW I q (by simp))
  | str j=>obtain⟨t',rfl⟩:=ry;exact ne_str (aW I q (congrArg not Cf))
  | _=>exact absurd (show false=true from hs) ME
 | byt i=>
  obtain⟨t,rfl⟩:=rx
  cases y with
  | byt j=>obtain⟨t',rfl⟩:=ry;exact PySem.W.ne_bytes (aW I q (congrArg not Cg))
  | _=>exact absurd (show false=true from hs) ME
 | _=>cases y <;> exact absurd (show false=true from hs) ME
theorem IO:OpR X (compareOp .Lt) (rI0 fun i j=>.bl (decide (i<j))):=CM fun _ _ _ _ _ _ _ q=>lt_int q
theorem IP:OpR X (compareOp .LtE) (rI0 fun i j=>.bl (decide (i<=j))):=CM fun _ _ _ _ _ _ _ q=>le_int q
theorem IQ:OpR X (compareOp .Gt) (rI0 fun i j=>.bl (decide (j<i))):=CM fun _ _ _ _ _ _ _ q=>gt_int q
theorem IR:OpR X (compareOp .GtE) (rI0 fun i j=>.bl (decide (j<=i))):=CM fun _ _ _ _ _ _ _ q=>ge_int q
theorem DP:OpR X (compareOp .In) (fun x y H Q=>∃ i j,x=.str i/\y=.str j/\Q (.bl (!(Builtin.Str.occurrences j i 0 j.length 1).isEmpty)) H):=by
 intro Md s σ H x y v u Q I rx ry h;obtain⟨i,j,rfl,rfl,q⟩:=h;obtain⟨t,rfl⟩:=rx;obtain⟨t',rfl⟩:=ry;exact in_str (aW I q rfl)
theorem zO:OpR X (compareOp .Is) (fun x y H Q=>y=.non/\Q (.bl (decide (x=.non))) H):=by
 intro Md s σ H x y v u Q I rx ry h;obtain⟨rfl,q⟩:=h;cases ry;refine is_none_gen (aW I q ?_)
 cases x <;> first
  | (cases rx;rfl)
  | (obtain⟨t,rfl⟩:=rx;rfl)
theorem Ch:OpR X (compareOp .IsNot) (fun x y H Q=>y=.non/\Q (.bl (!decide (x=.non))) H):=by
 intro Md s σ H x y v u Q I rx ry h;obtain⟨rfl,q⟩:=h;cases ry;refine isnot_none_gen (aW I q ?_)
 cases x <;> first
  | (cases rx;rfl)
  | (obtain⟨t,rfl⟩:=rx;rfl)
theorem aj(b:Expr){op:CmpOp}(h:op≠.In:=by decide)(h2:op≠.NotIn:=by decide):behindInMarks op b=false:=by
 have e1:(op==CmpOp.In)=false:=by cases op <;> first | rfl | exact absurd rfl h
 have e2:(op==CmpOp.NotIn)=false:=by cases op <;> first | rfl | exact absurd rfl h2
 cases b <;> simp[behindInMarks,e1,e2]
theorem ay{op:CmpOp}{r:R2}(ho:OpR X (compareOp op) r)(ha:PE X a ta)(hb:PE X b tb)(hm:behindInMarks op b=false):PE X (.Compare a [op] [b] pos) (tOp r ta tb):=by
 intro Md s σ H Q I h;exact wpAny_Compare1 (binT ha hb I h fun v u s2 x y H2 I2 rx ry q=>ho Md s2 σ H2 x y v u Q I2 rx ry q) hm
def tTest(t:TE):TT:=fun σ H Q=>t σ H fun x H'=>∃ k,x=.bl k/\Q k H'
theorem ao{op:CmpOp}{r:R2}(ho:OpR X (compareOp op) r)(ha:PE X a ta)(hb:PE X b tb)(hm:behindInMarks op b=false):PT X (.Compare a [op] [b] pos) (tTest (tOp r ta tb)):=by
 intro Md s σ H Q I h
 refine wpAny_isTrue_Compare1 (thn (ha Md s σ H _ I h) fun v s1 ⟨x,H1,I1,r1,q1⟩=>thn (hb Md s1 σ H1 _ I1 q1) fun u s2 ⟨y,H2,I2,r2,q2⟩=>
  thn (ho Md s2 σ H2 x y v u _ I2 r1 r2 q2) fun c s3 ⟨z,H3,I3,r3,k,e,q3⟩=>?_) hm
 subst e;cases r3;exact NZ ⟨H3,I3,q3⟩
theorem qU:(sizeLine:Nat)<2^63:=by rw[sizeLine_eq];decide
theorem CQ:OpR X (binaryOp .Add) (fun x y H Q=>∃ i j,x=.str i/\y=.str j/\i.length+j.length<=sizeLine/\Q (.str (i++j)) H):=by
 intro Md s σ H x y v u Q I rx ry h;obtain⟨i,j,rfl,rfl,hz,q⟩:=h;obtain⟨t,rfl⟩:=rx;obtain⟨t',rfl⟩:=ry;exact add_str (fun t' tk=>⟨.str (i++j),H,I.tok _,⟨_,rfl⟩,q⟩) hz
theorem cX{x:V}{us:List Value}(r:Vals [x] us):∃ u,us=[u]/\RelV x u:=by
 cases r with
 | cons r1 r2=>cases r2;exact⟨_,rfl,r1⟩
theorem F5{x y:V}{us:List Value}(r:Vals [x,y] us):∃ u w',us=[u,w']/\RelV x u/\RelV y w':=by
 cases r with
 | cons r1 r2=>
  cases r2 with
  | cons r3 r4=>cases r4;exact⟨_,_,rfl,r1,r3⟩
theorem DQ(hc:X.calm=true):CallR X (.builtin "max") (fun xs H Q=>∃ i j,xs=[.int i,.int j]/\Q (.int (if j>i then j else i)) H):=by
 intro Md s σ H xs us Q I r h;obtain⟨i,j,rfl,q⟩:=h;obtain⟨u,w',rfl,⟨t,rfl⟩,⟨t',rfl⟩⟩:=F5 r;refine max_two_ints (I.ok.hd hc) fun h' tk k=>⟨_,H,I.kept k,?_,q⟩;by_cases hj:j>i
 . rw[MU hj,MU hj];exact⟨_,rfl⟩
 . rw[MP hj,MP hj];exact⟨_,rfl⟩
theorem ya:CallR X (.type "int") (fun xs H Q=>(∃ i,xs=[.int i]/\Q (.int i) H)\/∃ k,xs=[.bl k]/\Q (.int (if k then 1 else 0)) H):=by
 intro Md s σ H xs us Q I r h;rcases h with ⟨i,rfl,q⟩ | ⟨k,rfl,q⟩
 . obtain⟨u,rfl,t,rfl⟩:=cX r;exact call_int_int ⟨.int i,H,I,⟨_,rfl⟩,q⟩
 . obtain⟨u,rfl,r1⟩:=cX r;cases r1;exact call_int_bool ⟨.int (if k then 1 else 0),H,I.tok _,⟨_,rfl⟩,q⟩
end
structure ObjM(h:Heap)(x dx C:Addr)(mA:Str->Option Value):Prop where
 obj:h.get? x=some (PySem.W.instObj C dx)
 ns:h.Ns1 dx mA
 ne:dx≠x
variable{mA:Str->Option Value}
theorem DR{h:Heap}{dx:Addr}(n:h.Ns1 dx mA):∃ od,h.get? dx=some od/\∀ name,PySem.W.lookIn name od=some (mA name):=by
 obtain⟨o,es,ep,ho,hd,hk,_,hm⟩:=n;refine⟨o,ho,fun name=>?_⟩;have e:=hm name;unfold nsFind findBy at e;rw[← Array.find?_toList] at e;unfold PySem.W.lookIn;rw[hd];dsimp only
 split
 . rename_i y q
   rw[q] at e;exact congrArg some e
 . rename_i q
   rw[q] at e
   have a:es.toList.any (·.refKey)=false:=by
    rw[Px];intro y hy;obtain⟨z,t,hkey⟩:=hk y (Array.mem_toList_iff.mp hy);simp[DictEntry.refKey,hkey]
   have a':¬ es.toList.any (·.refKey)=true:=by rw[a];exact ME
   rw[MP a'];exact congrArg some e
variable{C:Addr}
theorem ObjM.look{h:Heap}{x dx:Addr}(I:ObjM h x dx C mA):∃ od,PySem.W.InstAt h x (PySem.W.instObj C dx) C (some od)/\∀ name,PySem.W.lookIn name od=some (mA name):=
 let ⟨od,ho,hl⟩:=DR I.ns
 ⟨od,⟨I.obj,rfl,rfl,ho⟩,hl⟩
section
variable{prog:Program}{w:World}{A:Around}{E:Value->Shared->Prop}{s:Shared}{K:Frag}{x dx C f:Addr}{mA:Str->Option Value}{name:Str}{v:Value}
theorem Gk {expr:Bool} {Q:Value->Shared->Prop} (X:K.In s.heap) (I:ObjM s.heap x dx C mA) (hg:PySem.W.plainGet K C name=true) (hh:PySem.W.hasDictIn K C=true)
  (ha:findIn K (.ref C) name=some none) (hv:mA name=some v) (hv':PySem.W.handedIn v=true) (h:Q v {s with toks:=s.toks+1}):
  wpAny (model prog w) A (getAttr (.ref x) name expr) Q E s:=by
 obtain⟨od,J,hl⟩:=I.look;exact PySem.W.get_value X J (Pc hg).1 (PySem.W.findObj_own hh ha rfl (by rw[hl,hv])) hv' h
theorem Ft {pl:Sem Bool} {Q:Value × List Value->Shared->Prop} (X:K.In s.heap) (I:ObjM s.heap x dx C mA) (hg:PySem.W.plainGet K C name=true)
  (hf:findIn K (.ref C) name=some (some (.ref f))) (ht:isFn K (.ref f)=true) (hv:mA name=none) (h:Q (.ref f,[.ref x]) s):
  wpAny (model prog w) A (getMethod (.ref x) name pl) Q E s:=by
 obtain⟨od,J,hl⟩:=I.look;exact PySem.W.method_fn X J (Pc hg).1 (Pc hg).2 hf (Oy.mp ht) (by show(PySem.W.lookIn name od).map (·.isSome)=some false;rw[hl,hv];rfl) h
theorem Gm {ns:List Str} {Q:Unit->Shared->Prop} (X:K.In s.heap) (I:ObjM s.heap x dx C mA)
  (hs:findIn K (.ref C) "__setattr__"=some (some (.builtin "object.__setattr__"))) (hp:PySem.W.plainOver K C=true) (ht:PySem.W.takerIn K C name=some none) (hh:PySem.W.hasDictIn K C=true)
  (hw:PySem.Within mA ns) (hsz:ns.length<=sizeLine)
  (h:∀ h',ObjM h' x dx C (fun y=>if y=name then some v else mA y)->Heap.SameBut dx s.heap h'->Q () {s with heap:=h',toks:=s.toks+2}):
  wpAny (model prog w) A (setAttr (.ref x) name v) Q E s:=by
 obtain⟨od,J,hl⟩:=I.look;refine PySem.W.set_plain X J hs (PySem.W.osa_open (s:={s with toks:=s.toks+1}) (r:=none) X J hp ht fun b=>?_);obtain⟨cd,hc,hd'⟩:=PySem.W.any_some hh;have hx:s.heap.get? x=some ⟨.ref C,some dx,.plain,#[]⟩:=I.obj;refine Nb (No (Nb (Nb (wpAny_loadPart hx (Nb (PySem.W.Looks.here (s:={s with toks:=s.toks+1}) (PySem.W.looks_clsIn X hc) ?_))))));rw[hd'];refine No (a:=some dx) (Nb (No (Nb ?_)));refine wpAny_nsSet1 (s:={s with toks:=s.toks+1}) I.ns fun h' hn2 hs2=>?_;obtain⟨oD,esD,epD,hoD,hdD,hcD⟩:=hn2.count (PySem.Within.cons name v hw);refine Nb (wpAny_lookBehind hoD (by rw[hdD];exact pastItsLine_dict (ML hcD (by rw[M3];omega))) ?_);exact No (h _ ⟨(hs2.2 _ (Pg I.ne)).trans I.obj,hn2,I.ne⟩ hs2)
theorem Fu {R:Result->Shared->Prop} {vs:List Value} {kw:List (Str × Value)} (X:K.In s.heap) (hm:PySem.W.makesIn K C=true)
  (hi:findIn K (.ref C) "__init__"=some (some (.ref f))) (hf:PySem.W.typeIn K (.ref f)=some (.type "function"))
  (h:codeAny (model prog w) (A.under (.builtin "type.__call__" ⟨.ref C::vs,kw⟩)) (.call (.ref f) ⟨.ref (s.heap.objs.size+1)::vs,kw⟩) (PySem.W.InitBack (s.heap.objs.size+1) R)
   {s with heap:=(s.heap.push PySem.W.emptyDict).push (PySem.W.instObj C s.heap.objs.size)}):
  codeAny (model prog w) A (.call (.ref C) ⟨vs,kw⟩) R s:=by
 obtain⟨hh,g,d,t,os⟩:=s;exact PySem.W.make_core (PySem.W.makes_of X hm) (PySem.W.looks_findIn X hi) (fun self=>PySem.W.bind_fn X self hf) (.inl rfl) h
end
def putF(f:Str)(v:V):List (Str × V)->List (Str × V)
 | []=>[(f,v)]
 | (g,x)::r=>if g=f then(g,v)::r else(g,x)::putF f v r
theorem tP(f g:Str)(v:V):∀ fs:List (Str × V),(putF f v fs).lookup g=if g=f then some v else fs.lookup g
 | []=>by
  show List.lookup g [(f,v)]=_;by_cases h:g=f
  . have hb:(g==f)=true:=Oy.mpr h;simp only[List.lookup,hb,MU h]
  . have hb:(g==f)=false:=OC.mpr h;simp only[List.lookup,hb,MP h]
 | (k,x)::r=>by
  have ih:=tP f g v r;rw[show putF f v ((k,x)::r)=(if k=f then(k,v)::r else(k,x)::putF f v r) from rfl];by_cases hk:k=f
  . rw[MU hk];by_cases h:g=k
    . have hb:(g==k)=true:=Oy.mpr h;simp only[List.lookup,hb,MU (h.trans hk)]
    . have hb:(g==k)=false:=OC.mpr h;simp only[List.lookup,hb,MP (fun e:g=f=>h (e.trans hk.symm))]
  . rw[MP hk];by_cases h:g=k
    . have hb:(g==k)=true:=Oy.mpr h;simp only[List.lookup,hb,MP (fun e:g=f=>hk (h.symm.trans e))]
    . have hb:(g==k)=false:=OC.mpr h;simp only[List.lookup,hb];exact ih
theorem qV(f:Str)(v:V):∀ fs:List (Str × V),f∈(putF f v fs).map (·.1)/\∀ g,g∈fs.map (·.1)->g∈(putF f v fs).map (·.1)
 | []=>⟨by simp[putF],fun g h=>by simp at h⟩
 | (k,x)::r=>by
  obtain⟨i1,i2⟩:=qV f v r;rw[show putF f v ((k,x)::r)=(if k=f then(k,v)::r else(k,x)::putF f v r) from rfl];by_cases hk:k=f
  . rw[MU hk];subst hk;exact⟨by simp,fun g h=>by simpa using h⟩
  . rw[MP hk];refine⟨?_,fun g h=>?_⟩
    . rw[M4];exact MI _ i1
    . rw[M4] at h ⊢;rcases MS.mp h with e | e
      . exact MS.mpr (.inl e)
      . exact MI _ (i2 g e)
theorem tQ(f:Str)(v:V):∀ fs:List (Str × V),(putF f v fs).length<=fs.length+1
 | []=>by simp[putF]
 | (k,x)::r=>by
  have ih:=tQ f v r;rw[show putF f v ((k,x)::r)=(if k=f then(k,v)::r else(k,x)::putF f v r) from rfl];by_cases hk:k=f
  . rw[MU hk,M3,M3];omega
  . rw[MP hk,M3,M3];omega
variable{o:Option Value}
theorem RelO.some_of{v:V}(r:RelO (some v) o):∃ u,o=some u/\RelV v u:=by
 cases o with
 | none=>exact(show False from r).elim
 | some u=>exact⟨u,rfl,r⟩
abbrev Qf:=@RelO.some_of
theorem RelO.none_of(r:RelO none o):o=none:=by
 cases o with
 | none=>rfl
 | some u=>exact(show False from r).elim
theorem DS{v:V}{u:Value}(r:RelV v u):PySem.W.handedIn u=true:=by
 cases v with
 | non=>cases (show u=Value.none from r);rfl
 | bl b=>cases (show u=Value.bool b from r);rfl
 | int i=>obtain⟨t,e⟩:=(show ∃ t,u=Value.int i t from r);cases e;rfl
 | str x=>obtain⟨t,e⟩:=(show ∃ t,u=Value.str x t from r);cases e;rfl
 | byt b=>obtain⟨t,e⟩:=(show ∃ t,u=Value.bytes b t from r);cases e;rfl
 | flt b=>obtain⟨t,e⟩:=(show ∃ t,u=Value.float b t from r);cases e;rfl
 | ref a=>cases (show u=Value.ref a from r);rfl
 | ty n=>cases (show u=Value.type n from r);rfl
section
variable{P:Program}{w:World}{H H':Hp}{h h':Heap}{a C dx:Addr}{fs fs':List (Str × V)}
theorem sS(hok:HOk P w H h)(e:H a=some (.ins C dx fs)):∃ mA,ObjM h a dx C mA/\(∀ f,RelO (fs.lookup f) (mA f))/\PySem.Within mA (fs.map (·.1))/\fs.length<=1000/\H dx=some (.own a):=by
 obtain⟨d,z,ne,ob,mA,n,r,q⟩:=(show ObjOk P w H h a (.ins C dx fs) from hok a _ e);exact⟨mA,⟨ob,n,ne⟩,r,q,z,d⟩
end
structure Cls(K:Frag)(C:Addr):Prop where
 pg:PySem.W.plainGet K C Str.empty=true
 hd:PySem.W.hasDictIn K C=true
 po:PySem.W.plainOver K C=true
 sa:findIn K (.ref C) "__setattr__"=some (some (.builtin "object.__setattr__"))
theorem Cls.get{K:Frag}(c:Cls K C)(f:Str):PySem.W.plainGet K C f=true:=c.pg
def NoAttr(K:Frag)(C:Addr)(f:Str):Prop:=findIn K (.ref C) f=some none
theorem NoAttr.taker{K:Frag}{f:Str}(n:NoAttr K C f):PySem.W.takerIn K C f=some none:=by
 unfold PySem.W.takerIn;rw[show findIn K (.ref C) f=some none from n];rfl
structure Meth(K:Frag)(C:Addr)(m:Str)(f:Addr):Prop where
 at_:findIn K (.ref C) m=some (some (.ref f))
 fn:isFn K (.ref f)=true
 kp:keepIn K (.ref f)=true
section
variable{X:Cx}{Md:List (Addr × Obj)}{σ:St}{H:Hp}{s:Shared}{a C dx:Addr}{fs:List (Str × V)}{f:Str}{v:V}{A:Around}{E:Value->Shared->Prop}
theorem CS {b:Bool} {Q:Value->Shared->Prop} (I:Inv X Md σ H s) (e:H a=some (.ins C dx fs)) (c:Cls X.K C) (n:NoAttr X.K C f) (l:fs.lookup f=some v)
  (h:∀ u s',Inv X Md σ H s'->RelV v u->Q u s'):wpAny (model X.prog X.w) A (getAttr (.ref a) f b) Q E s:=by
 obtain⟨mA,O,r,_,_,_⟩:=sS I.hok e;obtain⟨u,hu,ru⟩:=Qf (v:=v) (o:=mA f) (by rw[← l];exact r f);exact Gk I.kIn O (c.get f) c.hd n hu (DS ru) (h u _ (I.tok _) ru)
theorem vd {m:Str} {g:Addr} {pl:Sem Bool} {Q:Value × List Value->Shared->Prop} (I:Inv X Md σ H s) (e:H a=some (.ins C dx fs)) (c:Cls X.K C) (k:Meth X.K C m g) (l:fs.lookup m=none)
  (h:Q (.ref g,[.ref a]) s):wpAny (model X.prog X.w) A (getMethod (.ref a) m pl) Q E s:=by
 obtain⟨mA,O,r,_,_,_⟩:=sS I.hok e;have hn:mA m=none:=RelO.none_of (by rw[← l];exact r m);exact Ft I.kIn O (c.get m) k.at_ k.fn hn h
theorem CT {y:V} {u:Value} {Q:Unit->Shared->Prop} (I:Inv X Md σ H s) (e:H a=some (.ins C dx fs)) (c:Cls X.K C) (n:NoAttr X.K C f) (hl:fs.length<1000) (ry:RelV y u)
  (h:∀ s',Inv X Md σ (upd H a (.ins C dx (putF f y fs))) s'->Q () s'):wpAny (model X.prog X.w) A (setAttr (.ref a) f u) Q E s:=by
 obtain⟨mA,O,r,wi,_,ho⟩:=sS I.hok e;have hz:(fs.map (·.1)).length<=sizeLine:=by rw[Mr,sizeLine_eq];omega
 refine Gm I.kIn O c.sa c.po n.taker c.hd wi hz fun h' O' sb=>h _ ?_;have hd:∃ o,h'.get? dx=some o:=let ⟨o,_,_,e',_⟩:=O'.ns;⟨o,e'⟩;refine I.write (x:=a) (e:=dx) (by rw[e];exact True.intro) (.inr ho) (fun b q hb z=>(sb.2 b hb).trans z) hd ?_;refine⟨by rw[aq O.ne];exact ho,?_,O.ne,O'.obj,_,O'.ns,fun g=>?_,fun g hg=>?_⟩
 . have:=tQ f y fs;omega
 . show RelO ((putF f y fs).lookup g) (if g=f then some u else mA g);rw[tP];by_cases q:g=f
   . rw[MU q,MU q];exact ry
   . rw[MP q,MP q];exact r g
 . by_cases q:g=f
   . rw[q];exact(qV f y fs).1
   . refine(qV f y fs).2 g (wi g fun z=>hg ?_);show(if g=f then some u else mA g)=none;rw[MP q];exact z
theorem Inv.made(I:Inv X Md σ H s):Inv X Md σ (upd (upd H s.heap.objs.size (.own (s.heap.objs.size+1))) (s.heap.objs.size+1) (.ins C s.heap.objs.size []))
  {s with heap:=(s.heap.push PySem.W.emptyDict).push (PySem.W.instObj C s.heap.objs.size)}:=by
 have e1:(s.heap.push PySem.W.emptyDict).get? s.heap.objs.size=some PySem.W.emptyDict:=Nf s.heap rfl
 have e2:((s.heap.push PySem.W.emptyDict).push (PySem.W.instObj C s.heap.objs.size)).get? (s.heap.objs.size+1)=some (PySem.W.instObj C s.heap.objs.size):=by
  have:=Nf (s.heap.push PySem.W.emptyDict) (o:=PySem.W.instObj C s.heap.objs.size) rfl
  rwa [Oj] at this
 have e3:(s.heap.push PySem.W.emptyDict).Ns s.heap.objs.size (fun _=>none):=⟨PySem.W.emptyDict,#[],_,e1,rfl,(fun e he=>absurd he (by simp)),fun _=>rfl⟩;have I1:=I.laid (a:=s.heap.objs.size) (o:=.own (s.heap.objs.size+1)) (h':=s.heap.push PySem.W.emptyDict) (t':=s.toks) (fun b u q=>MV _ q) (MW _) ⟨_,e1⟩;refine I1.laid (a:=s.heap.objs.size+1) (o:=.ins C s.heap.objs.size []) (t':=s.toks) (fun b u q=>MV _ q) (Nat.le_of_eq (Oj _ _)) ?_;have ne:s.heap.objs.size≠s.heap.objs.size+1:=Nl (OU _);refine⟨by rw[aq ne,ak],Nu _,ne,e2,fun _=>none,(Heap.Ns1.of_empty e3).at fun o q=>MV _ q,fun _=>True.intro,fun y hy=>absurd rfl hy⟩
theorem Gn {prog:Program} {w:World} {env:Env} {e:Expr} {f:Str} {pos:Pos} {s:Shared} {Q:Value->Shared->Prop} (hb:attributeBase e f env (eval e env)=eval e env)
  (h:wpAny (model prog w) A (eval e env) (fun o s₁=>wpAny (model prog w) A (getAttr o f true) Q E s₁) E s):wpAny (model prog w) A (eval (.Attribute e f pos) env) Q E s:=
 Attribute_any_ h (by rw[arm_eval_Attribute,hb])
end
section
variable{X:Cx}{o e value:Expr}{f:Str}{pos pos' tpos:Pos}{ta tv:TE}
end
section
variable{X:Cx}{Md:List (Addr × Obj)}{σ:St}{H:Hp}{s:Shared}{A:Around}{E:Value->Shared->Prop}{Q:Value->Shared->Prop}{c:Value}{b:Bool}
inductive TyOf(K:Frag)(H:Hp):V->Value->Prop where
 | non:TyOf K H .non (.type "NoneType")
 | bl (x:Bool):TyOf K H (.bl x) (.type "bool")
 | int (i:Int):TyOf K H (.int i) (.type "int")
 | str (x:Str):TyOf K H (.str x) (.type "str")
 | flt (x:UInt64):TyOf K H (.flt x) (.type "float")
 | lst {a:Addr} {xs:List V} (e:H a=some (.lst xs)):TyOf K H (.ref a) (.type "list")
 | frz {a:Addr} {o:Obj} {xs:List V} (e:H a=some (.frz o (.lst xs))):TyOf K H (.ref a) (.type "list")
 | tup {a:Addr} {xs:List V} (e:H a=some (.tup xs)):TyOf K H (.ref a) (.type "tuple")
 | dK {a:Addr} {Mh:List (Key × V)} (e:H a=some (.dK Mh)):TyOf K H (.ref a) (.type "dict")
 | dT {a:Addr} {Mh:List (List Key × V)} (e:H a=some (.dT Mh)):TyOf K H (.ref a) (.type "dict")
 | ins {a C dx:Addr} {fs:List (Str × V)} (e:H a=some (.ins C dx fs)) (cl:Cls K C) (ha:findIn K (.ref C) "__class__"=some (some (.builtin "object.__class__")))
   (hn:PySem.W.specialIn K (.builtin "object.__class__") "__get__"=some (some (.builtin "getset_descriptor.__get__"))) (htk:PySem.W.takesIn K (.builtin "object.__class__")=some true)
   (hm:PySem.W.mroIn K C (.type "object")=some true):TyOf K H (.ref a) (.ref C)
theorem DT{x:V}{u t:Value}(I:Inv X Md σ H s)(rx:RelV x u)(ty:TyOf X.K H x t)(e:PySem.W.kitOne X.K t c=some b)(h:∀ tk,Q (.bool b) {s with toks:=tk}):
  wpAny (model X.prog X.w) A (call (.builtin "isinstance") [u,c]) Q E s:=by
 cases ty with
 | non=>cases (show u=Value.none from rx);exact NI PySem.W.kitx_none I.kIn True.intro e (fun z=>nomatch z) h
 | bl y=>cases (show u=Value.bool y from rx);exact NI PySem.W.kitx_bool I.kIn True.intro e (fun z=>nomatch z) h
 | int i=>obtain⟨t,q⟩:=(show ∃ t,u=Value.int i t from rx);cases q;exact NI PySem.W.kitx_int I.kIn True.intro e (fun z=>nomatch z) h
 | str y=>obtain⟨t,q⟩:=(show ∃ t,u=Value.str y t from rx);cases q;exact NI PySem.W.kitx_str I.kIn True.intro e (fun z=>nomatch z) h
 | flt y=>obtain⟨t,q⟩:=(show ∃ t,u=Value.float y t from rx);cases q;exact NI PySem.W.kitx_float I.kIn True.intro e (fun z=>nomatch z) h
 | @lst a xs ea=>
  cases (show u=Value.ref a from rx);obtain⟨_,_,n,_,h1⟩:=(show ObjOk X.prog X.w H s.heap a (.lst xs) from I.hok a _ ea);exact NI PySem.W.kitx_list I.kIn ⟨_,h1,rfl⟩ e (fun z=>nomatch z) h
 | @frz a ob xs ea=>
  cases (show u=Value.ref a from rx);obtain⟨_,_,_,n,_,h1⟩:=(show ObjOk X.prog X.w H s.heap a (.frz ob (.lst xs)) from I.hok a _ ea);exact NI PySem.W.kitx_list I.kIn ⟨_,h1,rfl⟩ e (fun z=>nomatch z) h
 | @tup a xs ea=>
  cases (show u=Value.ref a from rx);obtain⟨_,_,_,p⟩:=(show ObjOk X.prog X.w H s.heap a (.tup xs) from I.hok a _ ea);obtain⟨o,h1,h2,_⟩:=p;exact NI PySem.W.kitx_tuple I.kIn ⟨o,h1,h2⟩ e (fun z=>nomatch z) h
 | @dK a Mh ea=>
  cases (show u=Value.ref a from rx);obtain⟨_,_,vs,_,p⟩:=(show ObjOk X.prog X.w H s.heap a (.dK Mh) from I.hok a _ ea);obtain⟨o,es,ep,h1,h2,_⟩:=p;exact NI PySem.W.kitx_dict I.kIn ⟨o,h1,h2.1⟩ e (fun z=>nomatch z) h
 | @dT a Mh ea=>
  cases (show u=Value.ref a from rx);obtain⟨_,_,xs,_,o,es,ep,h1,h2,_⟩:=(show ObjOk X.prog X.w H s.heap a (.dT Mh) from I.hok a _ ea);exact NI PySem.W.kitx_dict I.kIn ⟨o,h1,h2.1⟩ e (fun z=>nomatch z) h
 | @ins a C dx fs ea cl ha hn htk hm=>
  cases (show u=Value.ref a from rx);obtain⟨mA,O,_⟩:=sS I.hok ea;obtain⟨od,J,_⟩:=O.look;exact NI (PySem.W.kitx_own (cl.get _) cl.hd ha hn htk hm) I.kIn J e (fun z=>nomatch z) h
end
structure Room(k:Nat)(A:Around):Prop where
 hd:A.handled=none
 dp:A.depth+3*k+5<recursionLimit
 un:A.units+16*k+200<cLine
variable{A:Around}
theorem Room.mono{j k:Nat}(r:Room k A)(h:j<=k):Room j A:=⟨r.hd,by have:=r.dp;omega,by have:=r.un;omega⟩
theorem Room.deeper{k:Nat}(r:Room (k+1) A)(env:Env):Room k (A.deeper env):=
 ⟨r.hd,by have:=r.dp;show A.depth+1+3*k+5<_;omega,by have:=r.un;show A.units+3+16*k+200<_;omega⟩
variable{us:List Value}{kw:List (Str × Value)}
theorem CU{C:Addr}:(A.under (.builtin "type.__call__" ⟨.ref C::us,kw⟩)).depth=A.depth+1:=by
 first | rfl | simp[Around.under,Code.weight,Code.isCreation,Code.isGuard,Code.isCaller,Code.frames,Code.isFrame,guardIds]
theorem CV{C:Addr}:(A.under (.builtin "type.__call__" ⟨.ref C::us,kw⟩)).units=A.units+1:=by
 first | rfl | simp[Around.under,Code.cUnits,Code.frames,Code.isFrame]
theorem Room.make{k:Nat}(r:Room (k+1) A)(C:Addr)(us:List Value)(kw:List (Str × Value)):Room k (A.under (.builtin "type.__call__" ⟨.ref C::us,kw⟩)):=
 ⟨r.hd,by have:=r.dp;rw[CU];omega,by have:=r.un;rw[CV];omega⟩
theorem Room.depth{k:Nat}(r:Room k A):A.depth<recursionLimit:=by have:=r.dp;omega
theorem Room.units{k:Nat}(r:Room k A):A.units+64<cLine:=by have:=r.un;omega
def tNil:TA:=fun _ H Q=>Q [] H
def tCons(ta:TE)(tr:TA):TA:=fun σ H Q=>ta σ H fun x H1=>tr σ H1 fun xs H2=>Q (x::xs) H2
section
variable{X:Cx}{e:Expr}{es:List Expr}{te:TE}{t:TA}{pos:Pos}
theorem ad:PA X [] tNil:=fun _ _ _ _ H Q I h=>OM ⟨[],H,I,.nil,h⟩
theorem ab(ha:PE X e te)(hr:PA X es t)(hs:starEach (e::es) X.env=(false,eval e X.env)::starEach es X.env:=by rfl):PA X (e::es) (tCons te t):=by
 intro pos Md s σ H Q I h;rw[hs];show wpAny _ _ (spliced ((false,eval e X.env)::backTo pos (starEach es X.env))) _ _ s;refine OH (thn (ha Md s σ H _ I h) fun u s1 ⟨x,H1,I1,r1,q1⟩=>?_);exact thn (hr pos Md s1 σ H1 _ I1 q1) fun us s2 ⟨xs,H2,I2,r2,q2⟩=>⟨x::xs,H2,I2,.cons r1 r2,q2⟩
def tTup(t:TA):TE:=fun σ H Q=>t σ H fun xs H1=>xs.length<=sizeLine/\∀ p,H1 p=none->Q (.ref p) (upd H1 p (.tup xs))
def tLst(t:TA):TE:=fun σ H Q=>t σ H fun xs H1=>xs.length<=sizeLine/\∀ p,H1 p=none->Q (.ref p) (upd H1 p (.lst xs))
theorem bV{x1}(h:PA X es t):PE X (.Tuple es x1 pos) (tTup t):=by
 intro Md s σ H Q I hq;refine wpAny_Tuple_spliced (thn (h pos Md s σ H _ I hq) fun us s1 ⟨xs,H1,I1,r,z,q⟩=>⟨by rw[← r.length];exact z,?_⟩);have hf:H1 s1.heap.objs.size=none:=I1.hok.fresh (MW _);refine⟨.ref s1.heap.objs.size,upd H1 s1.heap.objs.size (.tup xs),I1.laid (t':=s1.toks) (fun b u e=>MV _ e) (MW _) ?_,rfl,q _ hf⟩;exact⟨z,us,r,⟨_,Nf _ rfl,rfl,_,rfl⟩⟩
theorem aJ(h:PA X es t):PE X (.List es pos) (tLst t):=by
 intro Md s σ H Q I hq;refine wpAny_List_spliced (thn (h pos Md s σ H _ I hq) fun us s1 ⟨xs,H1,I1,r,z,q⟩=>⟨by rw[← r.length];exact z,?_⟩);have hf:H1 s1.heap.objs.size=none:=I1.hok.fresh (MW _);refine⟨.ref s1.heap.objs.size,upd H1 s1.heap.objs.size (.lst xs),I1.laid (t':=s1.toks) (fun b u e=>MV _ e) (MW _) ?_,rfl,q _ hf⟩;exact⟨z,us,0,r,Nf _ rfl⟩
end
abbrev Sp:=List V->Hp->VK->XK->Prop
abbrev CXT:=List Env->Hp->Shared->XK->Value->Shared->Prop
structure Env0(P:Program)(w:World)(K:Frag)(mg:Str->Option Value)(base:Heap)(A:Around)(outer:List Env)(s:Shared)(H:Hp):Prop where
 frames:A.frames=some outer
 mod:Mod K mg base
 bs:∀ b o,base.get? b=some o->s.heap.get? b=some o/\H b=none
 bsz:base.objs.size<=s.heap.objs.size
 funs:s.heap.FunFrames base outer
 frf:∀ b∈frs outer,H b=none
 hok:HOk P w H s.heap
 bare:AllBare s.gens
def CE(outer:List Env)(P:Program)(w:World)(H:Hp)(s:Shared)(Q:VK)(u:Value)(s':Shared):Prop:=
 ∃ v H',s'.os=s.os/\AllBare s'.gens/\Un (frs outer) [] H H' s.heap s'.heap/\HOk P w H' s'.heap/\RelV v u/\Q v H'
def CR(CX:CXT)(outer:List Env)(P:Program)(w:World)(H:Hp)(s:Shared)(Q:VK)(E:XK)(r:Result)(s':Shared):Prop:=
 match r with
 | .ok (.ret u)=>CE outer P w H s Q u s'
 | .ok _=>False
 | .error e=>CX outer H s E e s'
structure FnOk(P:Program)(w:World)(K:Frag)(mg:Str->Option Value)(base:Heap)(CX:CXT)(k:Nat)(f:Addr)(fd:FuncData)(ps:List Str)(sp:Sp):Prop where
 len:∀ vs H Q E,sp vs H Q E->vs.length=ps.length
 run:∀(A:Around) (outer:List Env) (s:Shared) (H:Hp) (args:Args) (us:List Value) (vs:List V) (Q:VK) (E:XK),Room k A->Env0 P w K mg base A outer s H->BindsTo s fd args (ps.zip us)->Vals vs us->sp vs H Q E->
  codeAny (model P w) A (.call (.ref f) args) (CR CX outer P w H s Q E) s
variable{P:Program}{w:World}{K:Frag}{mg:Str->Option Value}{base:Heap}{CX:CXT}{f:Addr}{fd:FuncData}{ps:List Str}
theorem FnOk.mono{j k:Nat}{sp:Sp}(F:FnOk P w K mg base CX j f fd ps sp)(h:j<=k):
  FnOk P w K mg base CX k f fd ps sp:=⟨F.len,fun A outer s H args us vs Q E hr=>F.run A outer s H args us vs Q E (hr.mono h)⟩
theorem FnOk.imp {k:Nat} {sp sp':Sp} (F:FnOk P w K mg base CX k f fd ps sp)
  (h:∀ vs H Q E,sp' vs H Q E->sp vs H Q E):FnOk P w K mg base CX k f fd ps sp':=
 ⟨fun vs H Q E q=>F.len vs H Q E (h _ _ _ _ q),fun A outer s H args us vs Q E hr he hb hv hs=>F.run A outer s H args us vs Q E hr he hb hv (h _ _ _ _ hs)⟩
variable{outer:List Env}
theorem Env0.make{s:Shared}{H:Hp}(e:Env0 P w K mg base A outer s H)(C:Addr)(us:List Value)(kw:List (Str × Value)):
  Env0 P w K mg base (A.under (.builtin "type.__call__" ⟨.ref C::us,kw⟩)) outer s H:=⟨by first | exact e.frames | (simpa [Around.under,Code.envs,Code.isFrame,pushEnvs] using e.frames),e.mod,e.bs,e.bsz,e.funs,e.frf,e.hok,e.bare⟩
section
variable{X:Cx}{Md:List (Addr × Obj)}{σ:St}{H:Hp}{s s':Shared}
theorem Inv.env0(I:Inv X Md σ H s):Env0 X.prog X.w X.K X.mg X.base X.A X.stack s H:=
 ⟨I.ok.frames,I.ok.mod,I.bs,ML I.ok.bsz I.sz,I.stack,I.stkFree,I.hok,I.bare⟩
theorem Inv.after{Q:VK}{u:Value}(I:Inv X Md σ H s)(h:CE X.stack X.prog X.w H s Q u s'):EP X Md σ Q u s':=by
 obtain⟨v,H',os,bare,un,hok,r,q⟩:=h;obtain⟨hh,g,d,t,os'⟩:=s';obtain rfl:os'=s.os:=os;exact⟨v,H',I.call (h':=hh) (g':=g) (d':=d) (t':=t) (ch:=[]) un hok bare (fun b z=>absurd z (by simp)),r,q⟩
end
def tCall(sp:Sp)(dvs:List V)(E:XK)(t:TA):TE:=fun σ H Q=>t σ H fun vs H1=>sp (vs++dvs) H1 Q E
def tMake(C:Addr)(sp:Sp)(dvs:List V)(E:XK)(t:TA):TE:=fun σ H Q=>t σ H fun vs H1=>∀ x dx,H1 x=none->H1 dx=none->dx≠x->
 sp (.ref x::(vs++dvs)) (upd (upd H1 dx (.own x)) x (.ins C dx [])) (fun v H2=>v=.non/\Q (.ref x) H2) E
def Binds(K:Frag)(fd:FuncData)(ps:List Str)(ds:List Value):Prop:=
 ∀(s:Shared) (us:List Value),K.In s.heap->(us++ds).length=ps.length->BindsTo s fd ⟨us,[]⟩ (ps.zip (us++ds))
theorem Binds.all(h:∀ us:List Value,us.length=ps.length->bindArgs fd ⟨us,[]⟩=pure (ps.zip us)):Binds K fd ps []:=fun s us _ hl=>by
 rw[P1] at hl ⊢;exact .of_eq (h us hl)
def qW(CX:CXT)(X:Cx)(E:XK):Prop:=∀(Md:List (Addr × Obj)) (σ:St) (H:Hp) (s:Shared) (e:Value) (s':Shared),Inv X Md σ H s->CX X.stack H s E e s'->X.xe e s'
section
variable{X:Cx}{CX:CXT}{k:Nat}{f C:Addr}{fd:FuncData}{ps:List Str}{sp:Sp}{dvs:List V}{ds:List Value}{E:XK}{x m:Str}{p pos apos:Pos}{e o:Expr}{es:List Expr}{ta:TE}{t:TA}
theorem zP {Md:List (Addr × Obj)} {σ:St} {H:Hp} {s:Shared} {Q:VK} {us:List Value} {vs:List V} (F:FnOk X.prog X.w X.K X.mg X.base CX k f fd ps sp) (hr:Room k X.A) (hb:Binds X.K fd ps ds) (hd:Vals dvs ds) (hx:qW CX X E)
  (I:Inv X Md σ H s) (r:Vals vs us) (h:sp (vs++dvs) H Q E):wpAny (model X.prog X.w) X.A (call (.ref f) us) (EP X Md σ Q) X.xe s:=by
 have r2:Vals (vs++dvs) (us++ds):=r.append hd;have hl:(us++ds).length=ps.length:=by rw[← r2.length];exact F.len _ _ _ _ h
 refine wpAny_call (Qg (F.run X.A X.stack s H ⟨us,[]⟩ (us++ds) (vs++dvs) Q E hr I.env0 (hb s us I.kIn hl) r2 h) fun r s' hq=>?_)
 cases r with
 | error e=>exact hx Md σ H s e s' I hq
 | ok fl=>
  cases fl with
  | ret u=>exact I.after hq
  | next=>exact False.elim hq
  | brk=>exact False.elim hq
  | cont=>exact False.elim hq
theorem Gp (F:FnOk X.prog X.w X.K X.mg X.base CX k f fd ps sp) (hr:Room k X.A) (hg:Gl X x) (hm:X.mg x=some (.ref f)) (hk:keepIn X.K (.ref f)=true) (hb:Binds X.K fd ps ds) (hd:Vals dvs ds) (hx:qW CX X E)
  (ha:PA X (e::es) t) (hdb:(x==("__debug__":Str))=false:=by decide) (he:starEach (e::es) X.env=(false,eval e X.env)::starEach es X.env:=by rfl) (hpl:(backTo pos (starEach es X.env)).any (·.1)=false:=by rfl):
  PE X (.Call (.Name x p) (e::es) [] pos) (tCall sp dvs E t):=by
 intro Md s σ H Q I h;refine NX (wV I hg hm ?_ hdb);refine Pm (h₀:=X.base) I.ok.mod.kin hk (thn (ha pos Md s σ H _ I h) fun us s1 ⟨vs,H1,I1,r,q⟩=>⟨I1.kIn,?_⟩) he hpl;exact zP F hr hb hd hx I1 r q
structure Mk(K:Frag)(C f:Addr):Prop where
 makes:PySem.W.makesIn K C=true
 init:findIn K (.ref C) "__init__"=some (some (.ref f))
 fn:isFn K (.ref f)=true
 kp:keepIn K (.ref C)=true
theorem Fv {Md:List (Addr × Obj)} {σ:St} {H:Hp} {s:Shared} {Q:VK} {us:List Value} {vs:List V} (M:Mk X.K C f) (F:FnOk X.prog X.w X.K X.mg X.base CX k f fd ps sp) (hr:Room (k+1) X.A) (hb:Binds X.K fd ps ds) (hd:Vals dvs ds)
  (hx:qW CX X E) (I:Inv X Md σ H s) (r:Vals vs us)
  (h:∀ x dx,H x=none->H dx=none->dx≠x->sp (.ref x::(vs++dvs)) (upd (upd H dx (.own x)) x (.ins C dx [])) (fun v H2=>v=.non/\Q (.ref x) H2) E):
  wpAny (model X.prog X.w) X.A (call (.ref C) us) (EP X Md σ Q) X.xe s:=by
 have hq:=h (s.heap.objs.size+1) s.heap.objs.size (I.hok.fresh (O4 _)) (I.hok.fresh (MW _)) (Nl (OU _));have I2:=Inv.made (C:=C) I;have r2:Vals (V.ref (s.heap.objs.size+1)::(vs++dvs)) (Value.ref (s.heap.objs.size+1)::(us++ds)):=.cons rfl (r.append hd)
 have hl:(Value.ref (s.heap.objs.size+1)::us++ds).length=ps.length:=by
  have e:=r2.length;rw[F.len _ _ _ _ hq] at e;exact e.symm
 refine wpAny_call (Fu (f:=f) I.kIn M.makes M.init (Oy.mp M.fn) (Qg (F.run _ X.stack _ _ ⟨Value.ref (s.heap.objs.size+1)::us,[]⟩ (Value.ref (s.heap.objs.size+1)::(us++ds)) _ _ E (hr.make C us [])
  (I2.env0.make C us []) (hb _ (Value.ref (s.heap.objs.size+1)::us) I2.kIn hl) r2 hq) fun r s' hq'=>?_))
 cases r with
 | error e=>exact hx Md σ _ _ e s' I2 hq'
 | ok fl=>
  cases fl with
  | ret u=>
   obtain⟨v,H',I3,rv,ev,q3⟩:=I2.after hq';subst ev;exact⟨rv,⟨V.ref (s.heap.objs.size+1),H',I3,rfl,q3⟩⟩
  | next=>exact False.elim hq'
  | brk=>exact False.elim hq'
  | cont=>exact False.elim hq'
theorem Gq (M:Mk X.K C f) (F:FnOk X.prog X.w X.K X.mg X.base CX k f fd ps sp) (hr:Room (k+1) X.A) (hg:Gl X x) (hm:X.mg x=some (.ref C)) (hb:Binds X.K fd ps ds) (hd:Vals dvs ds) (hx:qW CX X E)
  (ha:PA X (e::es) t) (hdb:(x==("__debug__":Str))=false:=by decide) (he:starEach (e::es) X.env=(false,eval e X.env)::starEach es X.env:=by rfl) (hpl:(backTo pos (starEach es X.env)).any (·.1)=false:=by rfl):
  PE X (.Call (.Name x p) (e::es) [] pos) (tMake C sp dvs E t):=by
 intro Md s σ H Q I h;refine NX (wV I hg hm ?_ hdb);refine Pm (h₀:=X.base) I.ok.mod.kin M.kp (thn (ha pos Md s σ H _ I h) fun us s1 ⟨vs,H1,I1,r,q⟩=>⟨I1.kIn,?_⟩) he hpl;exact Fv M F hr hb hd hx I1 r q
end
section
variable{X:Cx}{CX:CXT}{k:Nat}{f C:Addr}{fd:FuncData}{ps ks:List Str}{sp:Sp}{E:XK}{x m:Str}{p pos apos kpos:Pos}{e o:Expr}{es:List Expr}{kws:List Keyword}{te ta:TE}{t tk:TA}{nm:Option Str}
variable{g:List Value->List Value->List Value}{gV:List V->List V->List V}
end
structure l8(N P:List Str)(sc:Scope):Prop where
 kind:sc.kind=.function
 co:sc.isCoroutine=false
 gen:sc.isGenerator=false
 nd:N.Nodup
 pre:N.take P.length=P
 par:∀ x∈P,sc.names.lookup x=some .local\/sc.names.lookup x=some .cell
 nofree:∀ y∈sc.names,y.2≠.free
theorem yb{kindOf:Str->Option NameKind}{x:Str}:∀{binds:List (Str × Value)} {m:Str->Option Value},(∀ v,(x,v)∉binds)->bindL kindOf binds m x=m x
 | [],_,_=>rfl
 | (n,v)::r,m,h=>by
  unfold bindL;rw[yb fun w hw=>h w (MI _ hw)]
  split
  . have:x≠n:=by rintro rfl;exact h v MD
    simp[this]
  . rfl
theorem yc{kindOf:Str->Option NameKind}{x:Str}:∀{binds:List (Str × Value)} {m:Str->Option Value},(∀ v,(x,v)∉binds)->bindC kindOf binds m x=m x
 | [],_,_=>rfl
 | (n,v)::r,m,h=>by
  unfold bindC;rw[yc fun w hw=>h w (MI _ hw)]
  split
  . rfl
  . have:x≠n:=by rintro rfl;exact h v MD
    simp[this]
theorem yd{kindOf:Str->Option NameKind}{x:Str}{v:Value}:∀{P:List Str} {vs:List Value} {i:Nat} {m:Str->Option Value},P.Nodup->P[i]? =some x->vs[i]? =some v->kindOf x=some .local->
  bindL kindOf (P.zip vs) m x=some v
 | [],_,_,_,_,h,_,_=>by simp at h
 | _::_,[],_,_,_,_,h,_=>by simp at h
 | p::P,w::vs,0,m,nd,h1,h2,hk=>by
  simp at h1 h2;subst h1;subst h2;show bindL kindOf ((p,w)::P.zip vs) m p=_;unfold bindL;rw[yb fun v hv=>(Nm.mp nd).1 (P2 hv).1,MU hk];simp
 | p::P,w::vs,i+1,m,nd,h1,h2,hk=>by
  show bindL kindOf ((p,w)::P.zip vs) m x=_;unfold bindL;exact yd (i:=i) (Nm.mp nd).2 (by simpa using h1) (by simpa using h2) hk
theorem ye{kindOf:Str->Option NameKind}{x:Str}{v:Value}:∀{P:List Str} {vs:List Value} {i:Nat} {m:Str->Option Value},P.Nodup->P[i]? =some x->vs[i]? =some v->kindOf x≠some .local->
  bindC kindOf (P.zip vs) m x=some v
 | [],_,_,_,_,h,_,_=>by simp at h
 | _::_,[],_,_,_,_,h,_=>by simp at h
 | p::P,w::vs,0,m,nd,h1,h2,hk=>by
  simp at h1 h2;subst h1;subst h2;show bindC kindOf ((p,w)::P.zip vs) m p=_;unfold bindC;rw[yc fun v hv=>(Nm.mp nd).1 (P2 hv).1,MP hk];simp
 | p::P,w::vs,i+1,m,nd,h1,h2,hk=>by
  show bindC kindOf ((p,w)::P.zip vs) m x=_;unfold bindC;exact ye (i:=i) (Nm.mp nd).2 (by simpa using h1) (by simpa using h2) hk
def start(N:List Str)(vs:List V):St:=vs.map some++List.replicate (N.length-vs.length) none
def cxOf(CX:CXT)(P:Program)(w:World)(K:Frag)(mg:Str->Option Value)(base:Heap)(N:List Str)(qual:Str)(scope:Scope)(f:Addr)(cd:Value)(A:Around)(outer:List Env)(s:Shared)(H:Hp)(E:XK):Cx where
 prog:=P
 w:=w
 K:=K
 mg:=mg
 base:=base
 A:=A.deeper (envOfC qual scope s.heap.objs.size f cd)
 N:=N
 s₀:=s
 H₀:=H
 env:=envOfC qual scope s.heap.objs.size f cd
 outer:=outer
 stack:=envOfC qual scope s.heap.objs.size f cd::outer
 ex:=[]
 calm:=true
 fn:=fun _=>true
 pn:=[]
 xe:=fun e s'=>wpAny (model P w) (A.deeper (envOfC qual scope s.heap.objs.size f cd)) (leaving (envOfC qual scope s.heap.objs.size f cd) e) (fun _ s''=>CX outer H s E e s'') (fun e' s''=>CX outer H s E e' s'') s'
theorem pY{sc:Scope}{n:Nat}{x:Str}(h:sc.names.lookup x=some .cell):∃ c,(cellsFrom n sc.names []).lookup x=some c:=by
 have q:=PR sc.names n [] (.inl h);exact Option.isSome_iff_exists.mp q
variable{scope:Scope}
theorem DU {N:List Str} {qual:Str} {cd:Value} {s s1:Shared} {H:Hp} {E:XK} {vs:List V}
  (S:l8 N ps scope) (hd:A.handled=none) (e0:Env0 P w K mg base A outer s H) (hl:vs.length=ps.length) (r:Vals vs us)
  (x:InCallC s s.heap.objs.size (bindL (envOfC qual scope s.heap.objs.size f cd).kindOf (ps.zip us) fun _=>none) (cellsFrom (s.heap.objs.size+1) scope.names []) (bindC (envOfC qual scope s.heap.objs.size f cd).kindOf (ps.zip us) fun _=>none) s1):
  Inv (cxOf CX P w K mg base N qual scope f cd A outer s H E) [] (start N vs) H s1:=by
 have hpl:ps.length<=N.length:=by have:=congrArg List.length S.pre;rw[NO] at this;omega
 obtain⟨h1,tk,rfl,hk⟩:=x.done;have noA:∀ b:Addr,b∉(cxOf CX P w K mg base N qual scope f cd A outer s H E).ex:=fun b z=>absurd (show b∈([]:List Addr) from z) (by simp)
 refine⟨⟨e0.mod,S.kind,rfl,rfl,MW _,fun y z c h1 h2=>?_,fun y hy=>?_,fun y c _ h=>?_,fun _=>hd,Around.frames_deeper e0.frames,.inr ⟨rfl,rfl⟩,fun b z=>absurd z (noA b),e0.bs,e0.bsz,fun b _ _=>noA b,fun b z=>absurd z (noA b),e0.funs,e0.frf⟩,
  rfl,e0.bare,Un.kept hk,⟨_,x.toInCall.ns,fun i y v h1 h2 h3=>?_⟩,fun y c h=>⟨_,x.cell y c h⟩,e0.hok.fresh (MW _),fun y c h=>?_,fun p hp=>absurd (show p∈([]:List (Addr × Obj)) from hp) (by simp),e0.hok.kept hk,?_⟩
 . exact name_of_addr x.apart (ND h1) (ND h2)
 . have hy:scope.names.lookup y=some .cell\/scope.names.lookup y=some .free:=hy;rcases hy with hy | hy
   . exact pY hy
   . exact absurd rfl (S.nofree _ (ND hy))
 . exact Nj (x.above y c (ND h))
 . have hi:i<vs.length:=by
    unfold start at h2;by_cases hi:i<vs.length
    . exact hi
    . rw[Nk (by simpa using hi)] at h2;rw[List.getElem?_replicate] at h2
      split at h2 <;> cases h2
   have ha:vs[i]? =some v:=by
    unfold start at h2;rw[Nc (by simpa using hi),MA] at h2
    cases e:vs[i]? with
    | none=>rw[e] at h2;cases h2
    | some a=>rw[e] at h2;cases h2;rfl
   obtain⟨u,hu,rv⟩:=r.get ha
   have hp:ps[i]? =some y:=by
    rw[← S.pre,List.getElem?_take_of_lt (by omega)];exact h1
   have ndP:ps.Nodup:=by rw[← S.pre];exact S.nd.sublist (List.take_sublist _ _)
   refine⟨u,rv,?_⟩;rcases S.par y (Mz hp) with k | k
   . exact .inl ⟨k,yd ndP hp hu k⟩
   . obtain⟨c,e⟩:=pY (n:=s.heap.objs.size+1) k;refine .inr ⟨.inl k,c,e,?_⟩;have q:=x.cell y c e;rw[ye ndP hp hu (by show scope.names.lookup y≠_;rw[k];decide)] at q;exact q
 . exact e0.hok.fresh (Nj (x.above y c (ND h)))
 . unfold start;show _=N.length;rw[M6,Mr,Ow];omega
theorem IS {k:Nat} {name qual:Str} {params:Arguments} {body:List Stmt} {dV kV doc pm Mg ct oc:Value} {an od:Option Addr}
  {osl:Array (Option Value)} {N ps:List Str} {sp:Sp} (lk:K.lookup f=some ⟨oc,od,.func (fnOf name qual params body scope dV kV doc pm an Mg ct),osl⟩) (hcd:codeIn K Mg qual=true) (S:l8 N ps scope)
  (len:∀ vs H Q E,sp vs H Q E->vs.length=ps.length)
  (hbody:∀(A:Around) (outer:List Env) (s:Shared) (H:Hp) (vs:List V) (Q:VK) (E:XK),Room k (A.deeper (envOfC qual scope s.heap.objs.size f Mg))->sp vs H Q E->
   ∃ t,PSs (cxOf CX P w K mg base N qual scope f Mg A outer s H E) body t/\t {nx:=fun _ H'=>Q .non H',rt:=Q} (start N vs) H):
  FnOk P w K mg base CX (k+1) f (fnOf name qual params body scope dV kV doc pm an Mg ct) ps sp:=by
 refine⟨len,fun A outer s H args us vs Q E hr e0 hb r hsp=>?_⟩;have hl:=len _ _ _ _ hsp;have KX:K.In s.heap:=e0.mod.kin.keeps fun b o e=>(e0.bs b o e).1;have lim:s.heap.NoLimit:=e0.mod.nolimit.keeps fun b o e=>(e0.bs b o e).1
 have hkind:∀ y∈ps.zip us,scope.names.lookup y.1=some .local\/(scope.names.lookup y.1=some .cell/\((cellsFrom (s.heap.objs.size+1) scope.names []).lookup y.1).isSome=true):=fun⟨n,v⟩ hy=>by
  rcases S.par n (P2 hy).1 with q | q
  . exact .inl q
  . exact .inr ⟨q,PR _ _ _ (.inl q)⟩
 refine codeAny_call_function hr.depth (KX _ _ lk) rfl S.co S.gen rfl (PySem.W.codeRec_of KX hcd) (hb _ _ _ _ ?_);refine wpAny_newFunctionEnv_cells S.kind hkind fun env he s1 x=>?_;subst he;refine⟨lim.keeps x.toInCall.keep,codeAny_func ?_⟩;obtain⟨t,ht,hq⟩:=hbody A outer s H vs Q E (hr.deeper _) hsp;have I:Inv (cxOf CX P w K mg base N qual scope f Mg A outer s H E) [] (start N vs) H s1:=DU S hr.hd e0 hl r x;refine NF (ht [] s1 (start N vs) H _ I hq) (fun fl s' hs=>?_) fun e s' hs=>hs
 have fin:∀{σ':St} {H':Hp} {v:V} {u:Value},Inv (cxOf CX P w K mg base N qual scope f Mg A outer s H E) [] σ' H' s'->RelV v u->Q v H'->CE outer P w H s Q u s':=
  fun{σ' H' v u} J rv q=>⟨v,H',J.os,J.bare,J.base,J.hok,rv,q⟩
 cases fl with
 | ret u=>
  obtain⟨v,σ',H',J,rv,q⟩:=hs;exact fin J rv q
 | next=>
  obtain⟨σ',H',J,q⟩:=hs;exact fin (v:=V.non) (u:=Value.none) J rfl q
 | brk=>
  obtain⟨_,_,_,q⟩:=hs;exact False.elim q
 | cont=>
  obtain⟨_,_,_,q⟩:=hs;exact False.elim q
section
variable{X:Cx}{x:Str}{p pos:Pos}{e:Expr}{es:List Expr}{t:TA}{id T:String}{r:List V->Hp->VK->Prop}
def tCB(r:List V->Hp->VK->Prop)(t:TA):TE:=fun σ H Q=>t σ H fun vs H1=>r vs H1 Q
theorem au (hc:CallR X (.builtin id) r) (hg:Gl X x) (hm:X.mg x=none) (hv:bootBuiltins x=some (.builtin id)) (ha:PA X (e::es) t) (hn:x≠"__name__":=by decide) (hdb:(x==("__debug__":Str))=false:=by decide)
  (he:starEach (e::es) X.env=(false,eval e X.env)::starEach es X.env:=by rfl) (hpl:(backTo pos (starEach es X.env)).any (·.1)=false:=by rfl):PE X (.Call (.Name x p) (e::es) [] pos) (tCB r t):=by
 intro Md s σ H Q I h;refine NX (gS I hg hm hv ?_ hn hdb);exact OV (thn (ha pos Md s σ H _ I h) fun us s1 ⟨vs,H1,I1,r1,q1⟩=>hc Md s1 σ H1 vs us Q I1 r1 q1) he hpl
theorem aS (hc:CallR X (.type T) r) (hg:Gl X x) (hm:X.mg x=none) (hv:bootBuiltins x=some (.type T)) (ha:PA X (e::es) t) (hn:x≠"__name__":=by decide) (hdb:(x==("__debug__":Str))=false:=by decide)
  (he:starEach (e::es) X.env=(false,eval e X.env)::starEach es X.env:=by rfl) (hpl:(backTo pos (starEach es X.env)).any (·.1)=false:=by rfl):PE X (.Call (.Name x p) (e::es) [] pos) (tCB r t):=by
 intro Md s σ H Q I h;refine NX (gS I hg hm hv ?_ hn hdb);exact Nw (thn (ha pos Md s σ H _ I h) fun us s1 ⟨vs,H1,I1,r1,q1⟩=>hc Md s1 σ H1 vs us Q I1 r1 q1) he hpl
end
end L2
namespace HT
open PySem PyProof.Rows
section
open PySem.SeqAt
open PySem.AutoSeq1 (wpAny_loadPart')
open PySem.MeetsSeq PySem.MeetsSeq2 PySem.MeetsSeq3
end
section
variable{prog:Program}{w:World}{A:Around}{E:Value->Shared->Prop}{s:Shared}
def sIx(n d:Nat):Option Int->Nat
 | none=>d
 | some v=>if v<0 then(v+(n:Int)).toNat else min v.toNat n
theorem sIx_nat(n d k:Nat):sIx n d (some (k:Int))=min k n:=by
 show(if (k:Int)<0 then((k:Int)+(n:Int)).toNat else min (k:Int).toNat n)=min k n;rw[if_neg (by omega),Int.toNat_natCast]
theorem sIx_le(n d:Nat)(hd:d<=n)(o:Option Int):sIx n d o<=n:=by
 cases o with
 | none=>exact hd
 | some v=>
  show(if v<0 then(v+(n:Int)).toNat else min v.toNat n)<=n;by_cases hv:v<0
  . rw[if_pos hv];omega
  . rw[if_neg hv];exact Nat.min_le_right _ _
theorem clip_eq(v:Int)(n d:Nat):(if v<0 then max (v+(n:Int)) 0 else min v (n:Int))=((sIx n d (some v):Nat):Int):=by
 show(if v<0 then max (v+(n:Int)) 0 else min v (n:Int))=(((if v<0 then(v+(n:Int)).toNat else min v.toNat n):Nat):Int);by_cases hv:v<0
 . simp only[if_pos hv];omega
 . simp only[if_neg hv];omega
theorem adjust_gen(lo hi:Option Int)(n:Nat):Builtin.Slice.sliceAdjust lo hi 1 (n:Int)=(((sIx n 0 lo:Nat):Int),((sIx n n hi:Nat):Int)):=by
 have h1:¬ ((1:Int)<0):=by omega
 unfold Builtin.Slice.sliceAdjust;simp only[h1,if_false];refine Prod.ext ?_ ?_
 . cases lo with
   | none=>rfl
   | some v=>exact clip_eq v n 0
 . cases hi with
   | none=>rfl
   | some v=>exact clip_eq v n n
theorem places_gen(i j:Nat):Builtin.Slice.slicePlaces (i:Int) (j:Int) 1=j-i:=by
 unfold Builtin.Slice.slicePlaces;have h1:(1:Int)>0:=by omega
 simp only[h1,if_true,Int.ediv_one]
 split <;> omega
theorem slicePart_{v:Value}{o:Option Int}{Q:Option Int->Shared->Prop}(p:IsPart v o)(h:Q o s):wpAny (model prog w) A (Builtin.Slice.slicePartIndex v) Q E s:=by
 cases p with
 | none=>exact slicePart_none h
 | int i t=>exact slicePart_int h
theorem sliceApplied_gen {sl:Addr} {vl vu:Value} {lo hi:Option Int} {n:Nat} {Q:Int × Int × Nat->Shared->Prop} (hs:s.heap.IsSliceOf sl vl vu .none) (pl:IsPart vl lo) (pu:IsPart vu hi)
  (h:Q (((sIx n 0 lo:Nat):Int),1,sIx n n hi-sIx n 0 lo) s):wpAny (model prog w) A (Builtin.Slice.sliceApplied (.ref sl) (pure (n:Int))) Q E s:=by
 obtain⟨os,hos,hcs,hds⟩:=id hs;unfold Builtin.Slice.sliceApplied Builtin.Slice.sliceFields;refine wpAny_bind (wpAny_bind (wpAny_field hos hds (x:=vl) rfl (wpAny_bind (wpAny_field hos hds (x:=vu) rfl (wpAny_bind (wpAny_field hos hds (x:=.none) rfl (wpAny_pure ?_)))))));refine wpAny_bind (slicePart_none ?_);show wpAny _ _ (if ((1:Int)==0)=true then _ else _) _ _ s;rw[if_neg (by decide)];refine wpAny_bind (slicePart_ pl (wpAny_bind (slicePart_ pu (wpAny_bind (wpAny_pure ?_)))));show wpAny _ _ (match Builtin.Slice.sliceAdjust lo hi 1 (n:Int) with | (lo,hi)=>pure (lo,(1:Int),Builtin.Slice.slicePlaces lo hi 1)) _ _ s;rw[adjust_gen lo hi n];show wpAny _ _ (pure (((sIx n 0 lo:Nat):Int),(1:Int),Builtin.Slice.slicePlaces ((sIx n 0 lo:Nat):Int) ((sIx n n hi:Nat):Int) 1)) _ _ s;rw[places_gen];exact wpAny_pure h
theorem pick_gen(xs:Array Value)(i k:Nat):((List.range k).filterMap fun(m:Nat)=>xs[((i:Int)+(m:Int)*1).toNat]?).toArray=((xs.toList.drop i).take k).toArray:=by
 have e:(fun(m:Nat)=>xs[((i:Int)+(m:Int)*1).toNat]?)=fun m=>xs[i+m]? :=by
  funext m
  have:((i:Int)+(m:Int)*1).toNat=i+m:=by omega
  rw[this]
 rw[e];have:=pick_run xs i k;rw[List.filterMap_map] at this;have e2:((fun x=>xs[x]?) ∘ fun x=>i+x)=fun m=>xs[i+m]? :=rfl;rw[e2] at this;rw[this]
theorem getItem_tuple_cut {t sl:Addr} {items:Array Value} {vl vu:Value} {lo hi:Option Int} {Q:Value->Shared->Prop} (ht:IsTup s.heap t items) (hs:s.heap.IsSliceOf sl vl vu .none) (pl:IsPart vl lo) (pu:IsPart vu hi)
  (hw:¬ (sIx items.size 0 lo=0/\sIx items.size items.size hi=items.size))
  (h:Q (.ref s.heap.objs.size) {s with heap:=s.heap.push {cls:=.type "tuple",data:=.seq ((items.toList.drop (sIx items.size 0 lo)).take (sIx items.size items.size hi-sIx items.size 0 lo)).toArray}})
  (hsz:items.size<=sizeLine):wpAny (model prog w) A (getItem (.ref t) (.ref sl)) Q E s:=by
 have htake:sizeOk (.seq ((items.toList.drop (sIx items.size 0 lo)).take (sIx items.size items.size hi-sIx items.size 0 lo)).toArray):=by
  show((items.toList.drop (sIx items.size 0 lo)).take (sIx items.size items.size hi-sIx items.size 0 lo)).toArray.size<=sizeLine;rw[List.size_toArray,List.length_take,List.length_drop,Array.length_toList];omega
 have hj:sIx items.size items.size hi<=items.size:=sIx_le _ _ (Nat.le_refl _) hi;obtain⟨os,hos,hcs,hds⟩:=id hs;have hTs:s.TypeIs (.ref sl) "slice":=⟨os,hos,hcs⟩;unfold getItem
 try with_reducible refine wpAny_holding ?_
 first | refine wpAny_bind (wpAny_pure ?_) | skip
 refine wpAny_bind (wpAny_sequenceKey ht.typeIs (by decide) ?_)
 refine wpAny_bind (wpAny_callSpecial?_slot (name:=Str.ofString "__getitem__") ht.typeIs PyProof.Rows.slot_tuple_getitem
  (wpAny_call_entry PyProof.Rows.slot_tuple_getitem ht.typeIs entry_tuple_getitem ?_ (args_tuple_getitem _ _)))
 show wpAny _ _ (Builtin.Tuple.tupleItemsOf (.ref t) >>= _) _ _ s;refine wpAny_bind (tupleItemsOf_ ht ?_);refine wpAny_bind (wpAny_typeOf hTs ?_);rw[if_pos (by decide)];refine wpAny_bind (sliceApplied_gen hs pl pu ?_)
 have hno:¬ ((((sIx items.size 0 lo:Nat):Int)==0&&(1:Int)==1&&(sIx items.size items.size hi-sIx items.size 0 lo)==items.size)=true):=by
  intro q;rw[Bool.and_eq_true,Bool.and_eq_true] at q;have q1:((sIx items.size 0 lo:Nat):Int)=0:=eq_of_beq q.1.1;have q2:sIx items.size items.size hi-sIx items.size 0 lo=items.size:=eq_of_beq q.2;exact hw ⟨by omega,by omega⟩
 show wpAny _ _ (if (((sIx items.size 0 lo:Nat):Int)==0&&(1:Int)==1&&(sIx items.size items.size hi-sIx items.size 0 lo)==items.size)=true then _ else _) _ _ s;rw[if_neg hno,pick_gen]
 first
  | exact wpAny_bind (m:=Builtin.Tuple.tupleExact _) (wpAny_newObj_type (wpAny_pure ⟨_,rfl,wpAny_pure h⟩) htake)
  | exact wpAny_bind (m:=Builtin.Tuple.tupleExact _) (wpAny_newObj_type (wpAny_bind (wpAny_pure (wpAny_pure ⟨_,rfl,wpAny_pure h⟩))) htake)
  | exact wpAny_bind (wpAny_bind (m:=Builtin.Tuple.tupleExact _) (wpAny_newObj_type (wpAny_pure (wpAny_pure ⟨_,rfl,wpAny_pure h⟩)) htake))
  | exact wpAny_bind (wpAny_bind (m:=Builtin.Tuple.tupleExact _) (wpAny_newObj_type (wpAny_pure ⟨_,rfl,wpAny_pure h⟩) htake))
end
end HT
namespace L2
open PySem PySem.Spec PyProof.Rows
abbrev TO:=St->Hp->(Option Int->Hp->Prop)->Prop
def PO(X:Cx)(e:Option Expr)(t:TO):Prop:=
 ∀(Md:List (Addr × Obj)) (s:Shared) (σ:St) (H:Hp) (Q:Option Int->Hp->Prop),Inv X Md σ H s->t σ H Q->
  wpAny (model X.prog X.w) X.A (evalPart e X.env) (fun u s'=>∃ o H',Inv X Md σ H' s'/\IsPart u o/\Q o H') X.xe s
def l9:TO:=fun _ H Q=>Q none H
def tPart(t:TE):TO:=fun σ H Q=>t σ H fun x H1=>∃ i,x=.int i/\Q (some i) H1
theorem ve{ns:List Int}:∀{us:List Value},Vals (ns.map V.int) us->IntsAre us ns:=by
 induction ns with
 | nil=>intro us r;rw[List.map_nil] at r;cases r;exact .nil
 | cons n ns ih=>
  intro us r;rw[M4] at r
  cases r with
  | cons r1 r2=>
   obtain⟨t,e⟩:=r1;subst e;exact .cons n t (ih r2)
section
variable{X:Cx}{e:Expr}{te:TE}{lo hi:Option Expr}{tl th:TO}{pos p2:Pos}
theorem wW:PO X none l9:=by
 intro Md s σ H Q I h;rw[evalPart_none];exact No ⟨none,H,I,.none,h⟩
theorem gj(h:PE X e te):PO X (some e) (tPart te):=by
 intro Md s σ H Q I hw;rw[evalPart_some];refine thn (h Md s σ H _ I hw) fun u s1 ⟨x,H1,I1,r1,q1⟩=>?_;obtain⟨i,rfl,q⟩:=q1;obtain⟨t,rfl⟩:=r1;exact⟨some i,H1,I1,.int i t,q⟩
def SlR(X:Cx)(r:V->Option Int->Option Int->Hp->VK->Prop):Prop:=
 ∀(Md:List (Addr × Obj)) (s:Shared) (σ:St) (H:Hp) (x:V) (v vl vu:Value) (lo hi:Option Int) (sl:Addr) (Q:VK),Inv X Md σ H s->RelV x v->s.heap.IsSliceOf sl vl vu .none->IsPart vl lo->IsPart vu hi->r x lo hi H Q->
  ∃ T id,typeLookup (.type T) "__getitem__"=pure (some (.builtin id))/\s.TypeIs v T/\wpAny (model X.prog X.w) X.A (getItem v (.ref sl)) (EP X Md σ Q) X.xe s
def tSl(r:V->Option Int->Option Int->Hp->VK->Prop)(te:TE)(tl th:TO):TE:=fun σ H Q=>te σ H fun x H1=>tl σ H1 fun l H2=>th σ H2 fun u H3=>r x l u H3 Q
theorem j6{r:V->Option Int->Option Int->Hp->VK->Prop}(hr:SlR X r)(he:PE X e te)(hl:PO X lo tl)(hu:PO X hi th):PE X (.Subscript e (.Slice lo hi none p2) pos) (tSl r te tl th):=by
 intro Md s σ H Q I h;refine Subscript_ (thn (he Md s σ H _ I h) fun v s1 ⟨x,H1,I1,r1,q1⟩=>?_);refine wpAny_Slice (thn (hl Md s1 σ H1 _ I1 q1) fun vl s2 ⟨l,H2,I2,pl,q2⟩=>thn (hu Md s2 σ H2 _ I2 q2) fun vu s3 ⟨u,H3,I3,pu,q3⟩=>?_);rw[evalPart_none];refine No ?_;have I4:Inv X Md σ H3 {s3 with heap:=s3.heap.push {cls:=.type "slice",data:=.fields #[vl,vu,.none]}}:=I3.kept (t':=s3.toks) fun b ob q=>MV _ q;obtain⟨T,id,hT,ht,hg⟩:=hr Md {s3 with heap:=s3.heap.push {cls:=.type "slice",data:=.fields #[vl,vu,.none]}} σ H3 x v vl vu l u s3.heap.objs.size Q I4 r1 (Heap.IsSliceOf.new ..) pl pu q3;show wpAny (model X.prog X.w) X.A (subscriptTail e (.Slice lo hi none p2) v (.ref s3.heap.objs.size)) (EP X Md σ Q) X.xe {s3 with heap:=s3.heap.push {cls:=.type "slice",data:=.fields #[vl,vu,.none]}};exact tail_any (ops:=[.ref s3.heap.objs.size,v]) ht hT hg (by with_unfolding_all rfl)
def cutV(xs:List V)(lo hi:Option Int):List V:=(xs.drop (HT.sIx xs.length 0 lo)).take (HT.sIx xs.length xs.length hi-HT.sIx xs.length 0 lo)
theorem tR(xs:List V)(lo hi:Option Int):(cutV xs lo hi).length<=xs.length:=by
 unfold cutV;rw[NO,List.length_drop];omega
def rSlT(K:Frag):V->Option Int->Option Int->Hp->VK->Prop:=fun x lo hi H Q=>∃ a xs,x=.ref a/\SqT K H a xs/\
 ¬ (HT.sIx xs.length 0 lo=0/\HT.sIx xs.length xs.length hi=xs.length)/\∀ p,H p=none->Q (.ref p) (upd H p (.tup (cutV xs lo hi)))
theorem Hv:SlR X (rSlT X.K):=by
 intro Md s σ H x v vl vu lo hi sl Q I rx hs pl pu h;obtain⟨a,xs,rfl,hx,hw,q⟩:=h;cases rx;obtain⟨Mi,r,ht,hz⟩:=I.tuple hx;have Mn:Mi.toArray.size=xs.length:=by rw[MX];exact r.length.symm
 refine⟨"tuple",_,PyProof.Rows.slot_tuple_getitem.lookup,ht.typeIs,?_⟩;refine HT.getItem_tuple_cut ht hs pl pu (by rw[Mn];exact hw) ?_ (by rw[Mn];exact hz);rw[Mn];refine⟨.ref s.heap.objs.size,_,I.laid (t':=s.toks) (o:=.tup (cutV xs lo hi)) (fun b ob q=>MV _ q) (MW _) ?_,rfl,q _ (I.hok.fresh (MW _))⟩;exact⟨ML (tR xs lo hi) hz,_,(r.drop (HT.sIx xs.length 0 lo)).take (HT.sIx xs.length xs.length hi-HT.sIx xs.length 0 lo),IsTup.new _ _⟩
end
def ixN(n:Nat)(i:Int):Option Nat:=if 0<=i then(if i<n then some i.toNat else none) else if -(n:Int)<=i then some (i+n).toNat else none
def atI{α:Type}(xs:List α)(i:Int):Option α:=(ixN xs.length i).bind fun j=>xs[j]?
theorem Gr{n:Nat}{i:Int}{j:Nat}(h:ixN n i=some j):seqIndex? i n=some j/\j<n/\ -(n:Int)<=i/\i<n:=by
 unfold ixN at h;by_cases h0:0<=i
 . rw[MU h0] at h;by_cases h1:i<n
   . rw[MU h1] at h;have e:i.toNat=j:=N5 h;exact⟨by rw[seqIndex_of h0 h1,e],by omega,by omega,h1⟩
   . rw[MP h1] at h;cases h
 . rw[MP h0] at h;by_cases h1: -(n:Int)<=i
   . rw[MU h1] at h;have e:(i+n).toNat=j:=N5 h;exact⟨by rw[seqIndex_neg (by omega) h1,e],by omega,h1,by omega⟩
   . rw[MP h1] at h;cases h
theorem wX{α:Type}{xs:List α}{i:Int}{v:α}(h:atI xs i=some v):∃ j,seqIndex? i xs.length=some j/\xs[j]? =some v/\j<xs.length/\ -(xs.length:Int)<=i/\i<xs.length:=by
 unfold atI at h
 cases e:ixN xs.length i with
 | none=>rw[e] at h;cases h
 | some j=>
  rw[e] at h;obtain⟨h1,h2,h3,h4⟩:=Gr e;exact⟨j,h1,h,h2,h3,h4⟩
theorem dJ{α:Type}{xs:List α}{j:Nat}{v:α}(h:xs[j]? =some v):atI xs (j:Int)=some v:=by
 have hj:j<xs.length:=(My.mp h).1
 have e:ixN xs.length (j:Int)=some j:=by
  unfold ixN;rw[MU (by omega),MU (by omega)];simp
 unfold atI;rw[e];exact h
def wY(b:Expr):Prop:=∀ o i,subscripted b false o i=operate [o,i] (getItem o i)
def IxR(X:Cx)(r:R2):Prop:=
 ∀(value slice:Expr) (Md:List (Addr × Obj)) (s:Shared) (σ:St) (H:Hp) (x y:V) (v u:Value) (Q:VK),Inv X Md σ H s->RelV x v->RelV y u->r x y H Q->
  subscripted slice false v u=operate [v,u] (getItem v u)->wpAny (model X.prog X.w) X.A (subscriptTail value slice v u) (EP X Md σ Q) X.xe s
def MtR(X:Cx)(id:String)(r:V->List V->Hp->VK->Prop):Prop:=
 ∀(Md:List (Addr × Obj)) (s:Shared) (σ:St) (H:Hp) (x:V) (xs:List V) (v:Value) (us:List Value) (Q:VK),Inv X Md σ H s->RelV x v->Vals xs us->r x xs H Q->
  wpAny (model X.prog X.w) X.A (call (.builtin id) (v::us)) (EP X Md σ Q) X.xe s
section
variable{X:Cx}{a b:Expr}{ta tb:TE}{pos:Pos}
theorem zA{r:R2}(hr:IxR X r)(ha:PE X a ta)(hb:PE X b tb)(hs:wY b):PE X (.Subscript a b pos) (tOp r ta tb):=by
 intro Md s σ H Q I h;exact Subscript_ (binT ha hb I h fun v u s2 x y H2 I2 rx ry q=>hr a b Md s2 σ H2 x y v u Q I2 rx ry q (hs _ _))
def rIxL(K:Frag):R2:=fun x y H Q=>∃ p xs i v,x=.ref p/\y=.int i/\SqL K H p xs/\atI xs i=some v/\Q v H
def rIxT(K:Frag):R2:=fun x y H Q=>∃ p xs i v,x=.ref p/\y=.int i/\SqT K H p xs/\atI xs i=some v/\Q v H
def rIxS:R2:=fun x y H Q=>∃ z i c,x=.str z/\y=.int i/\z.length<=sizeLine/\atI z.cps.toList i=some c/\Q (.str ⟨#[c]⟩) H
theorem Ci:IxR X (rIxL X.K):=by
 intro value slice Md s σ H x y v u Q I rx ry h hs;obtain⟨p,xs,i,z,rfl,rfl,hq,he,q⟩:=h;cases rx;obtain⟨t,rfl⟩:=ry;obtain⟨Mi,r,pl,hz⟩:=I.list hq;obtain⟨j,h1,h2,h3,h4,h5⟩:=wX he;obtain⟨w,ew,rw'⟩:=r.get h2;have hl:=r.length;have hn:=qU;have fin:EP X Md σ Q w s:=⟨z,H,I,rw',q⟩;by_cases h0:0<=i
 . have hj:i.toNat=j:=by
    rw[seqIndex_of h0 h5] at h1;exact N5 h1
   exact item_listR pl.isList h0 (by omega) (by rw[hj];simpa using ew) fin hs
 . have hj:(i+(Mi.toArray.size:Int)).toNat=j:=by
    rw[seqIndex_neg (by omega) h4] at h1;rw[MX,← hl];exact N5 h1
   exact PU (x:=w) pl.isList.typeIs slot_list_getitem.lookup
    (wpAny_getItem_list_neg (Q:=fun r s'=>r=w/\EP X Md σ Q r s') pl.isList (by omega) (by rw[MX] <;> omega) (by omega) (by rw[hj];simpa using ew) ⟨rfl,fin⟩) hs
theorem Hw:IxR X (rIxT X.K):=by
 intro value slice Md s σ H x y v u Q I rx ry h hs;obtain⟨p,xs,i,z,rfl,rfl,hq,he,q⟩:=h;cases rx;obtain⟨t,rfl⟩:=ry;obtain⟨Mi,r,pl,hz⟩:=I.tuple hq;obtain⟨j,h1,h2,h3,h4,h5⟩:=wX he;obtain⟨w,ew,rw'⟩:=r.get h2;have hl:=r.length;have hn:=qU;have fin:EP X Md σ Q w s:=⟨z,H,I,rw',q⟩
 exact PU (x:=w) pl.typeIs slot_tuple_getitem.lookup
  (getItem_tuple (j:=j) (Q:=fun r s'=>r=w/\EP X Md σ Q r s') pl (by omega) (by omega) (by rw[MX,← hl];exact h1) (by simpa using ew) ⟨rfl,fin⟩) hs
theorem Hx:IxR X rIxS:=by
 intro value slice Md s σ H x y v u Q I rx ry h hs;obtain⟨z,i,c,rfl,rfl,hz,he,q⟩:=h;obtain⟨t,rfl⟩:=rx;obtain⟨t',rfl⟩:=ry;obtain⟨j,h1,h2,h3,h4,h5⟩:=wX he;have hl:z.cps.toList.length=z.length:=by simp[Str.length]
 rw[hl] at h1 h4 h5;have hn:=qU
 exact tail_any (OW s z t) slot_str_getitem.lookup (getItem_str (c:=c) (by
  have e1:decide (i < -(2^63:Int))=false:=Mu (by omega);have e2:decide (i ≥ 2^63)=false:=Mu (by omega);rw[e1,e2,Bool.or_false]) (by rw[h1];simpa using h2) ⟨.str ⟨#[c]⟩,H,I.tok _,⟨_,rfl⟩,q⟩) hs
theorem Inv.lst{Md:List (Addr × Obj)}{σ:St}{H:Hp}{s:Shared}{p:Addr}{xs:List V}(I:Inv X Md σ H s)(h:H p=some (.lst xs)):
  ∃(Mi:List Value) (n:Nat),Vals xs Mi/\s.heap.get? p=some {cls:=.type "list",data:=.seq Mi.toArray n}/\xs.length<=sizeLine:=by
 obtain⟨z,Mi,n,r,e⟩:=I.hok p _ h;exact⟨Mi,n,r,e,z⟩
theorem zQ(lo hi:Option Int)(n:Nat):(sliceBounds lo hi none n).1=((HT.sIx n 0 lo:Nat):Int)/\(sliceBounds lo hi none n).2.1=((HT.sIx n n hi:Nat):Int)/\(sliceBounds lo hi none n).2.2=1:=by
 refine⟨?_,?_,rfl⟩
 . cases lo with
   | none=>simp[sliceBounds,HT.sIx]
   | some i=>
    simp only[sliceBounds,HT.sIx,Option.getD_none,show(1:Int)>0 by decide,Qh];by_cases h:i<0
    . simp only[h,Qh] <;> omega
    . simp only[h,if_false] <;> omega
 . cases hi with
   | none=>simp[sliceBounds,HT.sIx]
   | some i=>
    simp only[sliceBounds,HT.sIx,Option.getD_none,show(1:Int)>0 by decide,Qh];by_cases h:i<0
    . simp only[h,Qh] <;> omega
    . simp only[h,if_false] <;> omega
theorem yR(Mi:List Value)(lo hi:Option Int):slicePick Mi.toArray lo hi none=((Mi.drop (HT.sIx Mi.length 0 lo)).take (HT.sIx Mi.length Mi.length hi-HT.sIx Mi.length 0 lo)).toArray:=by
 obtain⟨h1,h2,h3⟩:=zQ lo hi Mi.toArray.size;unfold slicePick;rw[h1,h2,h3];simp only[sliceRange_one,pick_run,MX] <;> rfl
def rSlL(K:Frag):V->Option Int->Option Int->Hp->VK->Prop:=fun x lo hi H Q=>∃ a xs,x=.ref a/\SqL K H a xs/\∀ p,H p=none->Q (.ref p) (upd H p (.lst (cutV xs lo hi)))
theorem Gs:SlR X (rSlL X.K):=by
 intro Md s σ H x v vl vu lo hi sl Q I rx hs pl pu h;obtain⟨a,xs,rfl,hx,q⟩:=h;cases rx;obtain⟨Mi,r,ht,hz⟩:=I.list hx;have Mn:=r.length;refine⟨"list",_,slot_list_getitem.lookup,ht.isList.typeIs,?_⟩;refine wpAny_getItem_list_slice ht.isList hs pl pu .none (by simp) ?_ (by rw[MX] <;> omega);rw[yR,← Mn];refine⟨.ref s.heap.objs.size,_,I.laid (t':=s.toks) (o:=.lst (cutV xs lo hi)) (fun b ob q=>MV _ q) (MW _) ?_,rfl,q _ (I.hok.fresh (MW _))⟩;exact⟨ML (tR xs lo hi) hz,_,0,(r.drop (HT.sIx xs.length 0 lo)).take (HT.sIx xs.length xs.length hi-HT.sIx xs.length 0 lo),Nf _ rfl⟩
def flatV:V->Bool
 | .non=>true
 | .bl _=>true
 | .int _=>true
 | .str _=>true
 | _=>false
def eqV:V->V->Bool
 | .non,.non=>true
 | .bl a,.bl b=>a==b
 | .bl a,.int b=>(if a then 1 else 0)==b
 | .int a,.bl b=>a==(if b then 1 else 0)
 | .int a,.int b=>a==b
 | .str a,.str b=>a==b
 | _,_=>false
theorem Hy{A:Around}{s:Shared}{y x:V}{u v:Value}(ry:RelV y u)(rx:RelV x v)(fy:flatV y=true)(fx:flatV x=true):SeqAt.EqAt A s u v (eqV y x):=by
 cases y with
 | non=>
  cases ry
  cases x with
  | non=>cases rx;exact SeqAt.EqAt.same _
  | bl b=>cases rx;exact SeqAt.EqAt.none_bool b
  | int b=>obtain⟨t,rfl⟩:=rx;exact SeqAt.EqAt.none_int b t
  | str b=>obtain⟨t,rfl⟩:=rx;exact SeqAt.EqAt.none_str b t
  | _=>exact absurd (show false=true from fx) ME
 | bl a=>
  cases ry
  cases x with
  | non=>cases rx;exact SeqAt.EqAt.bool_none a
  | bl b=>cases rx;exact SeqAt.EqAt.bool_bool a b
  | int b=>obtain⟨t,rfl⟩:=rx;exact SeqAt.EqAt.bool_int a b t
  | str b=>obtain⟨t,rfl⟩:=rx;exact SeqAt.EqAt.bool_str a b t
  | _=>exact absurd (show false=true from fx) ME
 | int a=>
  obtain⟨t',rfl⟩:=ry
  cases x with
  | non=>cases rx;exact SeqAt.EqAt.int_none a t'
  | bl b=>cases rx;exact SeqAt.EqAt.int_bool a t' b
  | int b=>obtain⟨t,rfl⟩:=rx;exact SeqAt.EqAt.int_int a t' b t
  | str b=>obtain⟨t,rfl⟩:=rx;exact SeqAt.EqAt.int_str a t' b t
  | _=>exact absurd (show false=true from fx) ME
 | str a=>
  obtain⟨t',rfl⟩:=ry
  cases x with
  | non=>cases rx;exact SeqAt.EqAt.str_none a t'
  | bl b=>cases rx;exact SeqAt.EqAt.str_bool a t' b
  | int b=>obtain⟨t,rfl⟩:=rx;exact SeqAt.EqAt.str_int a t' b t
  | str b=>obtain⟨t,rfl⟩:=rx;exact SeqAt.EqAt.str_str a t' b t
  | _=>exact absurd (show false=true from fx) ME
 | _=>exact absurd (show false=true from fy) ME
def eqU(x:V)(u:Value):Bool:=match u with
 | .none=>eqV .non x
 | .bool b=>eqV (.bl b) x
 | .int i _=>eqV (.int i) x
 | .str z _=>eqV (.str z) x
 | _=>false
theorem DW{x y:V}{u:Value}(r:RelV y u)(f:flatV y=true):eqU x u=eqV y x:=by
 cases y with
 | non=>cases r;rfl
 | bl b=>cases r;rfl
 | int i=>obtain⟨t,rfl⟩:=r;rfl
 | str z=>obtain⟨t,rfl⟩:=r;rfl
 | _=>exact absurd (show false=true from f) ME
theorem oS{x:V}:∀{xs:List V} {us:List Value},Vals xs us->xs.all flatV=true->us.any (eqU x)=xs.any fun y=>eqV y x
 | _,_,.nil,_=>rfl
 | y::xs,u::us,.cons r t,f=>by
  rw[O0,MH] at f;rw[Ov,Ov,DW r f.1,oS t f.2]
theorem md{A:Around}{s:Shared}{x:V}{v:Value}(rx:RelV x v)(fx:flatV x=true):∀{xs:List V} {us:List Value},Vals xs us->xs.all flatV=true->∀ u∈us,SeqAt.EqAt A s u v (eqU x u)
 | _,_,.nil,_=>fun u hu=>by cases hu
 | y::xs,u::us,.cons r t,f=>fun u' hu=>by
  rw[O0,MH] at f;rcases MS.mp hu with rfl | hu
  . rw[DW r f.1];exact Hy r rx f.1 fx
  . exact md rx fx t f.2 u' hu
def inV(x:V)(xs:List V):Bool:=xs.any fun y=>eqV y x
def rIn(K:Frag)(neg:Bool):R2:=fun x y H Q=>∃ p xs,y=.ref p/\(SqL K H p xs\/SqT K H p xs)/\flatV x=true/\xs.all flatV=true/\Q (.bl (if neg then !inV x xs else inV x xs)) H
theorem ng:OpR X (compareOp .In) (rIn X.K false):=by
 intro Md s σ H x y v u Q I rx ry h;obtain⟨p,xs,rfl,hq,fx,fs,q⟩:=h;cases ry;rcases hq with hq | hq
 . obtain⟨Mi,r,pl,hz⟩:=I.list hq;refine SeqAt.in_listAt (eqU x) pl.isList (fun w hw=>md rx fx r fs w (by simpa using hw)) ⟨.bl _,H,I,rfl,?_⟩;rw[show Mi.toArray.any (eqU x)=Mi.any (eqU x) by simp,oS r fs];exact q
 . obtain⟨Mi,r,pl,hz⟩:=I.tuple hq;refine SeqAt.in_tupleAt (eqU x) pl (fun w hw=>md rx fx r fs w (by simpa using hw)) ⟨.bl _,H,I,rfl,?_⟩;rw[show Mi.toArray.any (eqU x)=Mi.any (eqU x) by simp,oS r fs];exact q
theorem qX:OpR X (compareOp .NotIn) (rIn X.K true):=by
 intro Md s σ H x y v u Q I rx ry h;obtain⟨p,xs,rfl,hq,fx,fs,q⟩:=h;cases ry;rcases hq with hq | hq
 . obtain⟨Mi,r,pl,hz⟩:=I.list hq;refine SeqAt.notIn_listAt (eqU x) pl.isList (fun w hw=>md rx fx r fs w (by simpa using hw)) ⟨.bl _,H,I,rfl,?_⟩;rw[show Mi.toArray.any (eqU x)=Mi.any (eqU x) by simp,oS r fs];exact q
 . obtain⟨Mi,r,pl,hz⟩:=I.tuple hq;refine SeqAt.notIn_tupleAt (eqU x) pl (fun w hw=>md rx fx r fs w (by simpa using hw)) ⟨.bl _,H,I,rfl,?_⟩;rw[show Mi.toArray.any (eqU x)=Mi.any (eqU x) by simp,oS r fs];exact q
theorem zR:OpR X (compareOp .NotIn) (fun x y H Q=>∃ i j,x=.str i/\y=.str j/\Q (.bl (!(!(Builtin.Str.occurrences j i 0 j.length 1).isEmpty))) H):=by
 intro Md s σ H x y v u Q I rx ry h;obtain⟨i,j,rfl,rfl,q⟩:=h;obtain⟨t,rfl⟩:=rx;obtain⟨t',rfl⟩:=ry;exact notIn_str ⟨.bl _,H,I,rfl,q⟩
theorem iX:CallR X (.builtin "len") (fun xs H Q=>∃ p ys,xs=[.ref p]/\(SqL X.K H p ys\/SqT X.K H p ys)/\Q (.int ys.length) H):=by
 intro Md s σ H xs us Q I r h;obtain⟨p,ys,rfl,hq,q⟩:=h;obtain⟨u,rfl,rx⟩:=cX r;cases rx;have hn:=qU;rcases hq with hq | hq
 . obtain⟨Mi,r',pl,hz⟩:=I.list hq;have Mn:=r'.length;exact Calls.call_len_list pl.isList (by simp only[MX] <;> omega) ⟨.int ys.length,H,I.tok _,⟨s.toks+1,by rw[MX,Mn]⟩,q⟩
 . obtain⟨Mi,r',pl,hz⟩:=I.tuple hq;have Mn:=r'.length;exact len_tuple pl (by simp only[MX] <;> omega) ⟨.int ys.length,H,I.tok _,⟨s.toks+1,by rw[MX,Mn]⟩,q⟩
theorem zS:CallR X (.builtin "len") (fun xs H Q=>∃ z,xs=[.str z]/\z.length<=sizeLine/\Q (.int z.length) H):=by
 intro Md s σ H xs us Q I r h;obtain⟨z,rfl,hz,q⟩:=h;obtain⟨u,rfl,t,rfl⟩:=cX r;have hn:=qU;exact len_str (by omega) ⟨.int z.length,H,I.tok _,⟨_,rfl⟩,q⟩
theorem qY:CallR X (.type "list") (fun xs H Q=>∃ p ys,xs=[.ref p]/\(SqL X.K H p ys\/SqT X.K H p ys)/\∀ l,H l=none->Q (.ref l) (upd H l (.lst ys))):=by
 intro Md s σ H xs us Q I r h;obtain⟨p,ys,rfl,hq,q⟩:=h;obtain⟨u,rfl,rx⟩:=cX r;cases rx
 have fin:∀(Mi:List Value),Vals ys Mi->ys.length<=sizeLine->∀(h':Heap) (c':Nat),(∀ b o',s.heap.get? b=some o'->h'.get? b=some o')->
   h'.get? s.heap.objs.size=some {cls:=.type "list",dict:=none,data:=.seq Mi.toArray c',slots:=#[]}->EP X Md σ Q (.ref s.heap.objs.size) {s with heap:=h'}:=fun Mi r' hz h' c' kp e=>
  ⟨.ref s.heap.objs.size,_,I.laid (t':=s.toks) kp (MW _) (show ObjOk X.prog X.w _ h' _ (.lst ys) from⟨hz,Mi,c',r',e⟩),rfl,q _ (I.hok.fresh (MW _))⟩
 rcases hq with hq | hq
 . obtain⟨Mi,r',pl,hz⟩:=I.list hq;have Mn:=r'.length;obtain⟨o,ho,hc,n,hd⟩:=pl.isList;exact call_list_seq p (.inl rfl) ho hc hd (fun h' c' kp e=>fin Mi r' hz h' c' kp e) (by simp only[MX] <;> omega)
 . obtain⟨Mi,r',pl,hz⟩:=I.tuple hq;have Mn:=r'.length;obtain⟨o,ho,hc,n,hd⟩:=pl;exact call_list_seq p (.inr rfl) ho hc hd (fun h' c' kp e=>fin Mi r' hz h' c' kp e) (by simp only[MX] <;> omega)
theorem yS:CallR X (.type "tuple") (fun xs H Q=>∃ p ys,xs=[.ref p]/\((SqL X.K H p ys/\∀ l,H l=none->Q (.ref l) (upd H l (.tup ys)))\/(SqT X.K H p ys/\Q (.ref p) H))):=by
 intro Md s σ H xs us Q I r h;obtain⟨p,ys,rfl,h⟩:=h;obtain⟨u,rfl,rx⟩:=cX r;cases rx;rcases h with ⟨hq,q⟩ | ⟨hq,q⟩
 . obtain⟨Mi,r',pl,hz⟩:=I.list hq;have Mn:=r'.length;refine call_tuple_list pl.isList (fun h' kp=>?_) (by simp only[MX] <;> omega);have I1:Inv X Md σ H {s with heap:=h'}:=I.kept (t':=s.toks) kp
   have I2:Inv X Md σ (upd H h'.objs.size (.tup ys)) {s with heap:=h'.push {cls:=.type "tuple",data:=.seq Mi.toArray}}:=
    I1.laid (t':=s.toks) (fun b o e=>MV _ e) (MW _) (show ObjOk X.prog X.w _ _ _ (.tup ys) from⟨hz,Mi,r',IsTup.new _ _⟩)
   exact⟨.ref h'.objs.size,_,I2,rfl,q _ (I1.hok.fresh (MW _))⟩
 . obtain⟨Mi,r',pl,hz⟩:=I.tuple hq;exact call_tuple_same pl ⟨.ref p,H,I,rfl,q⟩
def tyV(K:Frag)(T:String)(x:V)(H:Hp):Prop:=match x with
 | .str _=>T="str"
 | .int _=>T="int"
 | .ref p=>(T="list"/\∃ xs,SqL K H p xs)\/(T="tuple"/\∃ o,K.lookup p=some o/\o.cls=.type "tuple"/\o.dict=none)\/
   (T="dict"/\((∃ Mh,H p=some (.dK Mh))\/∃ Mh,H p=some (.dT Mh)))\/(T="set"/\∃ S n,H p=some (.set S n))
 | _=>False
theorem DX{Md:List (Addr × Obj)}{σ:St}{H:Hp}{s:Shared}{T:String}{x:V}{v:Value}(I:Inv X Md σ H s)(r:RelV x v)(ty:tyV X.K T x H):
  s.TypeIs v T/\∀ a,v=.ref a->∃ ob,s.heap.get? a=some ob/\ob.dict=none:=by
 cases x with
 | str z=>
  obtain⟨t,rfl⟩:=r;cases (show T="str" from ty);exact⟨OW s z t,fun _ e=>nomatch e⟩
 | int i=>
  obtain⟨t,rfl⟩:=r;cases (show T="int" from ty);exact⟨typeIs_int s i t,fun _ e=>nomatch e⟩
 | ref p=>
  cases r;rcases ty with ⟨rfl,xs,hq⟩ | ⟨rfl,o,hk,hc,hd⟩ | ⟨rfl,hk⟩ | ⟨rfl,S,n,hk⟩
  . obtain⟨Mi,_,pl,_⟩:=I.list hq;refine⟨pl.isList.typeIs,fun a e=>?_⟩;cases e;obtain⟨o,n,e,c,hd,_⟩:=pl;exact⟨o,e,hd⟩
  . refine⟨⟨o,I.kIn p o hk,hc⟩,fun a e=>?_⟩;cases e;exact⟨o,I.kIn _ o hk,hd⟩
  . have z:∃ o,s.heap.get? p=some o/\o.ExactDict:=by
     rcases hk with ⟨Mh,hk⟩ | ⟨Mh,hk⟩
     . obtain⟨_,_,_,_,o,_,_,e,ex,_⟩:=I.hok p _ hk;exact⟨o,e,ex⟩
     . obtain⟨_,_,_,_,o,_,_,e,ex,_⟩:=I.hok p _ hk;exact⟨o,e,ex⟩
    obtain⟨o,e,ex⟩:=z;refine⟨⟨o,e,ex.1⟩,fun a e2=>?_⟩;cases e2;exact⟨o,e,ex.2.1⟩
  . obtain⟨o,_,_,_,e,ex,_⟩:=I.hok p _ hk;refine⟨⟨o,e,ex.1⟩,fun a e2=>?_⟩;cases e2;exact⟨o,e,ex.2.1⟩
 | _=>exact False.elim ty
def CW(K:Frag)(T:String)(r:V->List V->Hp->VK->Prop)(to:TE):TE:=fun σ H Q=>to σ H fun x H1=>tyV K T x H1/\r x [] H1 Q
def tBM(K:Frag)(T:String)(r:V->List V->Hp->VK->Prop)(to:TE)(t:TA):TE:=fun σ H Q=>to σ H fun x H1=>tyV K T x H1/\t σ H1 fun xs H2=>r x xs H2 Q
variable{o e:Expr}{es:List Expr}{to:TE}{t:TA}{name:Str}{apos cpos:Pos}{T id:String}{r:V->List V->Hp->VK->Prop}
theorem DY (pa:PlainAttrs T) (slot:Slot T name id) (hty:typeOf (.builtin id)=pure (.type "method_descriptor")) (hm:MtR X id r) (ho:PE X o to)
  (hbase:attributeBase o name X.env (eval o X.env)=eval o X.env:=by rfl) (hline:(apos.endLine==cpos.line)=true:=by rfl):PE X (.Call (.Attribute o name apos) [] [] cpos) (CW X.K T r to):=by
 intro Md s σ H Q I h;refine wpAny_Call_method0_late hbase hline (thn (ho Md s σ H _ I h) fun v s1 ⟨x,H1,I1,r1,ty,q1⟩=>?_);obtain⟨h1,h2⟩:=DX I1 r1 ty;exact⟨T,id,pa,slot,hty,h1,h2,PV rfl (PySem.evalArgs_none (hm Md s1 σ H1 x [] v [] Q I1 r1 .nil q1))⟩
theorem bF (pa:PlainAttrs T) (slot:Slot T name id) (hty:typeOf (.builtin id)=pure (.type "method_descriptor")) (hm:MtR X id r) (ho:PE X o to) (ha:PA X (e::es) t)
  (hbase:attributeBase o name X.env (eval o X.env)=eval o X.env:=by rfl)
  (hfew:((backTo cpos (starEach (e::es) X.env)).all (fun x=>!x.1)&&(backToKw cpos (keywordEach [] X.env)).all (fun x=>x.1.isSome)
   &&decide ((e::es).length+([]:List Keyword).length+(if ([]:List Keyword).isEmpty then 0 else 1)<30))=true:=by rfl)
  (hline:(apos.endLine==cpos.line)=true:=by rfl) (hs:starEach (e::es) X.env=(false,eval e X.env)::starEach es X.env:=by rfl) (hplain:(backTo cpos (starEach es X.env)).any (·.1)=false:=by rfl):
  PE X (.Call (.Attribute o name apos) (e::es) [] cpos) (tBM X.K T r to t):=by
 intro Md s σ H Q I h;refine wpAny_Call_method_late hbase hfew hline rfl (thn (ho Md s σ H _ I h) fun v s1 ⟨x,H1,I1,r1,ty,q1⟩=>?_);obtain⟨h1,h2⟩:=DX I1 r1 ty;refine⟨T,id,pa,slot,hty,h1,h2,?_⟩;have hA:=ha cpos Md s1 σ H1 _ I1 q1;rw[hs] at hA ⊢;refine PV (by show(false||(backTo cpos (starEach es X.env)).any (·.1))=false;rw[hplain] <;> rfl) (Calls.evalArgs_plain ?_);exact thn hA fun us s2 ⟨vs,H2,I2,r2,q2⟩=>hm Md s2 σ H2 x vs v us Q I2 r1 r2 q2
end
def MtM(X:Cx)(id:String)(r:V->List V->Hp->VK->Prop):Prop:=
 ∀(Md:List (Addr × Obj)) (s:Shared) (σ:St) (H:Hp) (x:V) (xs:List V) (v:Value) (us:List Value) (Q:VK),Inv X Md σ H s->RelV x v->Vals xs us->r x xs H Q->
  wpAny (model X.prog X.w) X.A (call (.builtin id) (v::us)) (EP X Md σ Q) X.xe s
theorem Vals.one:∀{x:V} {us:List Value},Vals [x] us->∃ u,us=[u]/\RelV x u
 | _,_,.cons r .nil=>⟨_,rfl,r⟩
theorem Vals.eraseIdx:∀{xs:List V} {us:List Value} (i:Nat),Vals xs us->Vals (xs.eraseIdx i) (us.eraseIdx i)
 | _,_,_,.nil=>.nil
 | _,_,0,.cons _ t=>t
 | _,_,i+1,.cons r t=>.cons r (Vals.eraseIdx i t)
theorem Vals.rep{xs:List V}{us:List Value}(h:Vals xs us):∀ k:Nat,Vals (List.replicate k xs).flatten (List.replicate k us).flatten
 | 0=>.nil
 | k+1=>by
  rw[N7,N7,Ox,Ox];exact Vals.append h (Vals.rep h k)
theorem yf{α:Type}:∀(l:List α) (i:Nat),(l.eraseIdx i).length<=l.length
 | [],_=>MW _
 | _::_,0=>O4 _
 | _::r,i+1=>Nat.succ_le_succ (yf r i)
theorem yg(Mi:List Value):∀(k:Nat) (acc:List Value),
  List.foldl (fun x1 x2=>x1++x2) acc.toArray (List.replicate k Mi.toArray)=(acc++(List.replicate k Mi).flatten).toArray
 | 0,acc=>by simp
 | k+1,acc=>by
  have e:acc.toArray++Mi.toArray=(acc++Mi).toArray:=by simp
  have e2:(acc++Mi)++(List.replicate k Mi).flatten=acc++(List.replicate (k+1) Mi).flatten:=by
   rw[N7,Ox,NL]
  rw[← e2,← yg Mi k (acc++Mi),← e,N7,NJ]
section
variable{X:Cx}{Md:List (Addr × Obj)}{σ:St}{H:Hp}{s:Shared}{l b:Addr}{xs ys zs:List V}
theorem Inv.lset {Mi its':List Value} {n:Nat} {f:Array Value->Array Value} {t':Nat} (I:Inv X Md σ H s) (hH:H l=some (.lst xs))
  (e:s.heap.get? l=some {cls:=.type "list",data:=.seq Mi.toArray n}) (hf:f Mi.toArray=its'.toArray) (hv:Vals ys its') (hz:ys.length<=sizeLine):
  Inv X Md σ (upd H l (.lst ys)) {s with heap:=s.heap.update l (Obj.mapSeq f),toks:=t'}:=by
 have q:=PySem.IsL.update e f;rw[hf] at q;refine I.write (x:=l) (e:=l) (by rw[hH];exact trivial) (.inl rfl) (fun b' u hb hu=>(Heap.get?_update_other s.heap (Obj.mapSeq f) (Pg hb)).trans hu) ⟨_,q⟩ ?_;exact⟨hz,its',_,hv,q⟩
theorem Inv.lnew{Mi:List Value}{t':Nat}(I:Inv X Md σ H s)(hv:Vals ys Mi)(hz:ys.length<=sizeLine):
  Inv X Md σ (upd H s.heap.objs.size (.lst ys)) {s with heap:=s.heap.push {cls:=.type "list",data:=.seq Mi.toArray},toks:=t'}:=
 I.laid (fun _ _ q=>MV _ q) (MW _) ⟨hz,Mi,0,hv,Nf _ rfl⟩
theorem Inv.fresh(I:Inv X Md σ H s):H s.heap.objs.size=none:=I.hok.fresh (MW _)
theorem Inv.lstM(I:Inv X Md σ H s)(hH:H l=some (.lst xs)):xs.length<=sizeLine/\∃(Mi:List Value) (n:Nat),Vals xs Mi/\xs.length=Mi.length/\s.heap.get? l=some {cls:=.type "list",data:=.seq Mi.toArray n}:=by
 obtain⟨z,Mi,n,r,e⟩:=I.hok l _ hH;exact⟨z,Mi,n,r,r.length,e⟩
theorem zT{n:Nat}(h:n<=sizeLine):Builtin.List.listTooLong n=false:=by
 unfold Builtin.List.listTooLong;exact Mu (by omega)
end
section
variable{X:Cx}
def Gu:V->List V->Hp->VK->Prop:=fun x vs H Q=>∃ l xs y,x=.ref l/\vs=[y]/\H l=some (.lst xs)/\xs.length<sizeLine/\Q .non (upd H l (.lst (xs++[y])))
theorem yh:MtM X "list.append" Gu:=by
 intro Md s σ H x vs v us Q I rx rv h;obtain⟨l,xs,y,rfl,rfl,hH,hz,q⟩:=h;cases rx;obtain⟨u,rfl,ru⟩:=rv.one;obtain⟨z,Mi,n,r,hl,e⟩:=I.lstM hH;refine Oo F.slot_list_append ⟨_,e,rfl⟩ F.entry_list_append (F.args_list_append_2 _ _) (PySem.list_append l Mi.toArray n u (by rw[MX];omega)) ⟨e,?_⟩;refine⟨.non,_,I.lset (its':=Mi++[u]) hH e (by simp) (r.append (.cons ru .nil)) ?_,rfl,q⟩;rw[M6,P4];omega
def Gv:V->List V->Hp->VK->Prop:=fun x vs H Q=>∃ l b xs zs,x=.ref l/\vs=[.ref b]/\H l=some (.lst xs)/\H b=some (.lst zs)/\xs.length+zs.length<=sizeLine/\Q .non (upd H l (.lst (xs++zs)))
theorem DZ:MtM X "list.extend" Gv:=by
 intro Md s σ H x vs v us Q I rx rv h;obtain⟨l,b,xs,zs,rfl,rfl,hH,hB,hz,q⟩:=h;cases rx;obtain⟨u,rfl,ru⟩:=rv.one;cases ru;obtain⟨z,Mi,n,r,hl,e⟩:=I.lstM hH;obtain⟨z2,its2,n2,r2,hl2,e2⟩:=I.lstM hB;have hsz:Mi.toArray.size+its2.toArray.size<=sizeLine:=by rw[MX,MX];omega
 have hlong:¬ (!Mi.toArray.isEmpty&&Builtin.List.listTooLong (Mi.toArray.size+its2.toArray.size))=true:=by
  rw[zT hsz,Bool.and_false];exact ME
 refine Oo F.slot_list_extend ⟨_,e,rfl⟩ F.entry_list_extend (F.args_list_extend_2 _ _)
  (AutoSeq1.list_extend_list_list_0 l Mi.toArray n b its2.toArray n2 hlong (by rw[MX];omega) (by omega)) ⟨e,e2,?_⟩
 refine⟨.non,_,I.lset (its':=Mi++its2) hH e (by simp) (r.append r2) ?_,rfl,q⟩;rw[M6];omega
def Hz:V->List V->Hp->VK->Prop:=fun x vs H Q=>∃ l xs i k y,x=.ref l/\vs=[.int i]/\H l=some (.lst xs)/\ -(2^63)<=i/\i<2^63/\seqIndex? i xs.length=some k/\xs[k]? =some y/\Q y (upd H l (.lst (xs.eraseIdx k)))
theorem Fw:MtM X "list.pop" Hz:=by
 intro Md s σ H x vs v us Q I rx rv h;obtain⟨l,xs,i,k,y,rfl,rfl,hH,h1,h2,hk,hy,q⟩:=h;cases rx;obtain⟨u,rfl,ru⟩:=rv.one;obtain⟨t,rfl⟩:=ru;obtain⟨z,Mi,n,r,hl,e⟩:=I.lstM hH;obtain⟨w,hw,rw'⟩:=r.get hy
 refine Oo F.slot_list_pop ⟨_,e,rfl⟩ F.entry_list_pop (F.args_list_pop_2 _ _)
  (MeetsSeq.list_pop_at l Mi.toArray n i t k w (fitsIndex_both h1 h2) (by rw[MX,← hl];exact hk) (by rw[← P5];exact hw) (by rw[MX];omega)) ⟨e,?_⟩
 refine⟨y,_,I.lset (its':=Mi.eraseIdx k) hH e ?_ (r.eraseIdx k) ?_,rw',q⟩
 . show Mi.toArray.eraseIdxIfInBounds k=(Mi.eraseIdx k).toArray;rw[List.eraseIdxIfInBounds_toArray]
 . have:=yf xs k;omega
def rCat:R2:=fun x y H Q=>∃ l b xs zs,x=.ref l/\y=.ref b/\H l=some (.lst xs)/\H b=some (.lst zs)/\xs.length+zs.length<=sizeLine/\∀ p,H p=none->Q (.ref p) (upd H p (.lst (xs++zs)))
theorem HA:OpR X (binaryOp .Add) rCat:=by
 intro Md s σ H x y v u Q I rx ry h;obtain⟨l,b,xs,zs,rfl,rfl,hH,hB,hz,q⟩:=h;cases rx;cases ry;obtain⟨z,Mi,n,r,hl,e⟩:=I.lstM hH;obtain⟨z2,its2,n2,r2,hl2,e2⟩:=I.lstM hB;refine PySem.P.add_list e e2 ?_ (by rw[MX,MX];omega);have ea:Mi.toArray++its2.toArray=(Mi++its2).toArray:=by simp
 rw[ea];exact⟨.ref _,_,I.lnew (t':=s.toks) (r.append r2) (by rw[M6];omega),rfl,q _ I.fresh⟩
def rRep:R2:=fun x y H Q=>∃ l k xs,x=.ref l/\y=.int k/\H l=some (.lst xs)/\ -(2^63)<=k/\k<2^63/\xs.length*k.toNat<=sizeLine/\
 ∀ p,H p=none->Q (.ref p) (upd H p (.lst (List.replicate k.toNat xs).flatten))
theorem Gw{α:Type}(xs:List α)(k:Nat):(List.replicate k xs).flatten.length=k*xs.length:=by
 induction k with
 | zero=>simp
 | succ k ih=>rw[N7,Ox,M6,ih,Qi,Nat.add_comm]
theorem HB:OpR X (binaryOp .Mult) rRep:=by
 intro Md s σ H x y v u Q I rx ry h;obtain⟨l,k,xs,rfl,rfl,hH,h1,h2,hz,q⟩:=h;cases rx;obtain⟨t,rfl⟩:=ry;obtain⟨z,Mi,n,r,hl,e⟩:=I.lstM hH;have Mn:Mi.toArray.size*k.toNat<=sizeLine:=by rw[MX,← hl];exact hz
 have hcap:¬ Mi.toArray.size*k.toNat > (2^63-1)/8:=by
  have:(sizeLine:Nat)<=(2^63-1)/8:=by decide
  omega
 have hfit:¬ (!Builtin.List.listFitsIndex k)=true:=by
  rw[fitsIndex_both h1 h2];exact ME
 have hlong:¬ Builtin.List.listTooLong (Mi.toArray.size*k.toNat)=true:=by
  rw[zT Mn];exact ME
 have hnew:List.foldl (fun x1 x2=>x1++x2) #[] (List.replicate (if Mi.toArray.isEmpty=true then 0 else k.toNat) Mi.toArray)=(List.replicate k.toNat Mi).flatten.toArray:=by
  have f0:∀ m:Nat,List.foldl (fun x1 x2=>x1++x2) #[] (List.replicate m Mi.toArray)=(List.replicate m Mi).flatten.toArray:=fun m=>by
   have:=yg Mi m [];rw[List.nil_append] at this;exact this
  rw[f0]
  cases Mi with
  | nil=>simp
  | cons a r'=>rw[MP (by simp)]
 refine wpAny_binaryOp_repeat_ref (T:="list") (U:="int") (by decide) ⟨_,e,rfl⟩ (fun s'=>typeIs_int s' k t) noFill_list_mul F.fills_int_mul F.slot_int_rmul repeat_list F.slot_int_index.lookup
  (Oo F.slot_int_rmul (typeIs_int s k t) F.entry_int_rmul (F.args_int_rmul_2 _ _) (int___rmul___int_list k t l Mi.toArray n)
   ⟨e,rfl,⟨_,e,rfl⟩,Oo F.slot_list_mul ⟨_,e,rfl⟩ F.entry_list_mul (F.args_list_mul_2 _ _) (AutoListH.list___mul___list_int_3 l Mi.toArray n k t hfit hcap hlong) ⟨e,?_⟩⟩)
 rw[hnew];exact⟨.ref _,_,I.lnew (t':=s.toks) (r.rep k.toNat) (by rw[Gw,Nat.mul_comm];exact hz),rfl,q _ I.fresh⟩
end
end L2
namespace Att
open PySem PySem.W PySem.Calls PyProof.Rows
theorem ints_of_wellAll{P:Params}{h:Heap}:∀(ns:List Int) (vs:List Value),WellAll P h vs (ns.map WData.int)->IntsAre vs ns:=by
 intro ns
 induction ns with
 | nil=>
  intro vs w;rw[List.map_nil] at w;cases w;exact .nil
 | cons n ns ih=>
  intro vs w;rw[List.map_cons] at w
  cases w with
  | cons a b=>
   cases a;exact .cons _ _ (ih _ b)
theorem script_of {l:OpenLaw} {n:Nat} (hn:l.most=some n) {P:Params} {h:Heap} {args:List WData} {vals:List Value}
  (hpre:l.row.toRowW.claim.pre args=true) (hwl:WellAll P h vals args):
  ∃ a vs ns,vals=[Value.ref a]/\args=[WData.list (ns.map WData.int)]/\h.get? a=some {cls:=.type "list",data:=.seq vs.toArray}/\IntsAre vs ns/\ns.length<=n:=by
 have hsh:WShape.hasAll [] args [.list .int]=true:=(pre_splitW hpre).1;have hc:l.pre.holds [] {args:=args}=true:=(pre_splitW hpre).2;obtain⟨d,r,rfl,h1,h2⟩:=hasAllW_cons hsh;obtain rfl:=hasAllW_nil h2;obtain⟨xs,rfl,h3⟩:=hasW_list h1;obtain⟨ns,rfl⟩:=items_int h3
 have Mn:ns.length<=n:=by
  unfold OpenLaw.pre at hc
  have h4:(WTm.not (.lt (.lit (.int (n:Int))) (.len (.arg 0)))).holds [] {args:=[.list (ns.map .int)]}=true:=by
   have h4:=(holds_andW hc).1;rw[hn] at h4;exact h4
  have h5:=condW_of h4 (w_not (w_lt w_lit (w_len_list (w_arg rfl))));rw[List.length_map] at h5;refine Nat.le_of_not_lt fun q=>?_;have q':(n:Int) < ((ns.length:Nat):Int):=by omega
  first
   | (rw[decide_eq_true q'] at h5;exact absurd h5 (by decide))
   | (simp at h5;omega)
 cases hwl with
 | cons w1 w2=>
  cases w2
  cases w1 with
  | list ho hall=>exact⟨_,_,ns,rfl,rfl,ho,ints_of_wellAll ns _ hall,Mn⟩
theorem post_true(l:OpenLaw)(args:List WData):l.row.toRowW.claim.post args (.bool true) args=true:=
 postW_of (r:=l.row.toRowW) (X:=(true==true))
  (show WShape.has [] (.bool true) .bool=true by first | rfl | decide | simp[WShape.has,WShape.arms,WShape.armsAll])
  (show(WTm.eq .res (.lit (.bool true))).value [] {args:=args,res:=some (.bool true),after:=args}=some (.bool (true==true)) from w_eq_bool (w_res rfl) w_lit) rfl
theorem attach_call {l:OpenLaw} {n:Nat} {q:Program} {loose:List Str} {XP:(Str->Option Value)->Heap->Prop} {YP:World->Heap->Prop} {d:DefRec}
  (hn:l.most=some n) (hdf:d.params.defaults=[])
  (call:∀(w:World) (s₀ s₁:Shared) (mg mb:Str->Option Value) (fa:Addr) (o:Obj) (pm cd doc:Value) (a:Addr) (vs:List Value) (ns:List Int),
   Ground q loose [] XP w s₀ mg mb s₁.heap->YP w s₁.heap->
   s₁.heap.get? fa=some o->o.data=.func (docDef d.name d.params d.body d.scope pm cd doc)->s₁.heap.CodeRec cd d.name->mg d.name=some (.ref fa)->
   s₁.heap.get? a=some {cls:=.type "list",data:=.seq vs.toArray}->IntsAre vs ns->ns.length<=n->s₁.gens=#[]->
   codeAny (model l.prog w) callerA (.call (.ref fa) ⟨[.ref a],[]⟩) (fun r s'=>r=.ok (.ret (.bool true))/\OldK s₁.heap s'.heap/\s'.os=s₁.os/\AllBare s'.gens) s₁):
  WalkO q loose XP YP l.row.toRowW d [] (fun f vs=>PySem.call f vs):=by
 intro w s₀ s₁ mg mb G Y fa o pm cd doc dV kV ho hd hcd hD hmg hg args vals as hpre hlay hrd hwl hlo;obtain rfl:dV=.none:=Dflts.none hD hdf;obtain rfl:kV=.none:=Dflts.noKw hD;obtain⟨a,vs,ns,rfl,rfl,hobj,hints,Mn⟩:=script_of hn hpre hwl;refine enter_call (codeAny_mono (call w s₀ s₁ mg mb fa o pm cd doc a vs ns G Y ho (fd_plain hd) hcd hmg hobj hints Mn hg) fun r s' hq=>?_);obtain⟨rfl,h2,h3,h4⟩:=hq;exact⟨.inl ⟨.bool true,.bool true,[],rfl,fun _=>rfl,.bool true,post_true l _,fun _=>⟨List.Pairwise.nil,fun _ hm=>(nomatch hm)⟩⟩,h2,h3,h4⟩
section
variable{prog:Program}{w:World}{A:Around}{E:Value->Shared->Prop}{s:Shared}{K:Frag}
end
end Att
namespace L2
open PySem PySem.Spec PyProof.Rows
theorem qZ:∀{vs:List Value} {ns:List Int},IntsAre vs ns->Vals (ns.map V.int) vs
 | _,_,.nil=>.nil
 | _,_,.cons n t h=>.cons ⟨t,rfl⟩ (qZ h)
def Only(H:Hp):Prop:=∀ b,H b=none\/∃ o xs,H b=some (.frz o (.lst xs))
theorem Fx {P:Program} {w:World} {K:Frag} {mg mb:Str->Option Value} {CX:CXT} {k:Nat} {fa a:Addr} {fd:FuncData} {x:Str} {sp:Sp} {s₁:Shared} {vs:List Value} {ns:List Int}
  (KX:K.In s₁.heap) (hns:s₁.heap.Ns mainGlobals mg) (hb:s₁.heap.Ns builtinsNs mb) (hbb:∀ x:Str,x≠"__name__"->mb x=bootBuiltins x) (hlim:s₁.heap.NoLimit) (hg:s₁.gens=#[])
  (ha:s₁.heap.get? a=some {cls:=.type "list",data:=.seq vs.toArray}) (hi:IntsAre vs ns) (hl:ns.length<=sizeLine) (hr:Room k callerA)
  (F:∀ base:Heap,K.In base->base.Ns mainGlobals mg->FnOk P w K mg base CX k fa fd [x] sp) (hbind:∀(s:Shared) (u:Value),BindsTo s fd ⟨[u],[]⟩ [(x,u)])
  (hsp:∀ H:Hp,Only H->SqL K H a (ns.map V.int)->sp [.ref a] H (fun v _=>v=.bl true) fun _ _ _=>False)
  (hCX:∀ H e s',CX [] H s₁ (fun _ _ _=>False) e s'->False):
  codeAny (model P w) callerA (.call (.ref fa) ⟨[.ref a],[]⟩) (fun r s'=>r=.ok (.ret (.bool true))/\OldK s₁.heap s'.heap/\s'.os=s₁.os/\AllBare s'.gens) s₁:=by
 have rv:=qZ hi;have lenV:=hi.length
 have core:∀ H:Hp,Only H->SqL K H a (ns.map V.int)->HOk P w H s₁.heap->(∀ b,H b≠none->b=a)->(H a≠none->K.lookup a=none)->
   codeAny (model P w) callerA (.call (.ref fa) ⟨[.ref a],[]⟩) (fun r s'=>r=.ok (.ret (.bool true))/\OldK s₁.heap s'.heap/\s'.os=s₁.os/\AllBare s'.gens) s₁:=by
  intro H hO hS hok hA hK;have base_of:∀{b:Addr} {o:Obj},s₁.heap.get? b=some o->H b=none->(hidT s₁.heap H).get? b=some o:=fun e n=>Fr e n
  have noA:∀{b:Addr} {o:Obj} {es:Array DictEntry} {ep:Nat},s₁.heap.get? b=some o->o.data=.dict es ep->H b=none:=fun{b o es ep} e d=>by
   cases q:H b with
   | none=>rfl
   | some u=>
    have e':b=a:=hA b (by rw[q];simp);subst e';rw[ha] at e;cases e;have d':Data.seq vs.toArray _=Data.dict es ep:=d;cases d'
  have nsK:∀{b:Addr} {m:Str->Option Value},s₁.heap.Ns b m->(hidT s₁.heap H).Ns b m:=fun{b m} ⟨o,es,ep,e,d,r⟩=>⟨o,es,ep,base_of e (noA e d),d,r⟩
  have hKb:K.In (hidT s₁.heap H):=fun b o e=>base_of (KX b o e) (by
   cases q:H b with
   | none=>rfl
   | some u=>
    have e':b=a:=hA b (by rw[q];simp);subst e';rw[hK (by rw[q];simp)] at e;cases e)
  have hM:Mod K mg (hidT s₁.heap H):=⟨hKb,nsK hns,⟨mb,nsK hb,hbb⟩,let ⟨mc,h1,h2⟩:=hlim;⟨mc,nsK h1,h2⟩⟩;have e0:Env0 P w K mg (hidT s₁.heap H) callerA [] s₁ H:=⟨rfl,hM,fun b o e=>Gh e,Nat.le_of_eq (DJ _ _),trivial,fun b hb=>absurd (show b∈([]:List Addr) from hb) (by simp),hok,.of_eq hg⟩;refine Qg ((F _ hKb (nsK hns)).run callerA [] s₁ H ⟨[.ref a],[]⟩ [.ref a] [.ref a] _ _ hr e0 (hbind s₁ (.ref a)) (.cons rfl .nil) (hsp H hO hS)) fun r s' h=>?_
  cases r with
  | error e=>exact(hCX H e s' h).elim
  | ok fl=>
   cases fl with
   | next=>exact False.elim h
   | brk=>exact False.elim h
   | cont=>exact False.elim h
   | ret u=>
    obtain⟨v,H',os,bare,un,hok',r',q⟩:=h;have q':v=.bl true:=q;subst q';obtain rfl:u=Value.bool true:=r';refine⟨rfl,OldK.of_keep fun b o e=>?_,os,bare⟩
    cases q:H b with
    | none=>exact un.keep b o e q (by intro z;exact absurd (show b∈([]:List Addr) from z) (by simp)) (by simp)
    | some u=>
     rcases hO b with z | ⟨ob,xs,z⟩
     . rw[q] at z;cases z
     . have z2:=un.frzs b ob _ z;obtain⟨e1,_⟩:=hok b _ z;obtain⟨e2,_⟩:=hok' b _ z2;rw[e] at e1;cases e1;exact e2
 cases hk:K.lookup a with
 | some o=>
  have e:=KX a o hk;rw[ha] at e;cases e;refine core (fun _=>none) (fun _=>.inl rfl) (.inr ⟨_,vs.toArray,_,hk,rfl,rfl,rfl,by rw[MX,lenV];exact hl,by simpa using rv⟩) (fun b u z=>by have z':(none:Option HO)=some u:=z;cases z') (fun b z=>absurd rfl z) fun z=>absurd rfl z
 | none=>
  refine core (fun b=>if b=a then some (.frz {cls:=.type "list",data:=.seq vs.toArray} (.lst (ns.map V.int))) else none) (fun b=>?_) (.inl (.inr ⟨{cls:=.type "list",data:=.seq vs.toArray},MU rfl⟩)) (fun b u z=>?_) (fun b z=>?_) fun _=>hk
  . by_cases hb:b=a
    . exact .inr ⟨_,_,MU hb⟩
    . exact .inl (MP hb)
  . by_cases hb:b=a
    . have z':=(MU hb).symm.trans z;cases z';subst hb;exact⟨ha,by rw[Mr];exact hl,vs,_,rv,ha⟩
    . have z':=(MP hb).symm.trans z;cases z'
  . by_cases hb:b=a
    . exact hb
    . exact absurd (MP hb) z
theorem Gx {l:PySem.W.OpenLaw} {n k:Nat} {q:Program} {loose:List Str} {XP:(Str->Option Value)->Heap->Prop} {YP:World->Heap->Prop} {d:DefRec} {K:Params->Frag} {CX:World->CXT} {sp:World->Sp} {x:Str}
  (hn:l.most=some n) (hn2:n<=sizeLine) (hdf:d.params.defaults=[]) (hr:Room k callerA)
  (hY:∀(w:World) (h:Heap),YP w h->(K w.params).In h)
  (F:∀(w:World) (mg:Str->Option Value) (fa:Addr) (h:Heap),(K w.params).In h->h.Ns mainGlobals mg->mg d.name=some (.ref fa)->
   ∃ fd:FuncData,(∀(s:Shared) (u:Value),BindsTo s fd ⟨[u],[]⟩ [(x,u)])/\
    ∀ base:Heap,(K w.params).In base->base.Ns mainGlobals mg->FnOk l.prog w (K w.params) mg base (CX w) k fa fd [x] (sp w))
  (hsp:∀(w:World) (H:Hp) (a:Addr) (ns:List Int),ns.length<=n->Only H->SqL (K w.params) H a (ns.map V.int)->sp w [.ref a] H (fun v _=>v=.bl true) fun _ _ _=>False)
  (hCX:∀(w:World) (H:Hp) (s:Shared) (e:Value) (s':Shared),CX w [] H s (fun _ _ _=>False) e s'->False):
  PySem.W.WalkO q loose XP YP l.row.toRowW d [] (fun f vs=>PySem.call f vs):=by
 refine Att.attach_call hn hdf fun w s₀ s₁ mg mb fa o pm cd doc a vs ns G Y ho hd hcd hmg hobj hints Mn hg=>?_;have KX:=hY w _ Y;obtain⟨fd,hb,hF⟩:=F w mg fa _ KX G.T.g hmg;exact Fx KX G.T.g G.T.b G.T.builtins G.T.nolimit hg hobj hints (ML Mn hn2) hr hF hb (fun H hO hS=>hsp w H a ns Mn hO hS) fun H e s'=>hCX w H s₁ e s'
def cU(s:Stmt):Arguments:=match s with
 | .FunctionDef _ a _ _ _ _ _ _ _ _=>a
 | _=>{posonlyargs:=[],args:=[],vararg:=none,kwonlyargs:=[],kw_defaults:=[],kwarg:=none,defaults:=[]}
def b3(s:Stmt):List Stmt:=match s with
 | .FunctionDef _ _ b _ _ _ _ _ _ _=>b
 | _=>[]
def a6(s:Stmt):Scope:=match s with
 | .FunctionDef _ _ _ _ _ _ sc _ _ _=>sc
 | _=>{kind:=.function,names:=[],isGenerator:=false,isCoroutine:=false}
abbrev CX0:CXT:=fun _ _ _ _ _ _=>False
abbrev E0:XK:=fun _ _ _=>False
theorem zB{X:Cx}:qW CX0 X E0:=fun _ _ _ _ _ _ _ h=>h.elim
structure Fun(K:Frag)(x qual:Str)(st:Stmt)(f:Addr)(fd:FuncData):Prop where
 ex:∃(oc:Value) (od:Option Addr) (kV doc pm:Value) (an:Option Addr) (Mg ct:Value) (osl:Array (Option Value)),
  fd=fnOf x qual (cU st) (b3 st) (a6 st) .none kV doc pm an Mg ct/\K.lookup f=some ⟨oc,od,.func fd,osl⟩/\codeIn K Mg qual=true
 kp:keepIn K (.ref f)=true
section
variable{P:Program}{w:World}{K:Frag}{mg:Str->Option Value}{base:Heap}
theorem Fun.ok {x qual:Str} {st:Stmt} {f:Addr} {fd:FuncData} {N ps:List Str} {k:Nat} {sp:Sp} (F:Fun K x qual st f fd) (S:l8 N ps (a6 st)) (len:∀ vs H Q E,sp vs H Q E->vs.length=ps.length)
  (hbody:∀(Mg:Value) (A:Around) (outer:List Env) (s:Shared) (H:Hp) (vs:List V) (Q:VK) (E:XK),Room k (A.deeper (envOfC qual (a6 st) s.heap.objs.size f Mg))->sp vs H Q E->
   ∃ t,PSs (cxOf CX0 P w K mg base N qual (a6 st) f Mg A outer s H E).nox (b3 st) t/\t {nx:=fun _ H'=>Q .non H',rt:=Q} (start N vs) H):FnOk P w K mg base CX0 (k+1) f fd ps sp:=by
 obtain⟨oc,od,kV,doc,pm,an,Mg,ct,osl,rfl,lk,hcd⟩:=F.ex;refine IS lk hcd S len fun A outer s H vs Q E hr hsp=>?_;obtain⟨t,h,q⟩:=hbody Mg A outer s H vs Q E hr hsp;exact⟨t,h.nox,q⟩
theorem Fun.binds {x qual:Str} {st:Stmt} {f:Addr} {fd:FuncData} {ps:List Str} (F:Fun K x qual st f fd)
  (h:∀(kV doc pm:Value) (an:Option Addr) (Mg ct:Value) (us:List Value),us.length=ps.length->bindArgs (fnOf x qual (cU st) (b3 st) (a6 st) .none kV doc pm an Mg ct) ⟨us,[]⟩=pure (ps.zip us)):Binds K fd ps []:=by
 obtain⟨oc,od,kV,doc,pm,an,Mg,ct,osl,rfl,lk,hcd⟩:=F.ex;exact .all (h kV doc pm an Mg ct)
theorem Ea {x qual:Str} {st:Stmt} {f:Addr} {oc:Value} {od an:Option Addr} {osl:Array (Option Value)} {kV doc pm Mg ct:Value} (l:K.lookup f=some ⟨oc,od,.func (fnOf x qual (cU st) (b3 st) (a6 st) .none kV doc pm an Mg ct),osl⟩)
  (c:codeIn K Mg qual=true) (k:keepIn K (.ref f)=true):Fun K x qual st f (fnOf x qual (cU st) (b3 st) (a6 st) .none kV doc pm an Mg ct):=⟨⟨oc,od,kV,doc,pm,an,Mg,ct,osl,rfl,l,c⟩,k⟩
end
theorem aK{n:Nat}(h:n<=1000):n<sizeLine:=NG h (by decide)
section
variable{X:Cx}
theorem pv (i:Nat) {x:Str} {pos:Pos} (hN:X.N[i]? =some x:=by rfl) (hv:Vis X.env.scope x:=by first | exact Or.inl rfl | exact Or.inr (Or.inl rfl) | exact Or.inr (Or.inr rfl)) (hd:(x==("__debug__":Str))=false:=by decide)
  (hcd:(x==("__classdict__":Str))=false:=by decide):PE X (.Name x pos) (tVar i):=Hm hN hv hd hcd
end
theorem iteF{A B:Prop}(h:B):if false=true then A else B:=by
 rw[MP ME];exact h
theorem iteT{A B:Prop}(h:A):if true=true then A else B:=by
 rw[MU rfl];exact h
def Same(H H':Hp):Prop:=∀ b o,H b=some o->H' b=some o
theorem Same.refl(H:Hp):Same H H:=fun _ _ h=>h
abbrev Mw:=@Same.refl
theorem Same.trans{H H1 H2:Hp}(a:Same H H1)(b:Same H1 H2):Same H H2:=fun c o h=>b c o (a c o h)
theorem Same.free{H H':Hp}(e:Same H H'){l:Addr}(h:H' l=Option.none):H l=Option.none:=by
 cases q:H l with
 | none=>rfl
 | some o=>
  rw[e l o q] at h;cases h
theorem Same.seq{K:Frag}{H H':Hp}{a:Addr}{xs:List V}(e:Same H H')(h:SqL K H a xs):SqL K H' a xs:=by
 rcases h with (h | ⟨o,h⟩) | h
 . exact .inl (.inl (e _ _ h))
 . exact .inl (.inr ⟨o,e _ _ h⟩)
 . exact .inr h
section
variable{κ:Type}[DecidableEq κ]
def valV(Mh:List (κ × V))(k:κ):Option V:=(Mh.find? fun kv=>decide (kv.1=k)).map (·.2)
def putK(Mh:List (κ × V))(k:κ)(v:V):List (κ × V):=
 if (Mh.any fun kv=>decide (kv.1=k))=true then Mh.map (fun kv=>if kv.1=k then(kv.1,v) else kv) else Mh++[(k,v)]
theorem ut{p:κ × V}{r:List (κ × V)}{k:κ}(e:p.1=k):valV (p::r) k=some p.2:=by simp[valV,Oe,e]
theorem uu{p:κ × V}{r:List (κ × V)}{k:κ}(e:¬ p.1=k):valV (p::r) k=valV r k:=by simp[valV,Oe,e]
theorem zU(k:κ):∀ Mh:List (κ × V),(Mh.any fun kv=>decide (kv.1=k))=(valV Mh k).isSome
 | []=>rfl
 | p::r=>by
  rw[Ov];by_cases e:p.1=k
  . simp only[ut e,Mv e,ON,Option.isSome_some]
  . rw[uu e,Mu e,NC];exact zU k r
theorem tS(Mh:List (κ × V))(k:κ)(v:V):(putK Mh k v).length<=Mh.length+1:=by
 unfold putK
 split
 . rw[Mr];omega
 . rw[M6,M3,List.length_nil];omega
theorem RelO.isSome_eq{o:Option V}{u:Option Value}(r:RelO o u):o.isSome=u.isSome:=by
 cases o with
 | none=>cases u with
  | none=>rfl
  | some _=>exact(show False from r).elim
 | some _=>cases u with
  | none=>exact(show False from r).elim
  | some _=>rfl
theorem KV.val{Mh:List (κ × V)}{vs:List (κ × Value)}(r:KV Mh vs)(k:κ):RelO (valV Mh k) (valueAt vs k):=by
 unfold KV at r
 induction r with
 | nil=>exact True.intro
 | @cons p q ps qs h t ih=>
  obtain⟨h1,h2⟩:=h;by_cases e:p.1=k
  . have e':q.1=k:=h1.symm.trans e;have b:valueAt (q::qs) k=some q.2:=by simp[valueAt,Oe,e']
    rw[ut e,b];exact h2
  . have e':¬ q.1=k:=fun z=>e (h1.trans z);have b:valueAt (q::qs) k=valueAt qs k:=by simp[valueAt,Oe,e']
    rw[uu e,b];exact ih
theorem KV.any{Mh:List (κ × V)}{vs:List (κ × Value)}(r:KV Mh vs)(k:κ):(Mh.any fun kv=>decide (kv.1=k))=vs.any fun kv=>decide (kv.1=k):=by
 unfold KV at r
 induction r with
 | nil=>rfl
 | cons h t ih=>rw[Ov,Ov,ih,h.1]
theorem KV.repl{Mh:List (κ × V)}{vs:List (κ × Value)}(r:KV Mh vs)(k:κ){y:V}{u:Value}(ry:RelV y u):
  KV (Mh.map fun kv=>if kv.1=k then(kv.1,y) else kv) (vs.map fun kv=>if kv.1=k then(kv.1,u) else kv):=by
 unfold KV at r ⊢
 induction r with
 | nil=>exact .nil
 | @cons p q ps qs h t ih=>
  rw[M4,M4];refine .cons ?_ ih;obtain⟨h1,h2⟩:=h;by_cases e:p.1=k
  . rw[MU e,MU (h1.symm.trans e)];exact⟨h1,ry⟩
  . rw[MP e,MP (fun z=>e (h1.trans z))];exact⟨h1,h2⟩
theorem KV.put{Mh:List (κ × V)}{vs:List (κ × Value)}(r:KV Mh vs)(k:κ){y:V}{u:Value}(ry:RelV y u):KV (putK Mh k y) (stored vs k u):=by
 unfold putK stored;rw[r.any k];by_cases e:(vs.any fun kv=>decide (kv.1=k))=true
 . rw[MU e,MU e];exact r.repl k ry
 . rw[MP e,MP e];exact Paired.snoc r ⟨rfl,ry⟩
theorem KV.length{Mh:List (κ × V)}{vs:List (κ × Value)}(r:KV Mh vs):Mh.length=vs.length:=Qc r
end
theorem vf{P:Program}{w:World}{k:Key}{u:Value}(r:RelV (kV k) u):(ck P w).is k u=true:=by
 cases k with
 | inl i=>obtain⟨t,e⟩:=(show ∃ t,u=Value.int i t from r);subst e;exact BD P w i t
 | inr x=>obtain⟨t,e⟩:=(show ∃ t,u=Value.str x t from r);subst e;exact BE P w x t
theorem yj{P:Program}{w:World}:∀{ks:List Key} {us:List Value},Vals (ks.map kV) us->ItemsAre (ck P w) ks us
 | [],_,r=>by rw[List.map_nil] at r;cases r;exact .nil
 | k::ks,_,r=>by
  rw[M4] at r
  cases r with
  | cons h t=>exact .cons (vf h) (yj t)
abbrev KT(H:Hp):List (List Key × V)->List (List Key × Addr × Value)->Prop:=Paired fun p q=>p.1=q.1/\H q.2.1=some (.tup (p.1.map kV))/\RelV p.2 q.2.2
variable{H:Hp}{Mh:List (List Key × V)}{xs:List (List Key × Addr × Value)}
theorem KT.val(r:KT H Mh xs)(k:List Key):RelO (valV Mh k) ((atKey xs k).map (·.2)):=by
 induction r with
 | nil=>exact True.intro
 | @cons p q ps qs h t ih=>
  obtain⟨h1,_,h2⟩:=h;by_cases e:p.1=k
  . have e':q.1=k:=h1.symm.trans e;have b:atKey (q::qs) k=some q.2:=by simp[atKey,Oe,e']
    rw[ut e,b];exact h2
  . have e':¬ q.1=k:=fun z=>e (h1.trans z);have b:atKey (q::qs) k=atKey qs k:=by simp[atKey,Oe,e']
    rw[uu e,b];exact ih
theorem KT.repl(r:KT H Mh xs)(k:List Key){y:V}{u:Value}(ry:RelV y u):
  KT H (Mh.map fun kv=>if kv.1=k then(kv.1,y) else kv) (xs.map (putAt k u)):=by
 induction r with
 | nil=>exact .nil
 | @cons p q ps qs h t ih=>
  rw[M4,M4];refine .cons ?_ ih;obtain⟨h1,h2,h3⟩:=h;unfold putAt;by_cases e:p.1=k
  . rw[MU e,MU (h1.symm.trans e)];exact⟨h1,h2,ry⟩
  . rw[MP e,MP (fun z=>e (h1.trans z))];exact⟨h1,h2,h3⟩
theorem KT.put(r:KT H Mh xs)(k:List Key){b:Addr}{y:V}{u:Value}(hb:H b=some (.tup (k.map kV)))(ry:RelV y u):
  KT H (putK Mh k y) (storedH xs k b u):=by
 have e:(Mh.any fun kv=>decide (kv.1=k))=(atKey xs k).isSome:=by
  rw[zU,(r.val k).isSome_eq,Py]
 unfold putK storedH;rw[e];by_cases q:(atKey xs k).isSome=true
 . rw[MU q,MU q];exact r.repl k ry
 . rw[MP q,MP q];exact Paired.snoc r ⟨rfl,hb,ry⟩
theorem KT.keeps{H':Hp}(r:KT H Mh xs)(ht:∀ b ys,H b=some (.tup ys)->H' b=some (.tup ys)):KT H' Mh xs:=
 Paired.mapP r fun _ _ z=>⟨z.1,ht _ _ z.2.1,z.2.2⟩
section
variable{P:Program}{w:World}{H:Hp}{h:Heap}{a:Addr}
theorem F6{u:HO}(ok:HOk P w H h)(e:Rd H a u):ObjOk P w H h a u:=e.ok ok
theorem sU{Mh:List (Key × V)}(ok:HOk P w H h)(e:Rd H a (.dK Mh)):Mh.length<=sizeLine/\(a==sysModules)=false/\∃ vs,KV Mh vs/\h.DictOf (ck P w) a vs:=
 show ObjOk P w H h a (.dK Mh) from F6 ok e
theorem IT{Mh:List (Key × V)}(ok:HOk P w H h)(e:H a=some (.dK Mh)):Mh.length<=sizeLine/\(a==sysModules)=false/\∃ vs,KV Mh vs/\h.DictOf (ck P w) a vs:=sU ok (.inl e)
theorem q5{ks:List Key}(ok:HOk P w H h)(e:H a=some (.tup (ks.map kV))):(tupleKind (ck P w)).is h ks a:=by
 obtain⟨_,Mi,r,o,h1,h2,n,h3⟩:=(show ObjOk P w H h a (.tup (ks.map kV)) from ok a _ e);exact⟨o,Mi.toArray,n,h1,h2,h3,by simpa using yj r⟩
theorem vg{Mh:List (List Key × V)}(ok:HOk P w H h)(e:Rd H a (.dT Mh)):Mh.length<=sizeLine/\(a==sysModules)=false/\
  ∃ xs,KT H Mh xs/\h.DictOfH (tupleKind (ck P w)) a xs:=by
 obtain⟨z,y,xs,r,o,es,ep,h1,h2,h3,h4,h5⟩:=(show ObjOk P w H h a (.dT Mh) from F6 ok e);refine⟨z,y,xs,r,o,es,ep,h1,h2,h3,h4,fun x hx=>?_,h5⟩
 have all:∀{l:List (List Key × V)} {m:List (List Key × Addr × Value)},KT H l m->∀ x∈m,(tupleKind (ck P w)).is h x.1 x.2.1:=by
  intro l m q
  induction q with
  | nil=>intro x hx;exact nomatch hx
  | @cons p q ps qs hq t ih=>
   intro x hx;rcases MS.mp hx with e | hx
   . subst e;exact q5 ok (by rw[← hq.1];exact hq.2.1)
   . exact ih x hx
 exact all r x hx
theorem IU{Mh:List (List Key × V)}(ok:HOk P w H h)(e:H a=some (.dT Mh)):Mh.length<=sizeLine/\(a==sysModules)=false/\
  ∃ xs,KT H Mh xs/\h.DictOfH (tupleKind (ck P w)) a xs:=vg ok (.inl e)
end
def DGet(H:Hp)(a:Addr)(y:V)(r:Option V):Prop:=
 (∃ Mh k,Rd H a (.dK Mh)/\y=kV k/\r=valV Mh k)\/∃ Mh k b,Rd H a (.dT Mh)/\y=.ref b/\H b=some (.tup (k.map kV))/\r=valV Mh k
def DPut(H:Hp)(a:Addr)(y v:V)(H':Hp):Prop:=
 (∃ Mh k,H a=some (.dK Mh)/\y=kV k/\Mh.length<sizeLine/\H'=upd H a (.dK (putK Mh k v)))\/
 ∃ Mh k b,H a=some (.dT Mh)/\y=.ref b/\H b=some (.tup (k.map kV))/\Mh.length<sizeLine/\H'=upd H a (.dT (putK Mh k v))
theorem DGet.k{a:Addr}{Mh:List (Key × V)}{k:Key}(e:H a=some (.dK Mh)):DGet H a (kV k) (valV Mh k):=.inl ⟨Mh,k,.inl e,rfl,rfl⟩
section
variable{X:Cx}{Md:List (Addr × Obj)}{σ:St}{H:Hp}{s:Shared}{a:Addr}{y v:V}{u r:Value}{o:Option V}{A:Around}{E:Value->Shared->Prop}
theorem Eb{Q:Value->Shared->Prop}(hu:A.units+1<cLine)(I:Inv X Md σ H s)(g:DGet H a y (some v))(ry:RelV y u)(h:∀ w' s',Inv X Md σ H s'->RelV v w'->Q w' s'):
  wpAny (model X.prog X.w) A (getItem (.ref a) u) Q E s:=by
 rcases g with ⟨Mh,k,e,ey,l⟩ | ⟨Mh,k,b,e,ey,eb,l⟩
 . subst ey;obtain⟨z,hd,vs,rel,dd⟩:=sU I.hok e;obtain⟨w',hw,rw'⟩:=Qf (v:=v) (o:=valueAt vs k) (by rw[l];exact rel.val k);exact wpAny_getItem_of (vf ry) dd.mapOf hw (h w' _ (I.tok _) rw')
 . subst ey;cases (show u=Value.ref b from ry);obtain⟨z,hd,xs,rel,dd⟩:=vg I.hok e;obtain⟨w',hw,rw'⟩:=Qf (v:=v) (o:=(atKey xs k).map (·.2)) (by rw[l];exact rel.val k);obtain⟨p,hp,hp2⟩:=NT.mp hw;refine wpAny_getItem_heap (OI hu) (q5 I.hok eb) dd hp ?_;rw[hp2];exact h w' _ (I.tok _) rw'
theorem Jh{Q:Value->Shared->Prop}(hu:A.units+1<cLine)(I:Inv X Md σ H s)(g:DGet H a y o)(ry:RelV y u)(h:∀ s',Inv X Md σ H s'->Q (.bool o.isSome) s'):
  wpAny (model X.prog X.w) A (compareOp .In u (.ref a)) Q E s:=by
 rcases g with ⟨Mh,k,e,ey,l⟩ | ⟨Mh,k,b,e,ey,eb,l⟩
 . subst ey;obtain⟨z,hd,vs,rel,dd⟩:=sU I.hok e;refine wpAny_in_of (vf ry) hd dd.mapOf ?_;rw[← (rel.val k).isSome_eq,← l];exact h _ (I.tok _)
 . subst ey;cases (show u=Value.ref b from ry);obtain⟨z,hd,xs,rel,dd⟩:=vg I.hok e;refine wpAny_in_heap (OI hu) (q5 I.hok eb) hd dd ?_;have q:=(rel.val k).isSome_eq;rw[Py] at q;rw[← q,← l];exact h _ (I.tok _)
theorem Gy{Q:Value->Shared->Prop}(hu:A.units+1<cLine)(I:Inv X Md σ H s)(g:DGet H a y o)(ry:RelV y u)(h:∀ s',Inv X Md σ H s'->Q (.bool (!o.isSome)) s'):
  wpAny (model X.prog X.w) A (compareOp .NotIn u (.ref a)) Q E s:=by
 rcases g with ⟨Mh,k,e,ey,l⟩ | ⟨Mh,k,b,e,ey,eb,l⟩
 . subst ey;obtain⟨z,hd,vs,rel,dd⟩:=sU I.hok e;refine wpAny_notIn_of (vf ry) hd dd.mapOf ?_;rw[← (rel.val k).isSome_eq,← l];exact h _ (I.tok _)
 . subst ey;cases (show u=Value.ref b from ry);obtain⟨z,hd,xs,rel,dd⟩:=vg I.hok e;refine wpAny_notIn_heap (OI hu) (q5 I.hok eb) hd dd ?_;have q:=(rel.val k).isSome_eq;rw[Py] at q;rw[← q,← l];exact h _ (I.tok _)
theorem Cj{h':Heap}{t':Nat}{ob:HO}(I:Inv X Md σ H s)(mu:Mut (H a))(hs:Heap.SameBut a s.heap h')(he:∃ q,h'.get? a=some q)(new:ObjOk X.prog X.w (upd H a ob) h' a ob):
  Inv X Md σ (upd H a ob) {s with heap:=h',toks:=t'}:=
 I.write (x:=a) (e:=a) mu (.inl rfl) (fun b q hb z=>(hs.2 b hb).trans z) he new
theorem HC{P:Program}{w:World}{H':Hp}{h':Heap}{Mh:List (Key × V)}{vs:List (Key × Value)}(z:Mh.length<=sizeLine)(hd:(a==sysModules)=false)(rel:KV Mh vs)(dd:h'.DictOf (ck P w) a vs):
  ObjOk P w H' h' a (.dK Mh):=⟨z,hd,vs,rel,dd⟩
theorem Ec{H':Hp}{Q:Unit->Shared->Prop}(hu:A.units+1<cLine)(I:Inv X Md σ H s)(g:DPut H a y v H')(ry:RelV y u)(rv:RelV v r)(h:∀ s',Inv X Md σ H' s'->Q () s'):
  wpAny (model X.prog X.w) A (setItem (.ref a) u r) Q E s:=by
 rcases g with ⟨Mh,k,e,ey,l,eH⟩ | ⟨Mh,k,b,e,ey,eb,l,eH⟩
 . subst ey eH;obtain⟨z,hd,vs,rel,dd⟩:=IT I.hok e;have hz:vs.length<=sizeLine:=by rw[← rel.length];exact z
   have hl:(putK Mh k v).length<=sizeLine:=by have:=tS Mh k v;omega
   refine wpAny_setItem_pairs (hsz:=hz) (vf ry) dd fun h' dd' hs=>h _ ?_;have he:∃ q,h'.get? a=some q:=let ⟨q,_,_,hq,_⟩:=dd';⟨q,hq⟩;exact Cj I (by rw[e];exact True.intro) hs he (HC hl hd (rel.put k rv) dd')
 . subst ey eH;cases (show u=Value.ref b from ry);obtain⟨z,hd,xs,rel,dd⟩:=IU I.hok e;have hz:xs.length<=sizeLine:=by rw[← Qc rel];exact z
   have hl:(putK Mh k v).length<=sizeLine:=by have:=tS Mh k v;omega
   refine wpAny_setItem_heap (hsz:=hz) (OI hu) (q5 I.hok eb) dd fun h' dd' hs=>h _ ?_;obtain⟨q,es,ep,hq,h2,h3,h4,_,h5⟩:=dd';refine Cj I (by rw[e];exact True.intro) hs ⟨q,hq⟩ ⟨hl,hd,_,(rel.put k eb rv).keeps fun c ys ec=>?_,q,es,ep,hq,h2,h3,h4,h5⟩;rw[aq (IM ec e (fun z=>nomatch z))];exact ec
end
section
variable{X:Cx}{Md:List (Addr × Obj)}{σ:St}{H:Hp}{s:Shared}{a:Addr}{Mh:List (Key × V)}{k:Key}{u:Value}{A:Around}{E:Value->Shared->Prop}
theorem IV{Q:Value->Shared->Prop}(I:Inv X Md σ H s)(e:Rd H a (.dK Mh))(h:∀ t s',Inv X Md σ H s'->Q (.int Mh.length t) s'):wpAny (model X.prog X.w) A (call (.builtin "len") [.ref a]) Q E s:=by
 obtain⟨z,hd,vs,rel,dd⟩:=sU I.hok e;refine call_len_dict hd dd (by rw[← rel.length];rw[sizeLine_eq] at z;omega) ?_;rw[← rel.length];exact h _ _ (I.tok _)
end
theorem BF{X:Cx}{Md:List (Addr × Obj)}{σ:St}{s:Shared}{a:Addr}{y:V}{o:Option V}(I:Inv X Md σ H s)(g:DGet H a y o):s.TypeIs (.ref a) "dict":=by
 rcases g with ⟨Mh,k,e,_,_⟩ | ⟨Mh,k,b,e,_,_,_⟩
 . obtain⟨_,_,vs,_,dd⟩:=sU I.hok e;exact dd.typeIs
 . obtain⟨_,_,xs,_,dd⟩:=vg I.hok e;exact dd.typeIs
def sDPut(td ty tv:TE):TS:=fun D σ H=>tv σ H fun v H1=>td σ H1 fun x H2=>ty σ H2 fun y H3=>∃ a H4,x=.ref a/\DPut H3 a y v H4/\D.nx σ H4
def HD:TE:=fun _ H Q=>∀ p,H p=none->Q (.ref p) (upd H p (.dK []))
section
variable{X:Cx}
theorem Ed:CallR X (.builtin "len") (fun xs H Q=>∃ a Mh,xs=[V.ref a]/\H a=some (.dK Mh)/\Q (.int Mh.length) H):=by
 intro Md s σ H xs us Q I r h;obtain⟨a,Mh,rfl,ha,q⟩:=h;obtain⟨u,rfl,ru⟩:=cX r;cases ru;exact IV I (.inl ha) fun t s' I'=>⟨.int Mh.length,H,I',⟨t,rfl⟩,q⟩
end
theorem cr{α:Type}(x:Str):∀(a b:List (Str × α)),(a++b).lookup x=match a.lookup x with | some c=>some c | none=>b.lookup x
 | [],b=>rfl
 | (k,v)::r,b=>by
  rw[List.cons_append,Nr,Nr]
  cases x==k with
  | true=>rfl
  | false=>exact cr x r b
theorem lf:∀(names:List (Str × NameKind)) (n:Nat) (acc cl:List (Str × Addr)),cellsFrom n names (acc++cl)=cellsFrom n names acc++cl
 | [],_,_,_=>rfl
 | (y,k)::r,n,acc,cl=>by
  unfold cellsFrom
  split
  . rw[← List.cons_append];exact lf r _ _ cl
  . exact lf r _ _ cl
theorem ic{x:Str}{c:Addr}:∀(names:List (Str × NameKind)) (n:Nat) (acc:List (Str × Addr)),(x,c)∈cellsFrom n names acc->(x,NameKind.cell)∈names\/(x,c)∈acc
 | [],_,_,h=>.inr h
 | (y,k)::r,n,acc,h=>by
  unfold cellsFrom at h
  split at h
  . rename_i hk
    have hk:k=.cell:=by simpa using hk
    subst hk;rcases ic r _ _ h with z | z
    . exact .inl (MI _ z)
    . rcases MS.mp z with z | z
      . cases z;exact .inl MD
      . exact .inr z
  . rcases ic r _ _ h with z | z
    . exact .inl (MI _ z)
    . exact .inr z
theorem pZ {env:Env} (f:Str × NameKind->List (Str × Addr)->Sem (ForInStep (List (Str × Addr))))
  (hf:∀ name kind cs,f (name,kind) cs=if kind==.free then(do let a ← cellOf env name;pure (.yield ((name,a)::cs))) else pure (.yield cs)):
  ∀(names:List (Str × NameKind)) (acc:List (Str × Addr)),(∀ x,(x,NameKind.free)∈names->∃ c,env.cells.lookup x=some c)->(∀ x c,acc.lookup x=some c->env.cells.lookup x=some c)->
   ∃ cl,forIn names acc f=(pure cl:Sem _)/\(∀ x c,cl.lookup x=some c->env.cells.lookup x=some c)/\(∀ x,((x,NameKind.free)∈names\/∃ c,acc.lookup x=some c)->∃ c,cl.lookup x=some c)
 | [],acc,_,h2=>⟨acc,rfl,h2,fun x h=>h.elim (fun z=>nomatch z) id⟩
 | (y,k)::r,acc,h1,h2=>by
  rw[List.forIn_cons,hf];by_cases hk:(k==NameKind.free)=true
  . rw[MU hk];have hk':k=.free:=by simpa using hk
    subst hk';obtain⟨c,hc⟩:=h1 y MD;have e:(cellOf env y:Sem Addr)=pure c:=by unfold cellOf;rw[hc]
    rw[e]
    obtain⟨cl,e1,e2,e3⟩:=pZ f hf r ((y,c)::acc) (fun x hx=>h1 x (MI _ hx)) (fun x c' hx=>by
     rw[Nr] at hx
     cases hb:x==y with
     | true=>rw[hb] at hx;cases hx;rw[Oy.mp hb];exact hc
     | false=>rw[hb] at hx;exact h2 x c' hx)
    refine⟨cl,?_,e2,fun x hx=>e3 x ?_⟩
    . exact e1
    . rcases hx with hx | ⟨c',hx⟩
      . rcases MS.mp hx with z | z
        . cases z;exact .inr ⟨c,by rw[Nr];simp⟩
        . exact .inl z
      . cases hb:x==y with
        | true=>exact .inr ⟨c,by rw[Nr,hb]⟩
        | false=>exact .inr ⟨c',by rw[Nr,hb];exact hx⟩
  . rw[MP hk];obtain⟨cl,e1,e2,e3⟩:=pZ f hf r acc (fun x hx=>h1 x (MI _ hx)) h2;refine⟨cl,e1,e2,fun x hx=>e3 x ?_⟩;rcases hx with hx | hx
    . rcases MS.mp hx with z | z
      . cases z;exact absurd rfl hk
      . exact .inl z
    . exact .inr hx
variable{scope:Scope}
theorem CY{env:Env}(h:∀ x,(x,NameKind.free)∈scope.names->∃ c,env.cells.lookup x=some c):
  ∃ cl,closureFor scope env=pure cl/\(∀ x c,cl.lookup x=some c->env.cells.lookup x=some c)/\∀ x,(x,NameKind.free)∈scope.names->∃ c,cl.lookup x=some c:=by
 obtain⟨cl,e1,e2,e3⟩:=pZ (env:=env) (fun x cs=>match x with | (name,kind)=>if kind==.free then(do let a ← cellOf env name;pure (.yield ((name,a)::cs))) else pure (.yield cs)) (fun _ _ _=>rfl) scope.names [] h (fun x c hx=>nomatch hx);refine⟨cl,?_,e2,fun x hx=>e3 x (.inl hx)⟩
 have:closureFor scope env=(forIn scope.names [] (fun x cs=>match x with | (name,kind)=>if kind==.free then(do let a ← cellOf env name;pure (.yield ((name,a)::cs))) else pure (.yield cs)) >>= fun cs=>pure cs):=by
  simp only[closureFor]
 rw[this,e1];rfl
def Ef(scope:Scope)(cl:List (Str × Addr))(C:Addr)(env:Env):Env:=
 {newEnv scope C env.globals (cellsFrom (C+1) scope.names cl) env.qual none .none (some env) builtinsNs with scope:=relabel scope env}
theorem Fy {M:Model} {A:Around} {E:Value->Shared->Prop} {s:Shared} {cl:List (Str × Addr)} {env:Env} {Q:Env->Shared->Prop}
  (hQ:Q (newEnv scope s.heap.objs.size env.globals (cellsFrom (s.heap.objs.size+1) scope.names cl) env.qual none .none (some env) builtinsNs) {s with heap:=pushCells (s.heap.push {cls:=.type "dict",data:=.dict #[]}) scope.names}):
  wpAny M A (newFunctionEnv scope env.globals cl [] env.qual none .none (some env)) Q E s:=by
 simp only[newFunctionEnv,Option.isSome_some,Qh];refine Nb (wpAny_alloc ?_);refine Nb (wpAny_layCells _ (fun name kind cells=>by cases hkc:kind==NameKind.cell <;> simp[hkc]) _ _ _ _ ?_);rw[show({s with heap:=s.heap.push {cls:=.type "dict",data:=.dict #[]}}:Shared).heap.objs.size=s.heap.objs.size+1 from Oj ..];refine Nb ?_;rw[List.forIn_nil];exact No (No hQ)
section
variable{prog:Program}{w:World}{A:Around}{E:Value->Shared->Prop}{R:Result->Shared->Prop}{s:Shared}
theorem Eg {elt target iter:Expr} {ifs:List Expr} {scope:Scope} {pos:Pos} {it acc:Value} {env:Env} (I:Nat->Shared->Prop)
  (turn:∀ n s,I n s->wpAny (model prog w) A (pyNext it) (fun r s₁=>match r with
   | none=>R (.ok .next) s₁
   | some v=>wpAny (model prog w) A (letOwnedTupleGo target it v) (fun _ s₁'=>wpAny (model prog w) A (assign target env v) (fun _ s₂=>
     wpAny (model prog w) A (forIn ifs true fun c r=>if r=true then do let ok ← isTrue c env (eval c env);pure (ForInStep.yield ok) else pure (ForInStep.yield r)) (fun ok s₃=>
      if ok=true then wpAny (model prog w) A (eval elt env) (fun x s₄=>
       wpAny (model prog w) A (call (.builtin "list.append") [acc,x]) (fun _ s₅=>∃ m,m<n/\I m s₅) (notedBy (model prog w) A env fun e s'=>R (.error e) s') s₄) (notedBy (model prog w) A env fun e s'=>R (.error e) s') s₃
      else ∃ m,m<n/\I m s₃) (notedBy (model prog w) A env fun e s'=>R (.error e) s') s₂) (notedBy (model prog w) A env fun e s'=>R (.error e) s') s₁') (notedBy (model prog w) A env fun e s'=>R (.error e) s') s₁) (notedBy (model prog w) A env fun e s'=>R (.error e) s') s)
  (n:Nat) (h:I n s):
  codeAny (model prog w) A (.compLoop (.ListComp elt [⟨target,iter,ifs,0⟩] scope pos) 0 it acc env) R s:=by
 refine codeAny_loop rfl I (fun n s hI=>?_) n h;show wpAny _ A ((compTurn (.ListComp elt [⟨target,iter,ifs,0⟩] scope pos) 0 it acc env).onRaise (fun x=>do noteFrame x env;theTreesLotGoes x)) _ _ s;refine wpAny_noted ?_;rw[compTurn_list];refine Nb (Qd (Nb (NF (turn n s hI) (fun r s₁ h₁=>?_) fun _ _ h'=>h')))
 cases r with
 | none=>exact No h₁
 | some v=>
  refine Nb (NF h₁ (fun _ s₁' h₁'=>?_) fun _ _ h'=>h');refine Nb (NF h₁' (fun _ s₂ h₂=>Nb (NF h₂ (fun ok s₃ h₃=>?_) fun _ _ h'=>h')) fun _ _ h'=>h')
  cases ok with
  | false=>exact No ⟨rfl,h₃⟩
  | true=>
   exact Nb (Nb (NF h₃ (fun x s₄ h₄=>Nb (NF h₄ (fun _ s₅ h₅=>No (No ⟨rfl,h₅⟩)) fun _ _ h'=>h')) fun _ _ h'=>h'))
end
variable{scope:Scope}
theorem me{env:Env}{x:Str}{k:NameKind}(h:(relabel scope env).names.lookup x=some k):∃ k',scope.names.lookup x=some k'/\(k=k'\/(k'=.free/\k=.cell)):=by
 unfold relabel at h;dsimp only at h;generalize scope.names=names at h ⊢
 induction names with
 | nil=>cases h
 | cons p r ih=>
  obtain⟨n,k0⟩:=p;rw[M4] at h;rw[Nr]
  cases hb:x==n with
  | true=>
   refine⟨k0,rfl,?_⟩;dsimp only at h
   split at h
   . rename_i hc
     rw[Nr,hb] at h;cases h;simp only[MH,Oy] at hc;exact .inr ⟨hc.1.1,rfl⟩
   . rw[Nr,hb] at h;cases h;exact .inl rfl
  | false=>
   dsimp only at h;refine ih ?_
   split at h
   . rw[Nr,hb] at h;exact h
   . rw[Nr,hb] at h;exact h
def blkCx(X:Cx)(N:List Str)(scope:Scope)(cl:List (Str × Addr))(s:Shared)(H:Hp)(fp:List Addr):Cx where
 prog:=X.prog
 w:=X.w
 K:=X.K
 mg:=X.mg
 base:=X.base
 A:=X.A
 N:=N
 s₀:=s
 H₀:=H
 env:=Ef scope cl (s.heap.objs.size+1) X.env
 outer:=X.stack
 stack:=X.stack
 ex:=fp
 fn:=fun x=>scope.names.lookup x==some .cell
 calm:=X.calm
 pn:=[]
 xe:=fun e₀ s₁=>(∃(Md:List (Addr × Obj)) (σ:St),Inv X Md σ H s/\∀ b∈fp,FpOk X Md H b)->notedBy (model X.prog X.w) X.A (Ef scope cl (s.heap.objs.size+1) X.env) (fun x s'=>∃ m,s'.heap.Ns (s.heap.objs.size+1) m/\∀ h',Heap.SameBut (s.heap.objs.size+1) s'.heap h'->∀ cenv:Env,cenv.locals=s.heap.objs.size+1->
  wpAny (model X.prog X.w) X.A (passOn "comprehension.variables-let-go" x cenv:Sem Value) (fun _ _=>False) X.xe {s' with heap:=h'}) e₀ s₁
def subσ(ix:List (Option Nat))(σ:St):St:=ix.map fun o=>match o with | none=>none | some i=>match σ[i]? with | some v=>v | none=>none
structure BlkOk(X:Cx)(N:List Str)(ix:List (Option Nat))(scope:Scope):Prop where
 kind:scope.kind=.function
 nd:N.Nodup
 len:ix.length=N.length
 names:(scope.names.map (·.1)).Nodup
 free:∀ x,(x,NameKind.free)∈scope.names->X.env.kindOf x=some .cell\/X.env.kindOf x=some .free
 at_:∀(j i:Nat) (x:Str),N[j]? =some x->ix[j]? =some (some i)->X.N[i]? =some x/\(x,NameKind.free)∈scope.names
theorem eF{α:Type}:∀{l:List (Str × α)} {x:Str} {k:α},(l.map (·.1)).Nodup->(x,k)∈l->l.lookup x=some k
 | (y,k0)::r,x,k,nd,h=>by
  rw[M4,Nm] at nd;rw[Nr];rcases MS.mp h with e | e
  . cases e;simp
  . have:x≠y:=by
     rintro rfl;exact nd.1 (MJ.mpr ⟨(x,k),e,rfl⟩)
    have hb:(x==y)=false:=by simpa using this
    rw[hb];exact eF nd.2 e
theorem Ei {X:Cx} {Md:List (Addr × Obj)} {σ:St} {H:Hp} {s:Shared} {N:List Str} {ix:List (Option Nat)} {cl:List (Str × Addr)} {fp:List Addr} (B:BlkOk X N ix scope)
  (I:Inv X Md σ H s) (hcl:∀ x c,cl.lookup x=some c->X.env.cells.lookup x=some c) (hcf:∀ x,(x,NameKind.free)∈scope.names->∃ c,cl.lookup x=some c)
  (hfp:∀ b∈fp,FpOk X Md H b) (hob:∀ b∈fp,∃ o,s.heap.get? b=some o/\∀ v,o.data≠.cell v):
  Inv (blkCx X N scope cl s H fp) [] (subσ ix σ) (upd H s.heap.objs.size (.lst []))
   {s with heap:=pushCells ((s.heap.push {cls:=.type "list",data:=.seq #[]}).push {cls:=.type "dict",data:=.dict #[]}) scope.names}:=by
 have hs2:(s.heap.push {cls:=.type "list",data:=.seq #[]}).objs.size=s.heap.objs.size+1:=Oj ..;have hs3:((s.heap.push {cls:=.type "list",data:=.seq #[]}).push {cls:=.type "dict",data:=.dict #[]}).objs.size=s.heap.objs.size+2:=by rw[Oj,hs2]
 have hk:∀ b o,s.heap.get? b=some o->(pushCells ((s.heap.push {cls:=.type "list",data:=.seq #[]}).push {cls:=.type "dict",data:=.dict #[]}) scope.names).get? b=some o:=
  fun b o e=>O9 _ _ b o (MV _ (MV _ e))
 have hl:(pushCells ((s.heap.push {cls:=.type "list",data:=.seq #[]}).push {cls:=.type "dict",data:=.dict #[]}) scope.names).get? s.heap.objs.size=some {cls:=.type "list",data:=.seq #[]}:=
  O9 _ _ _ _ (MV _ (Nf _ rfl))
 have ok0:=cellsFrom_ok scope.names ((s.heap.push {cls:=.type "list",data:=.seq #[]}).push {cls:=.type "dict",data:=.dict #[]}) (s.heap.objs.size+2) [] ⟨fun _ _ hm=>(nomatch hm),List.Pairwise.nil⟩ (by rw[hs3];exact MW _);rw[hs3] at ok0
 have hcells:(blkCx X N scope cl s H fp).env.cells=cellsFrom (s.heap.objs.size+2) scope.names []++cl:=by
  show cellsFrom (s.heap.objs.size+1+1) scope.names cl=_;rw[← List.nil_append cl,lf];simp
 have cases_:∀ x c,(blkCx X N scope cl s H fp).env.cells.lookup x=some c->((x,c)∈cellsFrom (s.heap.objs.size+2) scope.names []/\(x,NameKind.cell)∈scope.names)\/((cellsFrom (s.heap.objs.size+2) scope.names []).lookup x=none/\cl.lookup x=some c):=fun x c e=>by
  rw[hcells,cr] at e
  cases q:(cellsFrom (s.heap.objs.size+2) scope.names []).lookup x with
  | none=>rw[q] at e;exact .inr ⟨rfl,e⟩
  | some c'=>
   rw[q] at e;cases e;have m:=ND q;refine .inl ⟨m,?_⟩;rcases ic _ _ _ m with z | z
   . exact z
   . exact nomatch z
 have oldc:∀ x c,cl.lookup x=some c->c<s.heap.objs.size:=fun x c e=>by
  obtain⟨v,q⟩:=I.cell x c (hcl x c e);exact q.lt
 have hfree:H s.heap.objs.size=none:=I.hok.fresh (MW _)
 have hfix:∀ b,s.heap.objs.size<b->(upd H s.heap.objs.size (.lst [])) b=none:=fun b hb=>by
  rw[aq (Ph hb)];exact I.hok.fresh (Nj hb)
 have hlt:∀ b∈fp,b<s.heap.objs.size:=fun b hb=>by
  obtain⟨o,e,_⟩:=hob b hb;exact M5 e
 have e0:=I.env0;have isnew:∀ x c,(x,c)∈cellsFrom (s.heap.objs.size+2) scope.names []->s.heap.objs.size+2<=c:=fun x c m=>(ok0.empty x c m).2
 refine⟨⟨I.ok.mod,B.kind,I.ok.glob,I.ok.blt,O4 _,fun x y c e1 e2=>?_,fun x hx=>?_,fun x c hx e=>?_,I.ok.hd,I.ok.frames,.inl rfl,fun b hb=>⟨?_,fun x c e=>?_⟩,e0.bs,e0.bsz,fun b o e hb=>?_,fun b hb hb2=>?_,e0.funs,e0.frf⟩,
  rfl,I.bare,Un.laid hk (MW _) hfree,⟨fun _=>none,?_,fun j x v e1 e2 e3=>?_⟩,fun x c e=>?_,hfix _ (OU _),fun x c e=>?_,fun p hp=>absurd (show p∈([]:List (Addr × Obj)) from hp) (by simp),?_,?_⟩
 . rcases cases_ x c e1 with ⟨m1,k1⟩ | ⟨n1,q1⟩ <;> rcases cases_ y c e2 with ⟨m2,k2⟩ | ⟨n2,q2⟩
   . exact name_of_addr ok0.apart m1 m2
   . exact absurd (M9 (oldc _ _ q2) (ML (OX _ _) (isnew _ _ m1))) (NS _)
   . exact absurd (M9 (oldc _ _ q1) (ML (OX _ _) (isnew _ _ m2))) (NS _)
   . exact I.ok.inj x y c (hcl _ _ q1) (hcl _ _ q2)
 . have hx':(relabel scope X.env).names.lookup x=some .cell\/(relabel scope X.env).names.lookup x=some .free:=hx
   have key:scope.names.lookup x=some .cell\/scope.names.lookup x=some .free:=by
    rcases hx' with z | z
    . obtain⟨k',e,r | r⟩:=me z
      . rw[← r] at e;exact .inl e
      . rw[r.1] at e;exact .inr e
    . obtain⟨k',e,r | r⟩:=me z
      . rw[← r] at e;exact .inr e
      . cases r.2
   rw[hcells];rcases key with z | z
   . obtain⟨c,q⟩:=pY (n:=s.heap.objs.size+2) z;exact⟨c,by rw[cr,q]⟩
   . obtain⟨c,q⟩:=hcf x (ND z)
     cases q2:(cellsFrom (s.heap.objs.size+2) scope.names []).lookup x with
     | none=>exact⟨c,by rw[cr,q2];exact q⟩
     | some c'=>exact⟨c',by rw[cr,q2]⟩
 . have hx':scope.names.lookup x=some .cell:=by simpa [blkCx] using hx
   rcases cases_ x c e with ⟨m1,k1⟩ | ⟨n1,q1⟩
   . exact ML (OX _ _) (isnew _ _ m1)
   . obtain⟨c',q⟩:=pY (n:=s.heap.objs.size+2) hx';rw[q] at n1;cases n1
 . exact Nl (N0 (hlt b hb))
 . rcases cases_ x c e with ⟨m1,k1⟩ | ⟨n1,q1⟩
   . exact Ph (M9 (hlt b hb) (ML (OX _ _) (isnew _ _ m1)))
   . exact(hfp b hb).2.2.2.2.1 x c (hcl _ _ q1)
 . rcases(hfp b hb).2.2.2.1 with z | z
   . exact I.ok.noex b o e z
   . exact absurd (M9 (M5 e) (ML I.ok.bsz z)) (NS _)
 . rcases MS.mp (I.stkSub b hb2) with z | z
   . exact(hfp b hb).2.1 z
   . exact(hfp b hb).2.2.1 z
 . show Heap.Ns _ (s.heap.objs.size+1) _;rw[← hs2];exact(Heap.Ns.new _ (.type "dict")).keeps (O9 _ _)
 .
   unfold subσ at e2;rw[MA] at e2
   cases q:ix[j]? with
   | none=>rw[q] at e2;cases e2
   | some o=>
    rw[q] at e2
    cases o with
    | none=>cases e2
    | some i=>
     simp only[Option.map_some,Option.some.injEq] at e2;obtain⟨hN,hm⟩:=B.at_ j i x e1 q
     have hσ:σ[i]? =some (some v):=by
      cases q2:σ[i]? with
      | none=>rw[q2] at e2;cases e2
      | some z=>rw[q2] at e2;exact congrArg some e2
     obtain⟨m,hn,hl'⟩:=I.loc;have hkind:=B.free x hm;have hvis:Vis X.env.scope x:=hkind.elim (fun z=>.inr (.inl z)) fun z=>.inr (.inr z);obtain⟨u,ru,lk⟩:=hl' i x v hN hσ hvis;refine⟨u,ru,?_⟩;obtain⟨c,hc⟩:=hcf x hm
     have hnone:(cellsFrom (s.heap.objs.size+2) scope.names []).lookup x=none:=by
      cases q2:(cellsFrom (s.heap.objs.size+2) scope.names []).lookup x with
      | none=>rfl
      | some c'=>
       rcases ic _ _ _ (ND q2) with z | z
       . have a1:=eF B.names z;have a2:=eF B.names hm;rw[a1] at a2;cases a2
       . exact nomatch z
     have hcell:(blkCx X N scope cl s H fp).env.cells.lookup x=some c:=by rw[hcells,cr,hnone];exact hc
     have hkk:(blkCx X N scope cl s H fp).env.kindOf x=some .cell\/(blkCx X N scope cl s H fp).env.kindOf x=some .free:=by
      rcases e3 with z | z | z
      . obtain⟨k',e,r | r⟩:=me (show(relabel scope X.env).names.lookup x=some .local from z)
        . rw[eF B.names hm] at e;cases e;cases r
        . cases r.2
      . exact .inl z
      . exact .inr z
     refine .inr ⟨hkk,c,hcell,?_⟩;rcases lk with ⟨k1,_⟩ | ⟨_,c2,e4,z⟩
     . rcases hkind with z | z <;> rw[k1] at z <;> cases z
     . rw[hcl x c hc] at e4;cases e4;exact z.keeps hk
 . rcases cases_ x c e with ⟨m1,k1⟩ | ⟨n1,q1⟩
   . exact⟨none,(ok0.empty x c m1).1⟩
   . obtain⟨v,z⟩:=I.cell x c (hcl _ _ q1);exact⟨v,z.keeps hk⟩
 . rcases cases_ x c e with ⟨m1,k1⟩ | ⟨n1,q1⟩
   . exact hfix c (M9 (Nat.lt_add_of_pos_right (by decide)) (isnew _ _ m1))
   . rw[aq (Nl (oldc _ _ q1))];exact I.freeC x c (hcl _ _ q1)
 . exact I.hok.laid hk (MW _) ⟨Nu _,[],0,.nil,hl⟩
 . show(subσ ix σ).length=N.length;unfold subσ;rw[Mr];exact B.len
def PTs(X:Cx)(ifs:List Expr)(t:TT):Prop:=
 ∀(Md:List (Addr × Obj)) (s:Shared) (σ:St) (H:Hp) (Q:Bool->Hp->Prop),Inv X Md σ H s->t σ H Q->
  wpAny (model X.prog X.w) X.A (forIn ifs true fun c r=>if r=true then do let ok ← isTrue c X.env (eval c X.env);pure (ForInStep.yield ok) else pure (ForInStep.yield r)) (TP X Md σ Q) X.xe s
def tTrue:TT:=fun _ H Q=>Q true H
theorem aU{X:Cx}:PTs X [] tTrue:=fun _ _ _ H _ I h=>wpAny_tests_nil ⟨H,I,h⟩
theorem a8{X:Cx}{c:Expr}{t:TT}(h:PT X c t):PTs X [c] t:=fun Md s σ H Q I q=>wpAny_tests_one (h Md s σ H Q I q)
def zV(ix:List (Option Nat))(wi:TI)(g:TG)(tt:TT)(te:TE)(fin:Addr->Hp->Prop):St->Hp->Prop:=fun σ H=>wi σ H fun J H1=>∀ l,H1 l=none->
 ∃ W:Nat->Nat->St->Hp->Prop,(∃ m,W 0 m (subσ ix σ) (upd H1 l (.lst [])))/\∀ i m σ' H',W i m σ' H'->
  (J.stop i H'/\fin l H')\/(J.go i H'/\∃ N:St->Hp->Prop,(∀ σ'' H'',N σ'' H''->∃ m',m'<m/\W (i+1) m' σ'' H'')/\∀ x H2,J.yld i H' x H2->g x σ' H2 fun σ2 H3=>tt σ2 H3 fun b H4=>
   if b=true then te σ2 H4 fun y H5=>∃ ys,H5 l=some (.lst ys)/\ys.length<sizeLine/\N σ2 (upd H5 l (.lst (ys++[y]))) else N σ2 H4)
section
variable{X:Cx}{Md:List (Addr × Obj)}{σ σ':St}{H H':Hp}{s s':Shared}{N:List Str}{scope:Scope}{cl:List (Str × Addr)}{fp:List Addr}
theorem Ck{h':Heap}(I:Inv X Md σ H s)(J:Inv (blkCx X N scope cl s H fp) [] σ' H' s')(hfp:∀ b∈fp,FpOk X Md H b)(sb:Heap.SameBut (s.heap.objs.size+1) s'.heap h'):Inv X Md σ H' {s' with heap:=h'}:=by
 have u:Un (frs X.stack) fp H H' s.heap s'.heap:=J.base;have hC:H' (s.heap.objs.size+1)=none:=J.free;have ne:∀ b o,s.heap.get? b=some o->b≠s.heap.objs.size+1:=fun b o e=>Nl (N0 (M5 e));refine I.call' (s':={s' with heap:=h'}) (ch:=fp) J.os ⟨fun b o e n hb hx=>?_,fun b o e n hb hx=>?_,u.free,fun b o e hx=>?_,u.tups,u.frzs,u.tbls⟩ (fun b ob e=>?_) J.bare fun b hb=>?_
 . exact(sb.2 b (ne b o e)).trans (u.keep b o e n hb hx)
 . obtain⟨sl,q⟩:=u.slot b o e n hb hx;exact⟨sl,(sb.2 b (ne b o e)).trans q⟩
 . obtain⟨o',q⟩:=u.there b o e hx;exact⟨o',(sb.2 b (ne b o e)).trans q⟩
 . refine(J.hok b ob e).stay (fun c w' hc q=>(sb.2 c ?_).trans q) (fun _ q=>q) fun _ _ q=>q;rintro rfl;rcases hc with rfl | hc
   . rw[hC] at e;cases e
   . rw[hC] at hc;cases hc
 . obtain⟨f0,f1,f2,f3,f4,f5⟩:=hfp b hb;exact⟨f3,f1,f4,f5⟩
theorem zW {tg iter elt:Expr} {ifs:List Expr} {pos:Pos} {ix:List (Option Nat)} {wi:TI} {g:TG} {tt:TT} {te:TE} {fin:Addr->Hp->Prop} {RR:Value->Addr->Result->Shared->Prop} (B:BlkOk X N ix scope) (hc:X.calm=true)
  (hi:PI X tg iter wi) (hg:∀ cl s H fp,PG (blkCx X N scope cl s H fp) tg g) (ht:∀ cl s H fp,PTs (blkCx X N scope cl s H fp) ifs tt) (he:∀ cl s H fp,PE (blkCx X N scope cl s H fp) elt te)
  (hcl:∀ x c,cl.lookup x=some c->X.env.cells.lookup x=some c) (hcf:∀ x,(x,NameKind.free)∈scope.names->∃ c,cl.lookup x=some c)
  (I:Inv X Md σ H s) (h:zV ix wi g tt te fin σ H)
  (ok:∀(s2:Shared) (H2:Hp) (fp:List Addr) (σ3:St) (H3:Hp) (s3:Shared),Inv X Md σ H2 s2->(∀ b∈fp,FpOk X Md H2 b)->Inv (blkCx X N scope cl s2 H2 fp) [] σ3 H3 s3->fin s2.heap.objs.size H3->RR (.ref s2.heap.objs.size) (s2.heap.objs.size+1) (.ok .next) s3)
  (bad:∀(a C:Addr) (x:Value) (s':Shared),(∃ m,s'.heap.Ns C m/\∀ h',Heap.SameBut C s'.heap h'->∀ cenv:Env,cenv.locals=C->wpAny (model X.prog X.w) X.A (passOn "comprehension.variables-let-go" x cenv:Sem Value) (fun _ _=>False) X.xe {s' with heap:=h'})->RR (.ref a) C (.error x) s'):
  wpAny (model X.prog X.w) X.A (eval iter X.env) (fun x s₁=>wpAny (model X.prog X.w) X.A (pyIter x) (fun it s₂=>wpAny (model X.prog X.w) X.A (newList []) (fun acc s₃=>
   wpAny (model X.prog X.w) X.A (newFunctionEnv scope X.env.globals cl [] X.env.qual none .none (some X.env)) (fun cenv s₄=>
    codeAny (model X.prog X.w) X.A (.compStart (.ListComp elt [⟨tg,iter,ifs,0⟩] scope pos) 0 it acc {cenv with scope:=relabel scope X.env}) (RR acc cenv.locals) s₄) X.xe s₃) X.xe s₂) X.xe s₁) X.xe s:=by
 refine thn (hi Md s σ H _ I h) fun v s1 h1=>thn h1 fun itv s2 h2=>?_;obtain⟨it,fp,tn,J,H2,e,I2,T,st2,f2,h2⟩:=h2;subst e;refine wpAny_newList (Fy ?_) (Nu _);have hs2:(s2.heap.push {cls:=.type "list",data:=.seq (([]:List Value)).toArray}).objs.size=s2.heap.objs.size+1:=Oj ..;dsimp only;rw[hs2];have I3:=Ei (fp:=fp) B I2 hcl hcf f2 (T.obj _ _ st2);obtain⟨W,⟨m0,w0⟩,turn⟩:=h2 s2.heap.objs.size I2.fresh
 have hk:∀ b o,s2.heap.get? b=some o->(pushCells ((s2.heap.push {cls:=.type "list",data:=.seq #[]}).push {cls:=.type "dict",data:=.dict #[]}) scope.names).get? b=some o:=
  fun b o e=>O9 _ _ b o (MV _ (MV _ e))
 have st3:=T.keep _ _ _ st2 fun b _ o e=>hk b o e
 have fr3:∀ b∈fp,(upd H2 s2.heap.objs.size (.lst [])) b=none:=fun b hb=>by
  obtain⟨o,e,_⟩:=T.obj _ _ st2 b hb;rw[aq (Nl (M5 e))];exact(f2 b hb).1
 have stat:∀{σ5:St} {H5:Hp} {s5:Shared},Inv (blkCx X N scope cl s2 H2 fp) [] σ5 H5 s5->(∀ b∈fp,H5 b=none)->∀ b∈fp,FpOk (blkCx X N scope cl s2 H2 fp) [] H5 b:=fun I5 hn b hb=>
  ⟨hn b hb,(I5.ok.exf b hb).1,I5.ok.exfs b hb,.inl hb,(I5.ok.exf b hb).2,fun p hp=>absurd (show p∈([]:List (Addr × Obj)) from hp) (by simp)⟩
 have loop:∀ s₃:Shared,s₃={s2 with heap:=pushCells ((s2.heap.push {cls:=.type "list",data:=.seq #[]}).push {cls:=.type "dict",data:=.dict #[]}) scope.names}->
   codeAny (model X.prog X.w) X.A (.compLoop (.ListComp elt [⟨tg,iter,ifs,0⟩] scope pos) 0 (.ref it) (.ref s2.heap.objs.size) (blkCx X N scope cl s2 H2 fp).env) (RR (.ref s2.heap.objs.size) (s2.heap.objs.size+1)) s₃:=by
  rintro s₃ rfl;refine Eg (fun n s'=>∃ i σ' H',Inv (blkCx X N scope cl s2 H2 fp) [] σ' H' s'/\tn i s'.heap/\(∀ b∈fp,H' b=none)/\W i n σ' H') ?_ m0 ⟨0,_,_,I3,st3,fr3,w0⟩;rintro n s4 ⟨i,σ4,H4,I4,st4,fr4,w4⟩
  have xe_:∀ x s',(blkCx X N scope cl s2 H2 fp).xe x s'->notedBy (model X.prog X.w) X.A (blkCx X N scope cl s2 H2 fp).env (fun e s'=>RR (.ref s2.heap.objs.size) (s2.heap.objs.size+1) (.error e) s') x s':=fun x s' hx=>
   NF (hx ⟨Md,σ,I2,f2⟩) (fun _ s'' q=>bad _ _ _ _ q) fun e s'' q=>bad _ _ _ _ q
  rcases turn i n σ4 H4 w4 with ⟨stop,qn⟩ | ⟨go,Nx,hN,step⟩
  . refine NF (T.done (blkCx X N scope cl s2 H2 fp) rfl rfl rfl hc i [] s4 σ4 H4 _ I4 (stat I4 fr4) st4 stop) (fun r s5 ⟨hr,I5⟩=>?_) xe_;subst hr;exact ok s2 H2 fp σ4 H4 s5 I2 f2 I5 qn
  . refine NF (T.item (blkCx X N scope cl s2 H2 fp) rfl rfl rfl hc i [] s4 σ4 H4 _ I4 (stat I4 fr4) st4 go) (fun r s5 ⟨u,hr,h5⟩=>?_) xe_;subst hr;refine NF h5 (fun _ s6 ⟨x,H6,I6,r6,y6,st6,fr6⟩=>?_) xe_;have I6':=I6.pinned (stat I6 fr6) (T.obj _ _ st6);refine NF (hg cl s2 H2 fp _ s6 σ4 H6 x u _ I6' r6 (step x H6 y6)) (fun _ s7 ⟨σ7,H7,I7,q7⟩=>?_) xe_
    have again:∀{σ8:St} {H8:Hp} {s8:Shared},Inv (blkCx X N scope cl s2 H2 fp) ([]++qT fp s6.heap) σ8 H8 s8->Nx σ8 H8->∃ m,m<n/\∃ i σ' H',Inv (blkCx X N scope cl s2 H2 fp) [] σ' H' s8/\tn i s8.heap/\(∀ b∈fp,H' b=none)/\W i m σ' H':=fun{σ8 H8 s8} I8 n8=>by
     obtain⟨m',hm,w8⟩:=hN σ8 H8 n8;refine⟨m',hm,i+1,σ8,H8,I8.unpinned,T.keep _ _ _ st6 fun b hb o e=>(I8.pin (b,o) (Np _ (Np _ (lQ hb e)))).1,fun b hb=>?_,w8⟩;obtain⟨o,e,d⟩:=T.obj _ _ st6 b hb;exact(I8.pin (b,o) (Np _ (Np _ (lQ hb e)))).2.1
    refine NF (ht cl s2 H2 fp _ s7 σ7 H7 _ I7 q7) (fun okb s8 ⟨H8,I8,q8⟩=>?_) xe_
    cases okb with
    | false=>exact again I8 q8
    | true=>
     refine NF (he cl s2 H2 fp _ s8 σ7 H8 _ I8 q8) (fun y s9 ⟨yv,H9,I9,r9,ys,hl,hz,q9⟩=>?_) xe_;refine NF (yh (X:=blkCx X N scope cl s2 H2 fp) _ s9 σ7 H9 (.ref s2.heap.objs.size) [yv] (.ref s2.heap.objs.size) [y] (fun _ H10=>Nx σ7 H10) I9 rfl (.cons r9 .nil) ⟨_,ys,yv,rfl,rfl,hl,hz,q9⟩) (fun _ s10 ⟨_,H10,I10,_,q10⟩=>?_) xe_;exact again I10 q10
 exact codeAny_compStart_list (loop _ rfl) (T.self _ 0 _ _ _ st3 (loop _ rfl))
def tComp(ix:List (Option Nat))(wi:TI)(g:TG)(tt:TT)(te:TE):TE:=fun σ H Q=>zV ix wi g tt te (fun l H'=>Q (.ref l) H') σ H
def sComp(k:Nat)(ix:List (Option Nat))(wi:TI)(g:TG)(tt:TT)(te:TE):TS:=fun D σ H=>zV ix wi g tt te (fun l H'=>D.nx (σ.set k (some (.ref l))) H') σ H
theorem Cl(I:Inv X Md σ H s){ix:List (Option Nat)}(B:BlkOk X N ix scope):∃ cl,closureFor scope X.env=pure cl/\(∀ x c,cl.lookup x=some c->X.env.cells.lookup x=some c)/\∀ x,(x,NameKind.free)∈scope.names->∃ c,cl.lookup x=some c:=
 CY fun x hx=>I.ok.has x (B.free x hx)
theorem tT{ix:List (Option Nat)}(B:BlkOk X N ix scope):∀ x∈scope.names,x.2=NameKind.local->scope.names.lookup x.1=some .local:=fun x hx e=>by
 obtain⟨n,k⟩:=x;cases e;exact eF B.names hx
theorem aG {tg iter elt:Expr} {ifs:List Expr} {pos:Pos} {ix:List (Option Nat)} {wi:TI} {g:TG} {tt:TT} {te:TE} (N:List Str) (B:BlkOk X N ix scope) (hc:X.calm=true)
  (hi:PI X tg iter wi) (hg:∀ cl s H fp,PG (blkCx X N scope cl s H fp) tg g) (ht:∀ cl s H fp,PTs (blkCx X N scope cl s H fp) ifs tt) (he:∀ cl s H fp,PE (blkCx X N scope cl s H fp) elt te)
  (hs:∀ x,foldedSetIterable iter X.env x=pure x:=by intro _;rfl):PE X (.ListComp elt [⟨tg,iter,ifs,0⟩] scope pos) (tComp ix wi g tt te):=by
 intro Md s σ H Q I h;obtain⟨cl,e1,e2,e3⟩:=Cl I B;rw[eval_ListComp];refine PD (use:=none) rfl hs e1 B.kind (tT B) ?_;refine zW (RR:=fun acc C=>compPost (model X.prog X.w) X.A X.xe none (EP X Md σ Q) acc C) B hc hi hg ht he e2 e3 I h (fun s2 H2 fp σ3 H3 s3 I2 f2 J q=>?_) (fun a C x s' q=>q);obtain⟨m,hn,_⟩:=J.loc;exact⟨m,hn,fun h' sb=>⟨.ref _,H3,Ck I2 J f2 sb,rfl,q⟩⟩
theorem j7 {y:Str} {py spos:Pos} {k:Nat} {tg iter elt:Expr} {ifs:List Expr} {pos:Pos} {ix:List (Option Nat)} {wi:TI} {g:TG} {tt:TT} {te:TE} (hN:X.N.Nodup) (hy:X.N[k]? =some y) (hx:Loc X.env.scope y)
  (hsw:swapsWith (.ListComp elt [⟨tg,iter,ifs,0⟩] scope pos) (some (.Name y py)) spos.line X.env=pure true) (N:List Str) (B:BlkOk X N ix scope) (hc:X.calm=true)
  (hi:PI X tg iter wi) (hg:∀ cl s H fp,PG (blkCx X N scope cl s H fp) tg g) (ht:∀ cl s H fp,PTs (blkCx X N scope cl s H fp) ifs tt) (he:∀ cl s H fp,PE (blkCx X N scope cl s H fp) elt te)
  (hs:∀ x,foldedSetIterable iter X.env x=pure x:=by intro _;rfl) (hf:X.fn y=true\/X.env.scope.names.lookup y=some .local:=by first | exact .inl rfl | exact .inr rfl | assumption):
  PS X (.Assign [.Name y py] (.ListComp elt [⟨tg,iter,ifs,0⟩] scope pos) spos) (sComp k ix wi g tt te):=by
 intro Md s σ H D I h;obtain⟨cl,e1,e2,e3⟩:=Cl I B;rw[exec_Assign_Name_used _ _ _ _ hsw];refine Nb (Qd (Nb ?_));show wpAny _ X.A (do let _ ← comprehension (.ListComp elt [⟨tg,iter,ifs,0⟩] scope pos) scope X.env _ (newList []) false (eval iter X.env) (some (assign (.Name y py) X.env))) _ _ s;refine Nb (NF (PD (use:=some (assign (.Name y py) X.env)) (Q:=fun _ s'=>SP X Md D .next s') rfl hs e1 B.kind (tT B) ?_) (fun _ s' hq=>No (No hq)) fun _ _ e=>e);refine zW (RR:=fun acc C=>compPost (model X.prog X.w) X.A X.xe (some (assign (.Name y py) X.env)) (fun _ s'=>SP X Md D .next s') acc C) B hc hi hg ht he e2 e3 I h (fun s2 H2 fp σ3 H3 s3 I2 f2 J q=>?_) (fun a C x s' q=>q);obtain⟨m,hn,_⟩:=J.loc;have I3:Inv X Md σ H3 {s3 with heap:=s3.heap}:=Ck I2 J f2 (Heap.SameBut.refl _ _);show wpAny _ X.A (assign (.Name y py) X.env (.ref _)) _ _ _;refine wpAny_assign_Name (xZ (v:=.ref _) I3 hN hy hx rfl (fun s4 I4 ⟨a,sb4,ha⟩=>?_) hf)
 have hlt:a<s2.heap.objs.size:=by
  rcases ha with rfl | ha
  . exact I2.lt
  . obtain⟨v,z⟩:=I2.cell _ _ ha;exact z.lt
 have hCa:s2.heap.objs.size+1≠a:=Ph (N0 hlt);refine⟨m,hn.sameBut sb4 hCa,fun h' sb=>?_⟩;refine⟨_,H3,I4.turned (t':=s4.toks) (it:=s2.heap.objs.size+1) (fun b o hb e=>(sb.2 b hb).trans e) J.free (Ph (N0 I2.lt)) (.inr (ML I2.sz (O4 _))) (fun x c e=>?_) (fun p hp=>?_),q⟩
 . obtain⟨v,z⟩:=I2.cell x c e;exact Nl (N0 z.lt)
 . exact Nl (N0 (M5 (I2.pin p hp).1))
end
def bnd{α:Type}:Option α->(α->Prop)->Prop
 | some a,k=>k a
 | none,_=>False
theorem ba{α:Type}{o:Option α}{a:α}{k:α->Prop}(h:o=some a)(q:k a):bnd o k:=by subst h;exact q
theorem bb{α:Type}{o:Option α}{k:α->Prop}(h:bnd o k):∃ a,o=some a/\k a:=by
 cases o with
 | none=>exact h.elim
 | some a=>exact⟨a,rfl,h⟩
theorem bB{α:Type}{a:α}{k:α->Prop}:bnd (some a) k=k a:=rfl
def unM:Option HO->Option (List V)
 | some (.lst xs)=>some xs
 | _=>none
def unL:Option HO->Option (List V)
 | some (.lst xs)=>some xs
 | some (.frz _ (.lst xs))=>some xs
 | _=>none
def unS:Option HO->Option (List V)
 | some (.lst xs)=>some xs
 | some (.frz _ (.lst xs))=>some xs
 | some (.tup xs)=>some xs
 | _=>none
variable{o:Option HO}{xs:List V}
theorem gU(h:unM o=some xs):o=some (.lst xs):=by
 unfold unM at h;split at h
 . cases h;rfl
 . cases h
theorem ra{K:Frag}{H:Hp}{p:Addr}(h:unL (H p)=some xs):SqL K H p xs:=by
 unfold unL at h;split at h
 . rename_i e;cases h;exact .inl (.inl e)
 . rename_i o _ e;cases h;exact .inl (.inr ⟨_,e⟩)
 . cases h
theorem oT{K:Frag}{H:Hp}{p:Addr}(h:unS (H p)=some xs):SqL K H p xs\/SqT K H p xs:=by
 unfold unS at h;split at h
 . rename_i e;cases h;exact .inl (.inl (.inl e))
 . rename_i o _ e;cases h;exact .inl (.inl (.inr ⟨_,e⟩))
 . rename_i e;cases h;exact .inr (.inl (.inl e))
 . cases h
mutual
inductive DV(K:Frag)(H:Hp):V->PyData->Prop
 | non:DV K H .non .none
 | bl (b:Bool):DV K H (.bl b) (.bool b)
 | int (i:Int):DV K H (.int i) (.int i)
 | str (x:Str):DV K H (.str x) (.str x)
 | lst {a:Addr} {xs:List V} {ds:List PyData}:SqL K H a xs->DVs K H xs ds->DV K H (.ref a) (.list ds)
 | tup {a:Addr} {xs:List V} {ds:List PyData}:SqT K H a xs->DVs K H xs ds->DV K H (.ref a) (.tuple ds)
inductive DVs(K:Frag)(H:Hp):List V->List PyData->Prop
 | nil:DVs K H [] []
 | cons {x:V} {d:PyData} {xs:List V} {ds:List PyData}:DV K H x d->DVs K H xs ds->DVs K H (x::xs) (d::ds)
end
section
variable{X:Cx}{Md:List (Addr × Obj)}{σ:St}{H:Hp}{s:Shared}
mutual
theorem DV.reads(I:Inv X Md σ H s):∀{x:V} {d:PyData} {v:Value},DV X.K H x d->RelV x v->∃ as,Reads s.heap v d as
 | _,_,_,.non,r=>by cases r;exact⟨_,.none⟩
 | _,_,_,.bl b,r=>by cases r;exact⟨_,.bool b⟩
 | _,_,_,.int i,r=>by obtain⟨t,rfl⟩:=r;exact⟨_,.int i t⟩
 | _,_,_,.str x,r=>by obtain⟨t,rfl⟩:=r;exact⟨_,.str x t⟩
 | _,_,_,.lst (a:=a) h hs,r=>by
  cases r;obtain⟨Mi,rv,p,_⟩:=I.list h;obtain⟨as,q⟩:=DVs.reads I hs rv;obtain⟨o,h1,h2,n,h3⟩:=p.isList;exact⟨_,.list h1 h2 h3 q⟩
 | _,_,_,.tup (a:=a) h hs,r=>by
  cases r;obtain⟨Mi,rv,p,_⟩:=I.tuple h;obtain⟨as,q⟩:=DVs.reads I hs rv;obtain⟨o,h1,h2,n,h3⟩:=p;exact⟨_,.tuple h1 h2 h3 q⟩
theorem DVs.reads(I:Inv X Md σ H s):∀{xs:List V} {ds:List PyData} {us:List Value},DVs X.K H xs ds->Vals xs us->∃ as,ReadsAll s.heap us ds as
 | _,_,_,.nil,.nil=>⟨_,.nil⟩
 | _,_,_,.cons h hs,.cons r rs=>by
  obtain⟨as,q⟩:=DV.reads I h r;obtain⟨bs,q2⟩:=DVs.reads I hs rs;exact⟨_,.cons q q2⟩
end
end
theorem DVs.ints{K:Frag}{H:Hp}:∀ ns:List Int,DVs K H (ns.map V.int) (ns.map PyData.int)
 | []=>.nil
 | n::r=>.cons (.int n) (DVs.ints r)
theorem uv:∀ ns ms:List Int,PyData.eqvAll (ns.map PyData.int) (ms.map PyData.int)=decide (ns=ms):=PySem.W.ked_eqvAll
theorem mf:∀ ns:List Int,PyData.canLayAll0 (ns.map PyData.int)=true
 | []=>rfl
 | n::r=>by rw[M4,PyData.canLayAll0,mf r];rfl
theorem iY:∀ ns:List Int,PyData.depthAll (ns.map PyData.int)=0
 | []=>rfl
 | n::r=>by rw[M4,PyData.depthAll,iY r];rfl
theorem kF(ns:List Int):SeqAt.shaped (.list (ns.map PyData.int))=true:=by
 simp[SeqAt.shaped,PyData.canLay0,mf,PyData.depth,iY]
def cAdd:R2
 | .int i,.int j,H,Q=>Q (.int (i+j)) H
 | .str i,.str j,H,Q=>i.length+j.length<=sizeLine/\Q (.str (i++j)) H
 | .ref l,.ref b,H,Q=>bnd (unM (H l)) fun xs=>bnd (unM (H b)) fun zs=>xs.length+zs.length<=sizeLine/\∀ p,H p=none->Q (.ref p) (upd H p (.lst (xs++zs)))
 | _,_,_,_=>False
def cSub:R2
 | .int i,.int j,H,Q=>Q (.int (i-j)) H
 | _,_,_,_=>False
def cMul:R2
 | .int i,.int j,H,Q=>CMul i j/\Q (.int (i*j)) H
 | _,_,_,_=>False
def cDiv:R2
 | .int i,.int j,H,Q=>CDiv i j/\Q (.int (i/j)) H
 | _,_,_,_=>False
def cMod:R2
 | .int i,.int j,H,Q=>0<j/\Q (.int (i%j)) H
 | _,_,_,_=>False
def cPow:R2
 | .int i,.int j,H,Q=>CPow i j/\Q (.int (i^j.toNat)) H
 | _,_,_,_=>False
def cCmp(g:Int->Int->Bool):R2
 | .int i,.int j,H,Q=>Q (.bl (g i j)) H
 | _,_,_,_=>False
def rEqD(K:Frag):R2:=fun x y H Q=>∃ d e,DV K H x d/\DV K H y e/\SeqAt.shaped d=true/\SeqAt.shaped e=true/\Q (.bl (PyData.eqv d e)) H
def rNeD(K:Frag):R2:=fun x y H Q=>∃ d e,DV K H x d/\DV K H y e/\SeqAt.shaped d=true/\SeqAt.shaped e=true/\Q (.bl (!PyData.eqv d e)) H
def cEq(K:Frag):R2
 | .int i,.int j,H,Q=>Q (.bl (decide (i=j))) H
 | .bl i,.bl j,H,Q=>Q (.bl (decide (i=j))) H
 | .str i,.str j,H,Q=>Q (.bl (decide (i=j))) H
 | x,y,H,Q=>rEqD K x y H Q
def cNe(K:Frag):R2
 | .int i,.int j,H,Q=>Q (.bl (!decide (i=j))) H
 | .bl i,.bl j,H,Q=>Q (.bl (!decide (i=j))) H
 | .str i,.str j,H,Q=>Q (.bl (!decide (i=j))) H
 | x,y,H,Q=>rNeD K x y H Q
def rInD(K:Frag)(neg:Bool):R2:=fun x y H Q=>∃ d ds,DV K H x d/\(DV K H y (.list ds)\/DV K H y (.tuple ds))/\PyData.canLayAll0 ds=true/\PyData.canLay0 d=true/\min (PyData.depthAll ds) d.depth<=62/\
 Q (.bl (if neg then !ds.any (fun y=>PyData.eqv y d) else ds.any fun y=>PyData.eqv y d)) H
def keyOf:V->Option Key
 | .int i=>some (.inl i)
 | .str x=>some (.inr x)
 | _=>none
def unD:Option HO->Option (List (Key × V))
 | some (.dK Mh)=>some Mh
 | _=>none
def cIn(K:Frag)(neg:Bool):R2
 | .ref a,y,H,Q=>rInD K neg (.ref a) y H Q
 | x,.ref p,H,Q=>(match unD (H p) with
  | some Mh=>bnd (keyOf x) fun k=>Q (.bl (if neg then !(valV Mh k).isSome else(valV Mh k).isSome)) H
  | none=>bnd (unS (H p)) fun xs=>flatV x=true/\xs.all flatV=true/\Q (.bl (if neg then !inV x xs else inV x xs)) H)
 | .str i,.str j,H,Q=>Q (.bl (if neg then !(!(Builtin.Str.occurrences j i 0 j.length 1).isEmpty) else !(Builtin.Str.occurrences j i 0 j.length 1).isEmpty)) H
 | _,_,_,_=>False
def cIx:R2
 | .ref p,y,H,Q=>(match unD (H p) with
  | some Mh=>bnd (keyOf y) fun k=>bnd (valV Mh k) fun v=>Q v H
  | none=>match y with
   | .int i=>bnd (unS (H p)) fun xs=>bnd (atI xs i) fun v=>Q v H
   | _=>False)
 | .str z,.int i,H,Q=>z.length<=sizeLine/\bnd (atI z.cps.toList i) fun c=>Q (.str ⟨#[c]⟩) H
 | _,_,_,_=>False
theorem vh{Mh:List (Key × V)}(h:unD o=some Mh):o=some (.dK Mh):=by
 unfold unD at h;split at h
 . cases h;rfl
 . cases h
theorem uw{x:V}{k:Key}(h:keyOf x=some k):x=kV k:=by
 unfold keyOf at h;split at h
 . cases h;rfl
 . cases h;rfl
 . cases h
section
variable{X:Cx}{a b c:Expr}{ta tb tc:TE}{pos:Pos}
theorem aH:OpR X (binaryOp .Add) cAdd:=by
 intro Md s σ H x y v u Q I rx ry h;unfold cAdd at h
 split at h
 . exact Ho Md s σ H _ _ v u Q I rx ry ⟨_,_,rfl,rfl,h⟩
 . exact CQ Md s σ H _ _ v u Q I rx ry ⟨_,_,rfl,rfl,h.1,h.2⟩
 . obtain⟨xs,e1,h⟩:=bb h;obtain⟨zs,e2,h⟩:=bb h;exact HA Md s σ H _ _ v u Q I rx ry ⟨_,_,xs,zs,rfl,rfl,gU e1,gU e2,h.1,h.2⟩
 . exact h.elim
theorem b4:OpR X (binaryOp .Sub) cSub:=by
 intro Md s σ H x y v u Q I rx ry h;unfold cSub at h
 split at h
 . exact Hq Md s σ H _ _ v u Q I rx ry ⟨_,_,rfl,rfl,h⟩
 . exact h.elim
theorem cV:OpR X (binaryOp .Mult) cMul:=by
 intro Md s σ H x y v u Q I rx ry h;unfold cMul at h
 split at h
 . exact Hr Md s σ H _ _ v u Q I rx ry ⟨_,_,rfl,rfl,h.1,h.2⟩
 . exact h.elim
theorem j8:OpR X (binaryOp .FloorDiv) cDiv:=by
 intro Md s σ H x y v u Q I rx ry h;unfold cDiv at h
 split at h
 . exact Gj Md s σ H _ _ v u Q I rx ry ⟨_,_,rfl,rfl,h.1,h.2⟩
 . exact h.elim
theorem bh:OpR X (binaryOp .Mod) cMod:=by
 intro Md s σ H x y v u Q I rx ry h;unfold cMod at h
 split at h
 . exact Hs Md s σ H _ _ v u Q I rx ry ⟨_,_,rfl,rfl,h.1,h.2⟩
 . exact h.elim
theorem Gz:OpR X (binaryOp .Pow) cPow:=by
 intro Md s σ H x y v u Q I rx ry h;unfold cPow at h
 split at h
 . exact Ht Md s σ H _ _ v u Q I rx ry ⟨_,_,rfl,rfl,h.1,h.2⟩
 . exact h.elim
theorem sV{op:CmpOp}{g:Int->Int->Bool}(o:OpR X (compareOp op) (rI0 fun i j=>.bl (g i j))):OpR X (compareOp op) (cCmp g):=by
 intro Md s σ H x y v u Q I rx ry h;unfold cCmp at h
 split at h
 . exact o Md s σ H _ _ v u Q I rx ry ⟨_,_,rfl,rfl,h⟩
 . exact h.elim
theorem bW:OpR X (compareOp .Lt) (cCmp fun i j=>decide (i<j)):=sV IO
theorem gW:OpR X (compareOp .LtE) (cCmp fun i j=>decide (i<=j)):=sV IP
theorem cx:OpR X (compareOp .Gt) (cCmp fun i j=>decide (j<i)):=sV IQ
theorem vi:OpR X (compareOp .GtE) (cCmp fun i j=>decide (j<=i)):=sV IR
theorem HE(hu:X.A.units+64<cLine):OpR X (compareOp .Eq) (rEqD X.K):=by
 intro Md s σ H x y v u Q I rx ry h;obtain⟨d,e,h1,h2,h3,h4,q⟩:=h;obtain⟨as,r1⟩:=h1.reads I rx;obtain⟨bs,r2⟩:=h2.reads I ry;exact eq_dataH r1 r2 h3 h4 hu ⟨.bl _,H,I,rfl,q⟩
theorem HF(hu:X.A.units+64<cLine):OpR X (compareOp .NotEq) (rNeD X.K):=by
 intro Md s σ H x y v u Q I rx ry h;obtain⟨d,e,h1,h2,h3,h4,q⟩:=h;obtain⟨as,r1⟩:=h1.reads I rx;obtain⟨bs,r2⟩:=h2.reads I ry;exact ne_dataH r1 r2 h3 h4 hu ⟨.bl _,H,I,rfl,q⟩
theorem ax(hu:X.A.units+64<cLine):OpR X (compareOp .Eq) (cEq X.K):=by
 intro Md s σ H x y v u Q I rx ry h;unfold cEq at h
 split at h
 . refine CO Md s σ H _ _ v u Q I rx ry ⟨rfl,?_⟩
   simpa using h
 . refine CO Md s σ H _ _ v u Q I rx ry ⟨rfl,?_⟩
   simpa using h
 . refine CO Md s σ H _ _ v u Q I rx ry ⟨rfl,?_⟩
   simpa using h
 . exact HE hu Md s σ H _ _ v u Q I rx ry h
theorem aV(hu:X.A.units+64<cLine):OpR X (compareOp .NotEq) (cNe X.K):=by
 intro Md s σ H x y v u Q I rx ry h;unfold cNe at h
 split at h
 . refine CP Md s σ H _ _ v u Q I rx ry ⟨rfl,?_⟩
   simpa using h
 . refine CP Md s σ H _ _ v u Q I rx ry ⟨rfl,?_⟩
   simpa using h
 . refine CP Md s σ H _ _ v u Q I rx ry ⟨rfl,?_⟩
   simpa using h
 . exact HF hu Md s σ H _ _ v u Q I rx ry h
theorem HG(hu:X.A.units+64<cLine):OpR X (compareOp .In) (rInD X.K false):=by
 intro Md s σ H x y v u Q I rx ry h;obtain⟨d,ds,h1,h2,h3,h4,h5,q⟩:=h;obtain⟨as,r1⟩:=h1.reads I rx;rcases h2 with h2 | h2
 . obtain⟨bs,r2⟩:=h2.reads I ry;exact SeqAt.in_list_reads r2 r1 h3 h4 (by omega) ⟨.bl _,H,I,rfl,q⟩
 . obtain⟨bs,r2⟩:=h2.reads I ry;exact SeqAt.in_tuple_reads r2 r1 h3 h4 (by omega) ⟨.bl _,H,I,rfl,q⟩
theorem Ej(hu:X.A.units+64<cLine):OpR X (compareOp .NotIn) (rInD X.K true):=by
 intro Md s σ H x y v u Q I rx ry h;obtain⟨d,ds,h1,h2,h3,h4,h5,q⟩:=h;obtain⟨as,r1⟩:=h1.reads I rx;rcases h2 with h2 | h2
 . obtain⟨bs,r2⟩:=h2.reads I ry;exact SeqAt.notIn_list_reads r2 r1 h3 h4 (by omega) ⟨.bl _,H,I,rfl,q⟩
 . obtain⟨bs,r2⟩:=h2.reads I ry;exact SeqAt.notIn_tuple_reads r2 r1 h3 h4 (by omega) ⟨.bl _,H,I,rfl,q⟩
theorem fO(hu:X.A.units+64<cLine):OpR X (compareOp .In) (cIn X.K false):=by
 intro Md s σ H x y v u Q I rx ry h;unfold cIn at h
 split at h
 . exact HG hu Md s σ H _ _ v u Q I rx ry h
 . rename_i p hx
   split at h
   . rename_i Mh e
     obtain⟨k,ek,q⟩:=bb h;cases (show u=Value.ref p from ry);have g:DGet H p x (valV Mh k):=by rw[uw ek];exact DGet.k (vh e)
     exact Jh (NG (OE (by decide:1<=64) _) hu) I g rx fun s' I'=>⟨.bl _,H,I',rfl,q⟩
   . obtain⟨xs,e,f1,f2,q⟩:=bb h;exact ng Md s σ H _ _ v u Q I rx ry ⟨p,xs,rfl,oT e,f1,f2,q⟩
 . exact DP Md s σ H _ _ v u Q I rx ry ⟨_,_,rfl,rfl,h⟩
 . exact h.elim
theorem cg(hu:X.A.units+64<cLine):OpR X (compareOp .NotIn) (cIn X.K true):=by
 intro Md s σ H x y v u Q I rx ry h;unfold cIn at h
 split at h
 . exact Ej hu Md s σ H _ _ v u Q I rx ry h
 . rename_i p hx
   split at h
   . rename_i Mh e
     obtain⟨k,ek,q⟩:=bb h;cases (show u=Value.ref p from ry);have g:DGet H p x (valV Mh k):=by rw[uw ek];exact DGet.k (vh e)
     exact Gy (NG (OE (by decide:1<=64) _) hu) I g rx fun s' I'=>⟨.bl _,H,I',rfl,q⟩
   . obtain⟨xs,e,f1,f2,q⟩:=bb h;exact qX Md s σ H _ _ v u Q I rx ry ⟨p,xs,rfl,oT e,f1,f2,q⟩
 . exact zR Md s σ H _ _ v u Q I rx ry ⟨_,_,rfl,rfl,h⟩
 . exact h.elim
end
section
variable{X:Cx}{a b c:Expr}{ta tb tc:TE}{pos:Pos}
theorem HH(hu:X.A.units+64<cLine):IxR X cIx:=by
 intro value slice Md s σ H x y v u Q I rx ry h hs
 cases x with
 | ref p=>
  unfold cIx at h;dsimp only at h
  split at h
  . rename_i Mh e
    obtain⟨k,ek,h⟩:=bb h;obtain⟨z,ez,q⟩:=bb h;cases (show v=Value.ref p from rx);have g:DGet H p y (some z):=by rw[uw ek,← ez];exact DGet.k (vh e)
    exact tail_any (BF I g) Pr.lookup (Eb (NG (OE (by decide:1<=64) _) hu) I g ry fun w' s3 I3 rw'=>⟨z,H,I3,rw',q⟩) hs
  . split at h
    . obtain⟨xs,e,h⟩:=bb h;obtain⟨z,ez,q⟩:=bb h;rcases oT (K:=X.K) e with r | r
      . exact Ci value slice Md s σ H _ _ v u Q I rx ry ⟨p,xs,_,z,rfl,rfl,r,ez,q⟩ hs
      . exact Hw value slice Md s σ H _ _ v u Q I rx ry ⟨p,xs,_,z,rfl,rfl,r,ez,q⟩ hs
    . exact h.elim
 | str zz=>
  cases y with
  | int i=>
   obtain⟨hz,h⟩:=(show zz.length<=sizeLine/\bnd (atI zz.cps.toList i) fun c=>Q (.str ⟨#[c]⟩) H from h);obtain⟨z,ez,q⟩:=bb h;exact Hx value slice Md s σ H _ _ v u Q I rx ry ⟨_,_,z,rfl,rfl,hz,ez,q⟩ hs
  | _=>exact False.elim h
 | _=>exact False.elim h
def kLen:List V->Hp->VK->Prop
 | [.ref p],H,Q=>(match unD (H p) with
  | some Mh=>Q (.int Mh.length) H
  | none=>bnd (unS (H p)) fun xs=>Q (.int xs.length) H)
 | [.str z],H,Q=>z.length<=sizeLine/\Q (.int z.length) H
 | _,_,_=>False
theorem aF:CallR X (.builtin "len") kLen:=by
 intro Md s σ H xs us Q I r h;unfold kLen at h
 split at h
 . split at h
   . rename_i Mh e
     exact Ed Md s σ H _ us Q I r ⟨_,Mh,rfl,vh e,h⟩
   . obtain⟨ys,e,q⟩:=bb h;exact iX Md s σ H _ us Q I r ⟨_,ys,rfl,oT e,q⟩
 . exact zS Md s σ H _ us Q I r ⟨_,rfl,h.1,h.2⟩
 . exact h.elim
def kAbs:List V->Hp->VK->Prop
 | [.int i],H,Q=>Q (.int (if i<0 then -i else i)) H
 | _,_,_=>False
def kMin:List V->Hp->VK->Prop
 | [.int i,.int j],H,Q=>Q (.int (if j<i then j else i)) H
 | _,_,_=>False
def kMax:List V->Hp->VK->Prop
 | [.int i,.int j],H,Q=>Q (.int (if j>i then j else i)) H
 | _,_,_=>False
theorem Ek(hc:X.calm=true):CallR X (.builtin "max") kMax:=by
 intro Md s σ H xs us Q I r h;unfold kMax at h
 split at h
 . exact DQ hc Md s σ H _ us Q I r ⟨_,_,rfl,h⟩
 . exact h.elim
def kList:List V->Hp->VK->Prop
 | [.ref p],H,Q=>bnd (unS (H p)) fun ys=>∀ l,H l=none->Q (.ref l) (upd H l (.lst ys))
 | _,_,_=>False
theorem cY:CallR X (.type "list") kList:=by
 intro Md s σ H xs us Q I r h;unfold kList at h
 split at h
 . obtain⟨ys,e,q⟩:=bb h;exact qY Md s σ H _ us Q I r ⟨_,ys,rfl,oT e,q⟩
 . exact h.elim
def eI:List V->Hp->VK->Prop
 | [.ref p],H,Q=>bnd (unL (H p)) fun ys=>∃ ns:List Int,ys=ns.map V.int/\ns.length<64/\∀(ns':List Int) l,H l=none->ns'.Perm ns->ns'.Pairwise (· <=·)->Q (.ref l) (upd H l (.lst (ns'.map V.int)))
 | _,_,_=>False
theorem iZ:CallR X (.builtin "sorted") eI:=by
 intro Md s σ H xs us Q I r h;unfold eI at h
 split at h
 . rename_i p
   obtain⟨ys,e,ns,rfl,Mn,q⟩:=bb h;obtain⟨u,rfl,ru⟩:=cX r;cases ru;obtain⟨Mi,rv,pl,hz⟩:=I.list (ra e);have hI:IntsAre Mi ns:=ve rv;have hl:=rv.length;rw[Mr] at hl;refine sorted_ints pl.isList hI (by omega) fun out ns' hI' hp hs=>?_;have old:∀ b o,s.heap.get? b=some o->(sortedAll s.heap Mi out).get? b=some o:=fun b o e=>sortedAll_old e;obtain⟨n,at_⟩:=sortedAll_at s.heap Mi out;have hfresh:H (s.heap.objs.size+1)=none:=I.hok.fresh (O4 _)
   have hlen':(ns'.map V.int).length<=sizeLine:=by
    rw[Mr,hp.length_eq];exact Nj (Nat.lt_trans Mn (by decide))
   refine⟨.ref (s.heap.objs.size+1),_,I.laid (t':=s.toks) (a:=s.heap.objs.size+1) (o:=.lst (ns'.map V.int)) old (O4 _) ⟨hlen',out.toList,n,qZ hI',?_⟩,rfl,q ns' _ hfresh hp hs⟩;rw[at_]
 . exact h.elim
def mh(H:Hp):V->Option String
 | .non=>some "NoneType"
 | .bl _=>some "bool"
 | .int _=>some "int"
 | .str _=>some "str"
 | .ref p=>match H p with
  | some (.lst _)=>some "list"
  | some (.frz _ (.lst _))=>some "list"
  | some (.tup _)=>some "tuple"
  | some (.dK _)=>some "dict"
  | _=>none
 | _=>none
def isTy(t n:String):Bool:=t==n||(t=="bool"&&n=="int")
def sW(n:String):Bool:=["int","bool","str","list","tuple","dict"].contains n
theorem El{K:Frag}{H:Hp}{x:V}{t:String}(h:mh H x=some t):TyOf K H x (.type t)/\["NoneType","int","bool","str","list","tuple","dict"].contains t=true:=by
 cases x with
 | non=>cases h;exact⟨.non,by decide⟩
 | bl b=>cases h;exact⟨.bl b,by decide⟩
 | int i=>cases h;exact⟨.int i,by decide⟩
 | str i=>cases h;exact⟨.str i,by decide⟩
 | byt _=>cases h
 | flt _=>cases h
 | ty _=>cases h
 | ref p=>
  unfold mh at h;dsimp only at h
  split at h
  . rename_i e;cases h;exact⟨.lst e,by decide⟩
  . rename_i e;cases h;exact⟨.frz e,by decide⟩
  . rename_i e;cases h;exact⟨.tup e,by decide⟩
  . rename_i e;cases h;exact⟨.dK e,by decide⟩
  . cases h
theorem HI(K:Frag):∀ t∈["NoneType","int","bool","str","list","tuple","dict"],∀ n∈["int","bool","str","list","tuple","dict"],PySem.W.kitOne K (.type t) (.type n)=some (isTy t n):=by
 intro t ht n hn;simp only[MS,NP,O5] at ht hn;rcases ht with rfl | rfl | rfl | rfl | rfl | rfl | rfl <;> rcases hn with rfl | rfl | rfl | rfl | rfl | rfl <;> rfl
def kIsi:List V->Hp->VK->Prop
 | [x,.ty n],H,Q=>sW n=true/\bnd (mh H x) fun t=>Q (.bl (isTy t n)) H
 | _,_,_=>False
theorem bX:CallR X (.builtin "isinstance") kIsi:=by
 intro Md s σ H xs us Q I r h;unfold kIsi at h
 split at h
 . obtain⟨hn,h⟩:=h;obtain⟨t,et,q⟩:=bb h;obtain⟨u,w,rfl,ru,rw'⟩:=F5 r;cases rw';obtain⟨ty,ht⟩:=El (K:=X.K) et;exact DT I ru ty (HI X.K t (by simpa using ht) _ (by simpa [sW] using hn)) fun tk=>⟨.bl _,H,I.tok tk,rfl,q⟩
 . exact h.elim
def bo:V->List V->Hp->VK->Prop
 | .ref l,[y],H,Q=>bnd (unM (H l)) fun xs=>xs.length<sizeLine/\Q .non (upd H l (.lst (xs++[y])))
 | _,_,_,_=>False
theorem bH:MtR X "list.append" bo:=by
 intro Md s σ H x vs v us Q I rx rv h;unfold bo at h
 split at h
 . obtain⟨xs,e,h1,q⟩:=bb h;exact yh Md s σ H _ _ v us Q I rx rv ⟨_,xs,_,rfl,rfl,gU e,h1,q⟩
 . exact h.elim
def ma:V->List V->Hp->VK->Prop
 | .ref l,[.ref b],H,Q=>bnd (unM (H l)) fun xs=>bnd (unM (H b)) fun zs=>xs.length+zs.length<=sizeLine/\Q .non (upd H l (.lst (xs++zs)))
 | _,_,_,_=>False
theorem vj:MtR X "list.extend" ma:=by
 intro Md s σ H x vs v us Q I rx rv h;unfold ma at h
 split at h
 . obtain⟨xs,e,h⟩:=bb h;obtain⟨zs,e2,h1,q⟩:=bb h;exact DZ Md s σ H _ _ v us Q I rx rv ⟨_,_,xs,zs,rfl,rfl,gU e,gU e2,h1,q⟩
 . exact h.elim
theorem bq{K:Frag}{H:Hp}{p:Addr}{xs:List V}(h:H p=some (.lst xs)):tyV K "list" (.ref p) H:=.inl ⟨rfl,_,MO h⟩
def cSl:V->Option Int->Option Int->Hp->VK->Prop
 | .ref p,lo,hi,H,Q=>bnd (unL (H p)) fun xs=>∀ l,H l=none->Q (.ref l) (upd H l (.lst (cutV xs lo hi)))
 | _,_,_,_,_=>False
theorem Ji:SlR X cSl:=by
 intro Md s σ H x v vl vu lo hi sl Q I rx hs pl pu h;unfold cSl at h
 split at h
 . obtain⟨xs,e,q⟩:=bb h;exact Gs Md s σ H _ v vl vu lo hi sl Q I rx hs pl pu ⟨_,xs,rfl,ra e,q⟩
 . exact h.elim
end
structure Cal(P:Program)(w:World)(K:Frag)(mg:Str->Option Value)(base:Heap)(k:Nat)(x:Str)(ps:List Str)(sp:Sp):Prop where
 ex:∃(f:Addr) (fd:FuncData),FnOk P w K mg base CX0 k f fd ps sp/\mg x=some (.ref f)/\keepIn K (.ref f)=true/\Binds K fd ps []
theorem HJ {X:Cx} {k n:Nat} {x:Str} {ps:List Str} {sp:Sp} {p pos:Pos} {e:Expr} {es:List Expr} {t:TA} (C:Cal X.prog X.w X.K X.mg X.base k x ps sp) (hr:Room n X.A) (hk:k<=n) (hg:Gl X x) (ha:PA X (e::es) t)
  (hdb:(x==("__debug__":Str))=false:=by decide) (he:starEach (e::es) X.env=(false,eval e X.env)::starEach es X.env:=by rfl) (hpl:(backTo pos (starEach es X.env)).any (·.1)=false:=by rfl):
  PE X (.Call (.Name x p) (e::es) [] pos) (tCall sp [] E0 t):=by
 obtain⟨f,fd,F,hm,hkp,hb⟩:=C.ex;exact Gp F (hr.mono hk) hg hm hkp hb .nil zB ha hdb he hpl
theorem aP:bootBuiltins "len"=some (.builtin "len"):=by decide+kernel
theorem HK:bootBuiltins "max"=some (.builtin "max"):=by decide+kernel
theorem nh:bootBuiltins "sorted"=some (.builtin "sorted"):=by decide+kernel
theorem zX:bootBuiltins "any"=some (.builtin "any"):=by decide+kernel
theorem bi:bootBuiltins "isinstance"=some (.builtin "isinstance"):=by decide+kernel
theorem bQ:bootBuiltins "list"=some (.type "list"):=by decide+kernel
theorem rb:bootBuiltins "int"=some (.type "int"):=by decide+kernel
theorem Cm:bootBuiltins "bool"=some (.type "bool"):=by decide+kernel
theorem i3:bootBuiltins "str"=some (.type "str"):=by decide+kernel
theorem mj:bootBuiltins "tuple"=some (.type "tuple"):=by decide+kernel
def compN(scope:Scope):List Str:=(scope.names.filter fun p=>p.2==.local||p.2==.cell||p.2==.free).map (·.1)
def vk(N:List Str)(scope:Scope):List (Option Nat):=(compN scope).map fun x=>if scope.names.lookup x==some .free then N.findIdx? (· ==x) else none
def isCF:Option NameKind->Bool
 | some .cell=>true
 | some .free=>true
 | _=>false
theorem HL{X:Cx}{scope:Scope}(h1:scope.kind=.function)(h2:(scope.names.map (·.1)).Nodup)(h3:(scope.names.all fun p=>p.2 != .free||isCF (X.env.kindOf p.1))=true):BlkOk X (compN scope) (vk X.N scope) scope where
 kind:=h1
 nd:=h2.sublist (List.Sublist.map _ (List.filter_sublist ..))
 len:=by unfold vk;rw[Mr]
 names:=h2
 free:=fun x hx=>by
  have:=MC.mp h3 (x,.free) hx;simp only[bne_self_eq_false,NC] at this;unfold isCF at this
  split at this
  . rename_i e;exact .inl e
  . rename_i e;exact .inr e
  . cases this
 at_:=fun j i x e1 e2=>by
  unfold vk at e2;rw[MA,e1] at e2;simp only[Option.map_some,Option.some.injEq] at e2
  split at e2
  . rename_i hf
    obtain⟨hlt,hp,_⟩:=List.findIdx?_eq_some_iff_getElem.mp e2
    have hx:X.N[i]? =some x:=by
     rw[Mt hlt];have:X.N[i]=x:=by simpa using hp
     rw[this]
    refine⟨hx,ND (by simpa using hf)⟩
  . cases e2
section
variable{t u:TS}{D:Ends}{σ:St}{H:Hp}{Q:VK}{ta tb:TE}{R:Bool->Hp->Prop}{c d:TT}
theorem aE:tSeq t u D σ H=t {D with nx:=u D} σ H:=rfl
theorem cy:tNext D σ H=D.nx σ H:=rfl
theorem bI{g:TG}:tAsg ta g D σ H=ta σ H fun x H1=>g x σ H1 D.nx:=rfl
theorem bf{i:Nat}{v:V}{k:St->Hp->Prop}:gName i v σ H k=k (σ.set i (some v)) H:=rfl
theorem F7{i:Nat}:tVar i σ H Q=∃ v,σ[i]? =some (some v)/\Q v H:=propext ⟨F3,fun⟨_,e,h⟩=>pX e h⟩
theorem cZ{v:V}{σ:St}:tVar 0 (some v::σ) H Q=Q v H:=rfl
theorem c5{i:Nat}{a:Option V}{σ:St}:tVar (i+1) (a::σ) H Q=tVar i σ H Q:=rfl
theorem w_c{v:V}:tC v σ H Q=Q v H:=rfl
theorem gn{r:R2}:tOp r ta tb σ H Q=ta σ H fun x H1=>tb σ H1 fun y H2=>r x y H2 Q:=rfl
theorem cR:tRet ta D σ H=ta σ H D.rt:=rfl
theorem c6:tRetN D σ H=D.rt .non H:=rfl
theorem cA:tDrop ta D σ H=ta σ H fun _ H1=>D.nx σ H1:=rfl
theorem aA:tIfS c t u D σ H=c σ H fun b H1=>if b=true then t D σ H1 else u D σ H1:=rfl
theorem c7:tTest ta σ H R=ta σ H fun x H'=>∃ k,x=.bl k/\R k H':=rfl
theorem w_b:tB ta σ H R=ta σ H fun x H'=>∃ k,x=.bl k/\R k H':=rfl
theorem w_not:tNot c σ H R=c σ H fun k H1=>R (!k) H1:=rfl
theorem ff:tAnd c d σ H R=c σ H fun k H1=>if k=true then d σ H1 R else R false H1:=rfl
theorem i4:tOr c d σ H R=c σ H fun k H1=>if k=true then R true H1 else d σ H1 R:=rfl
theorem c9:tNotV ta σ H Q=ta σ H fun x H1=>∃ c,x=.bl c/\Q (.bl (!c)) H1:=rfl
theorem da:tAndV ta tb σ H Q=ta σ H fun x H1=>∃ c,x=.bl c/\if c=true then tb σ H1 Q else Q (.bl false) H1:=rfl
theorem fg:tOrV ta tb σ H Q=ta σ H fun x H1=>∃ c,x=.bl c/\if c=true then Q (.bl true) H1 else tb σ H1 Q:=rfl
theorem dG{k:List V->Hp->Prop}:tNil σ H k=k [] H:=rfl
theorem b9{tr:TA}{k:List V->Hp->Prop}:tCons ta tr σ H k=ta σ H fun x H1=>tr σ H1 fun xs H2=>k (x::xs) H2:=rfl
theorem i5{r:List V->Hp->VK->Prop}{tr:TA}:tCB r tr σ H Q=tr σ H fun vs H1=>r vs H1 Q:=rfl
theorem db{sp:Sp}{dvs:List V}{E:XK}{tr:TA}:tCall sp dvs E tr σ H Q=tr σ H fun vs H1=>sp (vs++dvs) H1 Q E:=rfl
theorem fh{tr:TA}:tTup tr σ H Q=tr σ H fun xs H1=>xs.length<=sizeLine/\∀ p,H1 p=none->Q (.ref p) (upd H1 p (.tup xs)):=rfl
theorem dZ{tr:TA}:tLst tr σ H Q=tr σ H fun xs H1=>xs.length<=sizeLine/\∀ p,H1 p=none->Q (.ref p) (upd H1 p (.lst xs)):=rfl
theorem gp{K:Frag}{T:String}{r:V->List V->Hp->VK->Prop}{tr:TA}:tBM K T r ta tr σ H Q=ta σ H fun x H1=>tyV K T x H1/\tr σ H1 fun xs H2=>r x xs H2 Q:=rfl
theorem fj{K:Frag}{T:String}{r:V->List V->Hp->VK->Prop}:CW K T r ta σ H Q=ta σ H fun x H1=>tyV K T x H1/\r x [] H1 Q:=rfl
theorem cB:tTrue σ H R=R true H:=rfl
theorem dc:HD σ H Q=∀ p,H p=none->Q (.ref p) (upd H p (.dK [])):=rfl
theorem de{td ty tv:TE}:sDPut td ty tv D σ H=tv σ H fun v H1=>td σ H1 fun x H2=>ty σ H2 fun y H3=>∃ a H4,x=.ref a/\DPut H3 a y v H4/\D.nx σ H4:=rfl
theorem fk{i j:Int}:cAdd (.int i) (.int j) H Q=Q (.int (i+j)) H:=rfl
theorem fm{i j:Int}:cSub (.int i) (.int j) H Q=Q (.int (i-j)) H:=rfl
theorem fq{i j:Int}:cMul (.int i) (.int j) H Q=(CMul i j/\Q (.int (i*j)) H):=rfl
theorem ft{i j:Int}:cDiv (.int i) (.int j) H Q=(CDiv i j/\Q (.int (i/j)) H):=rfl
theorem fu{i j:Int}:cMod (.int i) (.int j) H Q=(0<j/\Q (.int (i%j)) H):=rfl
theorem fv{g:Int->Int->Bool}{i j:Int}:cCmp g (.int i) (.int j) H Q=Q (.bl (g i j)) H:=rfl
theorem fw{K:Frag}{i j:Int}:cEq K (.int i) (.int j) H Q=Q (.bl (decide (i=j))) H:=rfl
theorem fz{K:Frag}{i j:Int}:cNe K (.int i) (.int j) H Q=Q (.bl (!decide (i=j))) H:=rfl
theorem fA{K:Frag}{i j:Bool}:cEq K (.bl i) (.bl j) H Q=Q (.bl (decide (i=j))) H:=rfl
theorem fC{K:Frag}{i j:Bool}:cNe K (.bl i) (.bl j) H Q=Q (.bl (!decide (i=j))) H:=rfl
theorem ig{p:Addr}{i:Int}{xs:List V}(h:H p=some (.tup xs)):cIx (.ref p) (.int i) H Q=bnd (atI xs i) fun v=>Q v H:=by
 unfold cIx;dsimp only;rw[h];rfl
theorem F8{p:Addr}{i:Int}{xs:List V}(h:H p=some (.lst xs)):cIx (.ref p) (.int i) H Q=bnd (atI xs i) fun v=>Q v H:=by
 unfold cIx;dsimp only;rw[h];rfl
theorem fD{i:Int}:kAbs [.int i] H Q=Q (.int (if i<0 then -i else i)) H:=rfl
theorem fE{i j:Int}:kMin [.int i,.int j] H Q=Q (.int (if j<i then j else i)) H:=rfl
theorem bc{p:Addr}{xs:List V}(h:H p=some (.lst xs)):kLen [.ref p] H Q=Q (.int xs.length) H:=by
 unfold kLen;dsimp only;rw[h];rfl
theorem zY{p:Addr}{xs:List V}(h:H p=some (.tup xs)):kLen [.ref p] H Q=Q (.int xs.length) H:=by
 unfold kLen;dsimp only;rw[h];rfl
theorem fP{p:Addr}{xs:List V}{y:V}(h:H p=some (.lst xs)):bo (.ref p) [y] H Q=(xs.length<sizeLine/\Q .non (upd H p (.lst (xs++[y])))):=by
 unfold bo;dsimp only;rw[h];rfl
theorem ni:∀ ns:List Int,(ns.map V.int).all flatV=true
 | []=>rfl
 | n::r=>by rw[M4,O0,ni r];rfl
theorem p5(i:Int):∀ ns:List Int,inV (.int i) (ns.map V.int)=decide (i∈ns)
 | []=>by simp[inV]
 | n::r=>by
  have ih:=p5 i r;unfold inV at ih ⊢;rw[M4,Ov,ih];show((n==i)||decide (i∈r))=decide (i∈n::r);rw[MZ,Os,Oy,Mx,Mx,MS];exact⟨fun h=>h.elim (fun e=>.inl e.symm) .inr,fun h=>h.elim (fun e=>.inl e.symm) .inr⟩
theorem rd{K:Frag}{p:Addr}{i:Int}{ns:List Int}(h:H p=some (.lst (ns.map V.int))):cIn K false (.int i) (.ref p) H Q=Q (.bl (decide (i∈ns))) H:=by
 unfold cIn;dsimp only;rw[h];dsimp only[unD,unS,bnd];rw[p5,ni];simp[flatV]
theorem lR{K:Frag}{p:Addr}{i:Int}{ns:List Int}(h:H p=some (.lst (ns.map V.int))):cIn K true (.int i) (.ref p) H Q=Q (.bl (!decide (i∈ns))) H:=by
 unfold cIn;dsimp only;rw[h];dsimp only[unD,unS,bnd];rw[p5,ni];simp[flatV]
end
def LoopR(J:It)(g:TG)(tb:TS)(D:Ends)(σ:St)(H1:Hp):Prop:=∃ W:Nat->Nat->St->Hp->Prop,(∃ m,W 0 m σ H1)/\∀ i m σ H,W i m σ H->
 (J.stop i H/\D.nx σ H)\/(J.go i H/\∃ N:St->Hp->Prop,(∀ σ' H',N σ' H'->∃ m',m'<m/\W (i+1) m' σ' H')/\∀ x H',J.yld i H x H'->g x σ H' fun σ2 H2=>tb {D with nx:=N,ct:=N,bk:=D.nx} σ2 H2)
def CompR(J:It)(g:TG)(tt:TT)(te:TE)(fin:Addr->Hp->Prop)(σ0:St)(H1:Hp):Prop:=∀ l,H1 l=none->
 ∃ W:Nat->Nat->St->Hp->Prop,(∃ m,W 0 m σ0 (upd H1 l (.lst [])))/\∀ i m σ' H',W i m σ' H'->
  (J.stop i H'/\fin l H')\/(J.go i H'/\∃ N:St->Hp->Prop,(∀ σ'' H'',N σ'' H''->∃ m',m'<m/\W (i+1) m' σ'' H'')/\∀ x H2,J.yld i H' x H2->g x σ' H2 fun σ2 H3=>tt σ2 H3 fun b H4=>
   if b=true then te σ2 H4 fun y H5=>∃ ys,H5 l=some (.lst ys)/\ys.length<sizeLine/\N σ2 (upd H5 l (.lst (ys++[y]))) else N σ2 H4)
section
variable{K:Frag}{g:TG}{tb:TS}{D:Ends}{σ:St}{H:Hp}{tl:TE}{ta:TA}{ix:List (Option Nat)}{tt:TT}{te:TE}{k:Nat}{Q:VK}
theorem df:tFor (iList K tl) g tb D σ H=tl σ H fun x H1=>∃ a,x=.ref a/\(∃ xs,SqL K H1 a xs)/\LoopR (Itl K a) g tb D σ H1:=rfl
theorem b5:tFor (gi ta) g tb D σ H=ta σ H fun vs H1=>∃ j:Int,vs=[.int j]/\ -(2^62)<=j/\j<2^62/\LoopR (Itr 0 j.toNat) g tb D σ H1:=rfl
theorem b6:tFor (sR ta) g tb D σ H=ta σ H fun vs H1=>∃ i j:Int,vs=[.int i,.int j]/\(-(2^62)<=i/\i<2^62/\ -(2^62)<=j/\j<2^62)/\LoopR (Itr i (j-i).toNat) g tb D σ H1:=rfl
theorem bD:tComp ix (iList K tl) g tt te σ H Q=tl σ H fun x H1=>∃ a,x=.ref a/\(∃ xs,SqL K H1 a xs)/\CompR (Itl K a) g tt te (fun l H'=>Q (.ref l) H') (subσ ix σ) H1:=rfl
theorem bJ:tComp ix (gi ta) g tt te σ H Q=ta σ H fun vs H1=>∃ j:Int,vs=[.int j]/\ -(2^62)<=j/\j<2^62/\CompR (Itr 0 j.toNat) g tt te (fun l H'=>Q (.ref l) H') (subσ ix σ) H1:=rfl
theorem bK:sComp k ix (iList K tl) g tt te D σ H=tl σ H fun x H1=>∃ a,x=.ref a/\(∃ xs,SqL K H1 a xs)/\CompR (Itl K a) g tt te (fun l H'=>D.nx (σ.set k (some (.ref l))) H') (subσ ix σ) H1:=rfl
theorem bv:sComp k ix (gi ta) g tt te D σ H=ta σ H fun vs H1=>∃ j:Int,vs=[.int j]/\ -(2^62)<=j/\j<2^62/\CompR (Itr 0 j.toNat) g tt te (fun l H'=>D.nx (σ.set k (some (.ref l))) H') (subσ ix σ) H1:=rfl
theorem p6 {lo:Int} {n:Nat} {fin:Addr->Hp->Prop} {σ0:St} {H1:Hp} (Pv:Addr->Nat->St->Hp->Prop) (h0:∀ l,H1 l=none->Pv l 0 σ0 (upd H1 l (.lst [])))
  (hs:∀ l i σ H,H1 l=none->i<n->Pv l i σ H->g (.int (lo+i)) σ H fun σ2 H3=>tt σ2 H3 fun b H4=>if b=true then te σ2 H4 fun y H5=>∃ ys,H5 l=some (.lst ys)/\ys.length<sizeLine/\Pv l (i+1) σ2 (upd H5 l (.lst (ys++[y]))) else Pv l (i+1) σ2 H4)
  (hd:∀ l σ H,H1 l=none->Pv l n σ H->fin l H):CompR (Itr lo n) g tt te fin σ0 H1:=by
 intro l hl0;refine⟨fun i m σ H=>m=n-i/\i<=n/\Pv l i σ H,⟨n,by simp,Nu _,h0 l hl0⟩,?_⟩;rintro i m σ H ⟨rfl,hi,p⟩;by_cases hlt:i<n
 . refine .inr ⟨hlt,Pv l (i+1),fun σ' H' p'=>⟨n - (i+1),by omega,rfl,hlt,p'⟩,fun x H' y=>?_⟩;obtain⟨e,y⟩:=y;subst e y;exact hs l i σ _ hl0 hlt p
 . have e:i=n:=by omega
   subst e;exact .inl ⟨MW _,hd l σ H hl0 p⟩
theorem re {a:Addr} {xs:List V} {fin:Addr->Hp->Prop} {σ0:St} {H1:Hp} (Pv:Addr->Nat->St->Hp->Prop) (h0:∀ l,H1 l=none->Pv l 0 σ0 (upd H1 l (.lst []))) (hq:∀ l i σ H,H1 l=none->i<=xs.length->Pv l i σ H->SqL K H a xs)
  (hs:∀ l i x σ H,H1 l=none->xs[i]? =some x->Pv l i σ H->g x σ H fun σ2 H3=>tt σ2 H3 fun b H4=>if b=true then te σ2 H4 fun y H5=>∃ ys,H5 l=some (.lst ys)/\ys.length<sizeLine/\Pv l (i+1) σ2 (upd H5 l (.lst (ys++[y]))) else Pv l (i+1) σ2 H4)
  (hd:∀ l σ H,H1 l=none->Pv l xs.length σ H->fin l H):CompR (Itl K a) g tt te fin σ0 H1:=by
 intro l hl0;refine⟨fun i m σ H=>m=xs.length-i/\i<=xs.length/\Pv l i σ H,⟨xs.length,by simp,Nu _,h0 l hl0⟩,?_⟩;rintro i m σ H ⟨rfl,hi,p⟩;have q:=hq l i σ H hl0 hi p;by_cases hlt:i<xs.length
 . refine .inr ⟨⟨xs,xs[i],q,by simp[hlt]⟩,Pv l (i+1),fun σ' H' p'=>⟨xs.length - (i+1),by omega,rfl,hlt,p'⟩,fun x H' y=>?_⟩;obtain⟨e,y⟩:=y;subst e;exact hs l i x σ _ hl0 (y xs q) p
 . have e:i=xs.length:=by omega
   subst e;exact .inl ⟨⟨xs,q,MW _⟩,hd l σ H hl0 p⟩
theorem vm{p q:Addr}{xs ys:List Int}(hp:H p=some (.lst (xs.map V.int)))(hq:H q=some (.lst (ys.map V.int)))(h:Q (.bl (decide (xs=ys))) H):cEq K (.ref p) (.ref q) H Q:=by
 show rEqD K (.ref p) (.ref q) H Q;refine⟨.list (xs.map PyData.int),.list (ys.map PyData.int),.lst (MO hp) (.ints xs),.lst (MO hq) (.ints ys),kF xs,kF ys,?_⟩;rw[PyData.eqv,uv];exact h
theorem nk{p q:Addr}{xs ys:List Int}(hp:H p=some (.lst (xs.map V.int)))(hq:H q=some (.lst (ys.map V.int)))(h:Q (.bl (!decide (xs=ys))) H):cNe K (.ref p) (.ref q) H Q:=by
 show rNeD K (.ref p) (.ref q) H Q;refine⟨.list (xs.map PyData.int),.list (ys.map PyData.int),.lst (MO hp) (.ints xs),.lst (MO hq) (.ints ys),kF xs,kF ys,?_⟩;rw[PyData.eqv,uv];exact h
theorem Fz{p:Addr}{ns:List Int}(hp:H p=some (.lst (ns.map V.int)))(hn:ns.length<64)(h:∀(ns':List Int) l,H l=none->ns'.Perm ns->ns'.Pairwise (· <=·)->Q (.ref l) (upd H l (.lst (ns'.map V.int)))):eI [.ref p] H Q:=by
 unfold eI;dsimp only;rw[hp];exact⟨ns,rfl,hn,h⟩
theorem mn{p:Addr}{xs:List V}(hp:H p=some (.lst xs))(h:∀ l,H l=none->Q (.ref l) (upd H l (.lst xs))):kList [.ref p] H Q:=by
 unfold kList;dsimp only;rw[hp];exact h
end
theorem aB{X:Cx}{N:List Str}{ix:List (Option Nat)}{scope:Scope}(h1:scope.kind=.function)(h2:(scope.names.map (·.1)).Nodup)(h3:(scope.names.all fun p=>p.2 != .free||isCF (X.env.kindOf p.1))=true)(h4:N=compN scope)(h5:ix=vk X.N scope):BlkOk X N ix scope:=by
 subst h4 h5;exact HL h1 h2 h3
def kLenS(K:Frag):List V->Hp->VK->Prop:=fun xs H Q=>∃ p ys,xs=[.ref p]/\(SqL K H p ys\/SqT K H p ys)/\Q (.int ys.length) H
structure Bt(mg:Str->Option Value):Prop where
 len_:mg "len"=none
 abs_:mg "abs"=none
 min_:mg "min"=none
 max_:mg "max"=none
 sorted_:mg "sorted"=none
 any_:mg "any"=none
 isinstance_:mg "isinstance"=none
 list_:mg "list"=none
 int_:mg "int"=none
 bool_:mg "bool"=none
 str_:mg "str"=none
 tuple_:mg "tuple"=none
 reversed_:mg "reversed"=none
 set_:mg "set"=none
 range_:mg "range"=none
 zip_:mg "zip"=none
theorem Vals.get':∀{xs:List V} {us:List Value} {i:Nat} {u:Value},Vals xs us->us[i]? =some u->∃ x,xs[i]? =some x/\RelV x u
 | _,_,_,_,.nil,h=>by simp at h
 | _,_,0,_,.cons r _,h=>by simp at h;subst h;exact⟨_,rfl,r⟩
 | _,_,i+1,_,.cons _ t,h=>by
  obtain⟨x,hx,r⟩:=Vals.get' (i:=i) t (by simpa using h);exact⟨x,by simpa using hx,r⟩
section
variable{X:Cx}{Md:List (Addr × Obj)}{σ:St}{H:Hp}{s s':Shared}
theorem Inv.kept'(I:Inv X Md σ H s)(k:∀ b u,s.heap.get? b=some u->s'.heap.get? b=some u)(ho:s'.os=s.os)(hg:AllBare s'.gens):Inv X Md σ H s':=
 I.call' (ch:=[]) ho (Un.kept k) (I.hok.kept k) hg fun b z=>absurd z (by simp)
theorem Inv.walked{l:Addr}{o:Obj}(I:Inv X Md σ H s)(hm:Moved [s.heap.objs.size] (fun a b=>b=a) {s with heap:=s.heap.push o} s'):Inv X Md σ H s':=by
 refine I.kept' (fun b u e=>hm.heap b u (fun z=>?_) (MV _ e)) hm.os (by rw[show s'.gens=s.gens from hm.gens];exact I.bare);have:b=s.heap.objs.size:=by simpa using z
 exact absurd (M5 e) (by rw[this];exact NS _)
def kAny:List V->Hp->VK->Prop
 | [.ref p],H,Q=>bnd (unL (H p)) fun ys=>∃ bs:List Bool,ys=bs.map V.bl/\Q (.bl (bs.any id)) H
 | _,_,_=>False
theorem Em(bs:List Bool):(List.range bs.length).any (fun i=>bs.getD i false)=bs.any id:=by
 rw[MZ,Ob,Ob];constructor
 . rintro⟨i,hi,h⟩;have hi':i<bs.length:=MF.mp hi;exact⟨bs[i],MT hi',by simpa [List.getD,hi'] using h⟩
 . rintro⟨b,hb,h⟩;obtain⟨i,hi,e⟩:=NY.mp hb;refine⟨i,MF.mpr hi,?_⟩;have h':b=true:=h;rw[List.getD,Mt hi,e];exact h'
theorem rf(hc:X.calm=true):CallR X (.builtin "any") kAny:=by
 intro Md s σ H xs us Q I r h;unfold kAny at h
 split at h
 . rename_i p
   obtain⟨ys,e,bs,rfl,q⟩:=bb h;obtain⟨u,rfl,ru⟩:=cX r;cases ru;obtain⟨Mi,rv,pl,hz⟩:=I.list (ra e);have hl:=rv.length;rw[Mr] at hl
   have hlt:p<s.heap.objs.size:=by
    obtain⟨o,h1,_⟩:=pl.isList;exact M5 h1
   refine call_any_walkS (OL pl.isList ?_);refine⟨s.heap.objs.size,_,_,_,Mi.toArray.size,_,_,fun i=>bs.getD i false,rfl,(Walks.list (A:=X.A.in1) (I.ok.hd hc) s.heap.objs.size p (Nl hlt) Mi.toArray).toS,⟨⟨_,Nf _ rfl,rfl,rfl⟩,pl.isList.push _⟩,?_,fun s' hm=>?_⟩
   . intro i v s1 Q1 E1 hP hQ;have hv:Mi[i]? =some v:=by simpa using hP
     obtain⟨x,hx,rx⟩:=rv.get' hv;obtain⟨b,hb,rfl⟩:∃ b,bs[i]? =some b/\V.bl b=x:=by simpa using hx
     cases rx;refine NZ ?_;have e3:bs.getD i false=b:=by simp[List.getD,hb]
     rw[← e3];exact hQ
   . refine⟨.bl _,H,I.walked (l:=p) hm,?_,q⟩;have e2:Mi.toArray.size=bs.length:=by rw[MX];exact hl.symm
     rw[e2,Em];rfl
 . exact h.elim
def i6(K:Frag):V->List V->Hp->VK->Prop
 | .ref p,[y],H,Q=>∃(ds:List PyData) (d:PyData) (j:Nat),DV K H (.ref p) (.list ds)/\DV K H y d/\PyData.canLayAll0 ds=true/\PyData.canLay0 d=true/\min (PyData.depthAll ds) d.depth<=62/\
   j<=1000/\(∃ e,ds[j]? =some e/\PyData.eqv e d=true)/\(∀ m e,m<j->ds[m]? =some e->PyData.eqv e d=false)/\Q (.int j) H
 | _,_,_,_=>False
theorem iM(hu:X.A.units+64<cLine):MtR X "list.index" (i6 X.K):=by
 intro Md s σ H x vs v us Q I rx rv h;unfold i6 at h
 split at h
 . rename_i p y
   obtain⟨ds,d,j,hp,hy,hl,hd,hdep,hj,⟨e,ej,et⟩,hno,q⟩:=h;cases rx;obtain⟨u,rfl,ru⟩:=cX rv;obtain⟨as,rc⟩:=hp.reads I rfl;obtain⟨bs,rx⟩:=hy.reads I ru
   cases rc with
   | @list _ o Mi n _ _ h1 h2 h3 h4=>
    obtain⟨oc,od,oda,osl⟩:=o;dsimp only at h2 h3;subst h2 h3;have hmap:=SeqAt.readsAll_map ds _ _ hl h4
    have at_:∀(m:Nat) (hm:m<Mi.size),ds[m]? =some (SeqAt.readOf s.heap Mi[m]):=fun m hm=>by
     rw[← hmap,MA,P5,Ps hm];rfl
    have hjs:j<Mi.size:=by
     have:=(My.mp ej).1;rw[← hmap,Mr,OD] at this;exact this
    refine Oo F.slot_list_index ⟨_,h1,rfl⟩ F.entry_list_index (F.args_list_index_2 _ _) (SeqAt.list_indexAt p Mi n od osl u (fun y=>PyData.eqv (SeqAt.readOf s.heap y) d) j hjs (by omega) ?_ ?_) ⟨h1,SeqAt.items_eqAt h4 rx hl hd ?_,⟨.int j,H,I.tok _,⟨_,rfl⟩,q⟩⟩
    . have:=at_ j hjs;rw[ej] at this;cases this;exact et
    . intro m hm hlt;exact hno m _ hlt (at_ m hm)
    . omega
 . exact h.elim
theorem HM{h:Heap}{a b:Addr}{o u:Obj}{c d:String}(ha:h.get? a=some o)(hb:h.get? b=some u)(hc:o.cls=.type c)(hd:u.cls=.type d)(ne:c≠d):a≠b:=by
 rintro rfl;rw[ha] at hb;cases hb;rw[hc] at hd;cases hd;exact ne rfl
end
open Builtin Builtin.Str
theorem wZ:∀{ts:List Str} {us:List Value},Vals (ts.map V.str) us->∃ l:List (Str × Tok),us=strValues l/\l.map (·.1)=ts
 | [],_,.nil=>⟨[],rfl,rfl⟩
 | t::ts,_,.cons r rs=>by
  obtain⟨l,rfl,e⟩:=wZ (ts:=ts) rs;obtain⟨u,rfl⟩:=r;exact⟨(t,u)::l,rfl,by rw[M4,e]⟩
theorem yo:∀(l:List (Str × Tok)),Vals ((l.map (·.1)).map V.str) (strValues l)
 | []=>.nil
 | (t,u)::l=>.cons ⟨u,rfl⟩ (yo l)
section
variable{X:Cx}
def kFind:V->List V->Hp->VK->Prop
 | .str x,[.str y],H,Q=>Q (.int (Txt.find x y)) H
 | _,_,_,_=>False
def vn:V->List V->Hp->VK->Prop
 | .str x,[.str y],H,Q=>(y.length==0)=false/\x.length<=sizeLine/\(Txt.split x y).length<=sizeLine/\∀ l,H l=none->Q (.ref l) (upd H l (.lst ((Txt.split x y).map V.str)))
 | _,_,_,_=>False
theorem En:MtR X "str.split" vn:=by
 intro Md s σ H x vs v us Q I rx rv h;unfold vn at h
 split at h
 . rename_i x y
   obtain⟨t,rfl⟩:=rx;obtain⟨u,rfl,ru⟩:=cX rv;obtain⟨t2,rfl⟩:=ru;obtain⟨hy,hx,hn,q⟩:=h
   have fin:∀(l:List (Str × Tok)) (k:Nat),l.map (·.1)=Txt.split x y->EP X Md σ Q (.ref s.heap.objs.size) {s with heap:=s.heap.push {cls:=.type "list",data:=.seq (strValues l).toArray},toks:=k}:=fun l k e=>by
    refine⟨.ref s.heap.objs.size,_,I.lnew (t':=k) (ys:=(Txt.split x y).map V.str) (Mi:=strValues l) ?_ (by rw[Mr];exact hn),rfl,q _ I.fresh⟩;rw[← e];exact yo l
   cases h1:(decide (x.length<y.length)||decide (strKind x<strKind y))
   . cases hf:(occurrences x y 0 x.length (x.length+1)).isEmpty
     . have e3:Txt.split x y=partsBetween x (occurrences x y 0 x.length (x.length+1)) y.length:=(MP (Pd h1)).trans (MP (Pd hf));refine Oo PJ (OW _ _ _) Pz (Pn _ _) (meets_str_split_sep x y t t2 h1 hy hf hx (by rw[← e3];exact hn)) ?_;show wants _ _ _ {s with toks:=_,heap:=s.heap.push {cls:=.type "list",data:=.seq (strsFrom s.toks (partsBetween x (occurrences x y 0 x.length (x.length+1)) y.length)).toArray}};rw[strsFrom_eq];exact fin (numbered s.toks _) _ ((numbered_texts _ _).trans e3.symm)
     . exact Oo PJ (OW _ _ _) Pz (Pn _ _) (meets_str_split_not_found x y t t2 h1 hy hf)
        (fin [(x,t)] s.toks ((MP (Pd h1)).trans (MU hf)).symm)
   . exact Oo PJ (OW _ _ _) Pz (Pn _ _) (meets_str_split_cannot_occur x y t t2 h1)
      (fin [(x,t)] s.toks (MU h1).symm)
 . exact h.elim
def p7:V->Option Int->Option Int->Hp->VK->Prop
 | .ref p,lo,hi,H,Q=>cSl (.ref p) lo hi H Q
 | .str z,lo,hi,H,Q=>z.length<=sizeLine/\Q (.str (Txt.slice z lo hi)) H
 | _,_,_,_,_=>False
theorem vo:SlR X p7:=by
 intro Md s σ H x v vl vu lo hi sl Q I rx hs pl pu h
 cases x with
 | ref p=>exact Ji Md s σ H _ v vl vu lo hi sl Q I rx hs pl pu h
 | str z=>
  obtain⟨hz,q⟩:=(show z.length<=sizeLine/\Q (.str (Txt.slice z lo hi)) H from h);obtain⟨t,rfl⟩:=rx;have fin:∀ t' k,EP X Md σ Q (.str (Txt.slice z lo hi) t') {s with toks:=k}:=fun t' k=>⟨.str _,H,I.tok k,⟨t',rfl⟩,q⟩;refine⟨"str",_,F.slot_str_getitem.lookup,OW _ _ _,?_⟩
  cases pl with
  | none=>
   cases pu with
   | none=>exact Ol (l:=none) (u:=none) (st:=none) hs rfl (Pa ⟨ML (PX z _ _) hz,fin⟩)
   | int j tj=>exact Ol (l:=none) (u:=some (j,tj)) (st:=none) hs rfl (Pa ⟨ML (PX z _ _) hz,fin⟩)
  | int i ti=>
   cases pu with
   | none=>exact Ol (l:=some (i,ti)) (u:=none) (st:=none) hs rfl (Pa ⟨ML (PX z _ _) hz,fin⟩)
   | int j tj=>exact Ol (l:=some (i,ti)) (u:=some (j,tj)) (st:=none) hs rfl (Pa ⟨ML (PX z _ _) hz,fin⟩)
 | _=>exact False.elim h
def Its(x:Str):It:=⟨fun i _=>i<x.cps.size,fun i H v H'=>H'=H/\∃ c,x.cps[i]? =some c/\v=.str ⟨#[c]⟩,fun i _=>x.cps.size<=i⟩
theorem zZ {P:Program} {w:World} {K:Frag} {tg:Expr} {x:Str} {t:Tok} (it:Addr) (ty:String) (hty:["enumerate","zip","dict_itemiterator","dict_reverseitemiterator","odict_iterator","itertools.zip_longest","itertools.pairwise"].contains ty=false)
  (W:∀ A:Around,A.handled=none->Walks P w A it [it] [it] x.cps.size (SignAt x) (fun i h=>h.IsStrIter it ty x t i))
  (slf:∀(A:Around) (i:Nat) (s:Shared) (Q:Value->Shared->Prop) (E:Value->Shared->Prop),s.heap.IsStrIter it ty x t i->Q (.ref it) s->wpAny (model P w) A (pyIter (.ref it)) Q E s):
  Turn P w K tg (Its x) [it] it (fun i h=>i<=x.cps.size/\h.IsStrIter it ty x t i) where
 mem:=by simp
 obj:=fun i h st b hb=>by
  have e:b=it:=by simpa using hb
  subst e;obtain⟨_,o,e,c,d⟩:=st;exact⟨o,e,fun v z=>by rw[d] at z;cases z⟩
 keep:=fun i h h' st k=>by
  obtain⟨hi,o,e,c,d⟩:=st;exact⟨hi,o,k it (by simp) o e,c,d⟩
 item:=by
  intro X hP hw hK hc i Md s σ H E I hf st hg;subst hP hw hK;obtain⟨f0,f1,f2,f3,f4,f5⟩:=hf it (by simp);have hlt:i<x.cps.size:=hg;refine(W X.A (I.ok.hd hc)).item i s _ _ hlt st.2 fun v h' tk hv st' kk=>?_;obtain⟨c,u,hcu,rfl⟩:=hv;have I1:Inv X Md σ H {s with heap:=h',toks:=tk}:=I.turned (fun b o hb e=>kk b o (by simpa using hb) e) f0 f1 f3 f4 f5;obtain⟨o,e,c',d⟩:=id st';exact⟨_,rfl,zy (s:={s with heap:=h',toks:=tk}) e c' d hty ⟨.str ⟨#[c]⟩,H,I1,⟨u,rfl⟩,⟨rfl,c,hcu,rfl⟩,⟨hlt,st'⟩,fun b hb=>(hf b hb).1⟩⟩
 done:=by
  intro X hP hw hK hc i Md s σ H E I hf st hg;subst hP hw hK;obtain⟨f0,f1,f2,f3,f4,f5⟩:=hf it (by simp);have hle:x.cps.size<=i:=hg;have e:i=x.cps.size:=Nat.le_antisymm st.1 hle;subst e;exact(W X.A (I.ok.hd hc)).done s _ _ st.2 fun h' tk kk=>⟨rfl,I.turned (fun b o hb e=>kk b o (by simpa using hb) e) f0 f1 f3 f4 f5⟩
 self:=fun A i s Q E st h=>slf A i s Q E st.2 h
def iStr(tl:TE):TI:=fun σ H R=>tl σ H fun x H1=>∃ z,x=.str z/\R (Its z) H1
theorem HN{tg l:Expr}{tl:TE}(hl:PE X l tl):PI X tg l (iStr tl):=by
 intro Md s σ H R I h;refine thn (hl Md s σ H _ I h) fun v s1 ⟨x,H1,I1,r1,q1⟩=>?_;obtain⟨z,rfl,q⟩:=q1;obtain⟨t,rfl⟩:=r1
 have fin:∀ b∈[s1.heap.objs.size],FpOk X Md H1 b:=fun b hb=>by
  have e:b=s1.heap.objs.size:=by simpa using hb
  subst e;exact I1.fpOk (MW _) (I1.hok.fresh (MW _))
 cases ha:z.cps.all (· < 128)
 . refine wpAny_pyIter_wide ha ⟨s1.heap.objs.size,[s1.heap.objs.size],_,Its z,H1,rfl,I1.kept (t':=s1.toks) fun b o e=>MV _ e,zZ (t:=t) _ "str_iterator" (by decide) (fun A' hA=>Walks.strWide hA _ z t) (fun A i s Q E st hq=>wpAny_pyIter_striter_wide st hq),⟨Nu _,_,Nf _ rfl,rfl,rfl⟩,fin,q⟩
 . refine wpAny_pyIter_ascii ha ⟨s1.heap.objs.size,[s1.heap.objs.size],_,Its z,H1,rfl,I1.kept (t':=s1.toks) fun b o e=>MV _ e,zZ (t:=t) _ "str_ascii_iterator" (by decide) (fun A' hA=>Walks.strAscii hA _ z t) (fun A i s Q E st hq=>wpAny_pyIter_striter_ascii st hq),⟨Nu _,_,Nf _ rfl,rfl,rfl⟩,fin,q⟩
theorem BG {prog:Program} {w:World} {A:Around} {E:Value->Shared->Prop} {s:Shared} {l:Addr} {items:Array Value} {k:Int} {t:Tok} {v:Value} {Q:Unit->Shared->Prop} (hl:s.heap.IsList l items)
  (h0:0<=k) (hfit:k<2^63) (hn:k<items.size)
  (hQ:Q () {s with heap:=s.heap.update l (Obj.mapSeq (·.setIfInBounds k.toNat v))}):
  wpAny (model prog w) A (setItem (.ref l) (.int k t) v) Q E s:=by
 obtain⟨o,ho,hc,ne,hd⟩:=id hl;unfold setItem
 try with_reducible refine PC ?_
 first | refine Nb (No ?_) | skip
 refine Nb (wpAny_sequenceKey hl.typeIs (by decide) ?_)
 refine Nb (wpAny_callSpecial?_slot (name:=Str.ofString "__setitem__") hl.typeIs slot_list_setitem
  (wpAny_call_entry slot_list_setitem hl.typeIs entry_list_setitem ?_ (args_list_setitem _ _ _)))
 show wpAny _ _ (Builtin.List.listSubscript? (.int k t) >>= _) _ _ s;refine Nb (wpAny_listSubscript_int (fitsIndex_of h0 hfit) ?_)
 clear hfit
 obtain⟨j,rfl⟩:=Om h0;have hj:j<items.size:=by omega
 have hx':items[j]? =some items[j]:=Ps hj;show wpAny _ _ ((seqItemAt l j >>= fun r=>pure (r.map (j,·))) >>= _) _ _ s;refine Nb (Nb (wpAny_seqItemAt ho hd (No ?_)));rw[hx'];show wpAny _ _ (setSeqItemAt l j v >>= _) _ _ s;refine Nb (wpAny_setSeqItemAt ho hd ?_)
 first
  | exact Nb (No (No ⟨.none,rfl,No hQ⟩))
  | exact No ⟨.none,rfl,No hQ⟩
theorem z4:∀{xs:List V} {us:List Value} {x:V} {u:Value} (i:Nat),Vals xs us->RelV x u->Vals (xs.set i x) (us.set i u)
 | _,_,_,_,_,.nil,_=>.nil
 | _,_,_,_,0,.cons _ t,r=>.cons r t
 | _,_,_,_,i+1,.cons q t,r=>.cons q (z4 i t r)
def cPut:TSet
 | .ref p,y,v,H,Q=>(match unD (H p) with
  | some _=>∃ H',DPut H p y v H'/\Q H'
  | none=>match y with
   | .int i=>bnd (unM (H p)) fun xs=>0<=i/\i<xs.length/\Q (upd H p (.lst (xs.set i.toNat v)))
   | _=>False)
 | _,_,_,_,_=>False
theorem IW(hu:X.A.units+64<cLine):PSet X cPut:=by
 intro Md s σ H o i v ov iv u Q I ro ri rv h
 cases o with
 | ref p=>
  cases ro;unfold cPut at h;dsimp only at h
  split at h
  . obtain⟨H',g,q⟩:=h;exact Ec (NG (OE (by decide:1<=64) _) hu) I g ri rv fun s' I'=>⟨H',I',q⟩
  . split at h
    . rename_i i
      obtain⟨xs,e,h0,h1,q⟩:=bb h;obtain⟨t,rfl⟩:=ri;have hH:=gU e;obtain⟨z,Mi,n,r,hl,eo⟩:=I.lstM hH;have hs:s.heap.IsList p Mi.toArray:=⟨_,eo,rfl,n,rfl⟩;have hz:Mi.length<=sizeLine:=by rw[← hl];exact z
      refine BG hs h0 ?_ (by rw[MX,← hl];exact h1) ⟨_,I.lset (t':=s.toks) (ys:=xs.set i.toNat v) (its':=Mi.set i.toNat u) hH eo (by simp) (z4 _ r rv) (by rw[List.length_set];exact z),q⟩;have:(sizeLine:Int)<2^63:=by decide
      omega
    . exact h.elim
 | _=>exact False.elim h
end
section
variable{K:Frag}{g:TG}{tb:TS}{D:Ends}{σ:St}{H:Hp}{tl:TE}{ix:List (Option Nat)}{tt:TT}{te ta:TE}{k:Nat}{Q:VK}
theorem i7{r:V->Option Int->Option Int->Hp->VK->Prop}{a b:TO}:tSl r te a b σ H Q=te σ H fun x H1=>a σ H1 fun l H2=>b σ H2 fun u H3=>r x l u H3 Q:=rfl
theorem dg{R:Option Int->Hp->Prop}:tPart te σ H R=te σ H fun x H1=>∃ i,x=.int i/\R (some i) H1:=rfl
theorem bL{R:Option Int->Hp->Prop}:l9 σ H R=R none H:=rfl
theorem dh{to ti:TE}{t:TSet}{v:V}{R:St->Hp->Prop}:gSub to ti t v σ H R=to σ H fun o H1=>ti σ H1 fun i H2=>t o i v H2 fun H3=>R σ H3:=rfl
theorem i8{r:V->Hp->VK->Prop}:tUn r te σ H Q=te σ H fun x H1=>r x H1 Q:=rfl
theorem di:tFor (iStr tl) g tb D σ H=tl σ H fun x H1=>∃ z,x=.str z/\LoopR (Its z) g tb D σ H1:=rfl
theorem b7:tComp ix (iStr tl) g tt te σ H Q=tl σ H fun x H1=>∃ z,x=.str z/\CompR (Its z) g tt te (fun l H'=>Q (.ref l) H') (subσ ix σ) H1:=rfl
theorem bM:sComp k ix (iStr tl) g tt te D σ H=tl σ H fun x H1=>∃ z,x=.str z/\CompR (Its z) g tt te (fun l H'=>D.nx (σ.set k (some (.ref l))) H') (subσ ix σ) H1:=rfl
theorem zC{x:Str}:tyV K "str" (.str x) H:=rfl
theorem fF{i j:Str}:cEq K (.str i) (.str j) H Q=Q (.bl (decide (i=j))) H:=rfl
theorem fG{i j:Str}:cNe K (.str i) (.str j) H Q=Q (.bl (!decide (i=j))) H:=rfl
theorem dj{z:Str}:kLen [.str z] H Q=(z.length<=sizeLine/\Q (.int z.length) H):=rfl
theorem cC{i j:Str}:cAdd (.str i) (.str j) H Q=(i.length+j.length<=sizeLine/\Q (.str (i++j)) H):=rfl
theorem IX{z:Str}{i:Int}:cIx (.str z) (.int i) H Q=(z.length<=sizeLine/\bnd (atI z.cps.toList i) fun c=>Q (.str ⟨#[c]⟩) H):=rfl
theorem dk{x y:Str}:kFind (.str x) [.str y] H Q=Q (.int (Txt.find x y)) H:=rfl
theorem GA{x y:Str}:vn (.str x) [.str y] H Q=((y.length==0)=false/\x.length<=sizeLine/\(Txt.split x y).length<=sizeLine/\∀ l,H l=none->Q (.ref l) (upd H l (.lst ((Txt.split x y).map V.str)))):=rfl
theorem IY{p:Addr}{i:Int}{v:V}{xs:List V}{R:Hp->Prop}(hp:H p=some (.lst xs))(h0:0<=i)(h1:i<xs.length)(h:R (upd H p (.lst (xs.set i.toNat v)))):cPut (.ref p) (.int i) v H R:=by
 unfold cPut;dsimp only;rw[hp];exact⟨h0,h1,h⟩
theorem CZ{p:Addr}{lo hi:Option Int}{xs:List V}(hp:H p=some (.lst xs))(h:∀ l,H l=none->Q (.ref l) (upd H l (.lst (cutV xs lo hi)))):p7 (.ref p) lo hi H Q:=by
 show bnd (unL (H p)) _;rw[hp];exact h
end
def cBitI(g:Int->Int->Int):R2
 | .int i,.int j,H,Q=>Q (.int (g i j)) H
 | _,_,_,_=>False
def cShr:R2
 | .int i,.int j,H,Q=>0<=j/\Q (.int (i/2^j.toNat)) H
 | _,_,_,_=>False
abbrev cOr:R2:=cBitI Builtin.bitOr
section
variable{X:Cx}
theorem FA{o:Operator}{g:Int->Int->Int}(h0:OpR X (binaryOp o) (rI0 fun i j=>.int (g i j))):OpR X (binaryOp o) (cBitI g):=by
 intro Md s σ H x y v u Q I rx ry h;unfold cBitI at h
 split at h
 . exact h0 Md s σ H _ _ v u Q I rx ry ⟨_,_,rfl,rfl,h⟩
 . exact h.elim
theorem HP:OpR X (binaryOp .BitOr) cOr:=FA IN
theorem GB:OpR X (binaryOp .RShift) cShr:=by
 intro Md s σ H x y v u Q I rx ry h;unfold cShr at h
 split at h
 . exact Hu Md s σ H _ _ v u Q I rx ry ⟨_,_,rfl,rfl,h.1,h.2⟩
 . exact h.elim
end
section
variable{H:Hp}{Q:VK}{i j:Int}
theorem fQ{g:Int->Int->Int}:cBitI g (.int i) (.int j) H Q=Q (.int (g i j)) H:=rfl
theorem i9:cShr (.int i) (.int j) H Q=(0<=j/\Q (.int (i/2^j.toNat)) H):=rfl
end
section
variable{X:Cx}
def kInt:List V->Hp->VK->Prop
 | [.int i],H,Q=>Q (.int i) H
 | [.bl k],H,Q=>Q (.int (if k then 1 else 0)) H
 | _,_,_=>False
def oU:V->List V->Hp->VK->Prop
 | .int i,[],H,Q=>Q (.int (Builtin.Int.intBits i:Nat)) H
 | _,_,_,_=>False
theorem vp:MtR X "int.bit_length" oU:=by
 intro Md s σ H x vs v us Q I rx rv h;unfold oU at h
 split at h
 . obtain⟨t,rfl⟩:=rx;cases rv;exact call_int_bit_length ⟨.int _,H,I.tok _,⟨_,rfl⟩,h⟩
 . exact h.elim
def cRepL:R2
 | .ref l,.int k,H,Q=>bnd (unM (H l)) fun xs=> -(2^63)<=k/\k<2^63/\xs.length*k.toNat<=sizeLine/\∀ p,H p=none->Q (.ref p) (upd H p (.lst (List.replicate k.toNat xs).flatten))
 | _,_,_,_=>False
theorem z5:OpR X (binaryOp .Mult) cRepL:=by
 intro Md s σ H x y v u Q I rx ry h;unfold cRepL at h
 split at h
 . obtain⟨xs,e,h1,h2,h3,q⟩:=bb h;exact HB Md s σ H _ _ v u Q I rx ry ⟨_,_,xs,rfl,rfl,gU e,h1,h2,h3,q⟩
 . exact h.elim
def kAll:List V->Hp->VK->Prop
 | [.ref p],H,Q=>bnd (unL (H p)) fun ys=>∃ bs:List Bool,ys=bs.map V.bl/\Q (.bl (bs.all id)) H
 | _,_,_=>False
theorem Eo(bs:List Bool):(List.range bs.length).all (fun i=>bs.getD i false)=bs.all id:=by
 rw[MZ,MC,MC];constructor
 . intro h b hb;obtain⟨i,hi,e⟩:=NY.mp hb;have:=h i (MF.mpr hi);rw[List.getD,Mt hi,e] at this;exact this
 . intro h i hi;have hi':i<bs.length:=MF.mp hi;have:=h bs[i] (MT hi')
   simpa [List.getD,hi'] using this
theorem jc:bootBuiltins "all"=some (.builtin "all"):=by decide+kernel
theorem vq:bootBuiltins "sum"=some (.builtin "sum"):=by decide+kernel
theorem dm(hc:X.calm=true):CallR X (.builtin "all") kAll:=by
 intro Md s σ H xs us Q I r h;unfold kAll at h
 split at h
 . rename_i p
   obtain⟨ys,e,bs,rfl,q⟩:=bb h;obtain⟨u,rfl,ru⟩:=cX r;cases ru;obtain⟨Mi,rv,pl,hz⟩:=I.list (ra e);have hl:=rv.length;rw[Mr] at hl
   have hlt:p<s.heap.objs.size:=by
    obtain⟨o,h1,_⟩:=pl.isList;exact M5 h1
   refine call_all_walkS (OL pl.isList ?_);refine⟨s.heap.objs.size,_,_,_,Mi.toArray.size,_,_,fun i=>bs.getD i false,rfl,(Walks.list (A:=X.A.in1) (I.ok.hd hc) s.heap.objs.size p (Nl hlt) Mi.toArray).toS,⟨⟨_,Nf _ rfl,rfl,rfl⟩,pl.isList.push _⟩,?_,fun s' hm=>?_⟩
   . intro i v s1 Q1 E1 hP hQ;have hv:Mi[i]? =some v:=by simpa using hP
     obtain⟨x,hx,rx⟩:=rv.get' hv;obtain⟨b,hb,rfl⟩:∃ b,bs[i]? =some b/\V.bl b=x:=by simpa using hx
     cases rx;refine NZ ?_;have e3:bs.getD i false=b:=by simp[List.getD,hb]
     rw[← e3];exact hQ
   . refine⟨.bl _,H,I.walked (l:=p) hm,?_,q⟩;have e2:Mi.toArray.size=bs.length:=by rw[MX];exact hl.symm
     rw[e2,Eo];rfl
 . exact h.elim
def kSum:List V->Hp->VK->Prop
 | [.ref p],H,Q=>bnd (unL (H p)) fun ys=>∃ ns:List Int,ys=ns.map V.int/\(∀ x∈ns,0<=x/\x<=1000000)/\ns.length<=1000000/\Q (.int ns.sum) H
 | _,_,_=>False
theorem Ep:∀(ns:List Int),(∀ x∈ns,0<=x/\x<=1000000)->0<=ns.sum/\ns.sum<=1000000*ns.length
 | [],_=>by simp
 | n::r,h=>by
  have ih:=Ep r fun x hx=>h x (MI _ hx);have h1:=h n MD;rw[N9,M3];omega
theorem nn(hc:X.calm=true):CallR X (.builtin "sum") kSum:=by
 intro Md s σ H xs us Q I r h;unfold kSum at h
 split at h
 . rename_i p
   obtain⟨ys,e,ns,rfl,hb,hn,q⟩:=bb h;obtain⟨u,rfl,ru⟩:=cX r;cases ru;obtain⟨Mi,rv,pl,hz⟩:=I.list (ra e);have hl:=rv.length;rw[Mr] at hl
   have hlt:p<s.heap.objs.size:=by
    obtain⟨o,h1,_⟩:=pl.isList;exact M5 h1
   have e2:Mi.toArray.size=ns.length:=by rw[MX];exact hl.symm
   refine call_sum_walkS (OL pl.isList ?_);refine⟨s.heap.objs.size,_,_,_,Mi.toArray.size,_,_,fun i=>ns.getD i 0,rfl,(Walks.list (A:=X.A.in1) (I.ok.hd hc) s.heap.objs.size p (Nl hlt) Mi.toArray).toS,⟨⟨_,Nf _ rfl,rfl,rfl⟩,pl.isList.push _⟩,?_,?_,?_,fun s' t' hm=>?_⟩
   . intro b hb';show b < (s.heap.push _).objs.size;rw[Oj];simp only[MS,NP,O5] at hb';rcases hb' with rfl | rfl
     . exact OU _
     . exact N0 hlt
   . intro i v hP;have hv:Mi[i]? =some v:=by simpa using hP
     obtain⟨x,hx,rx⟩:=rv.get' hv;obtain⟨b,hb',rfl⟩:∃ b,ns[i]? =some b/\V.int b=x:=by simpa using hx
     obtain⟨t,rfl⟩:=rx;exact⟨t,by simp[List.getD,hb']⟩
   . intro j hj;rw[e2] at hj;refine⟨?_,?_⟩
     . have:=hb ns[j] (MT hj);have e3:ns.getD j 0=ns[j]:=by simp[List.getD,hj]
       show InLong (ns.getD j 0);rw[e3];exact⟨by omega,by omega⟩
     . rw[preSum_getD];have h1:=Ep (ns.take (j+1)) fun x hx=>hb x (List.mem_of_mem_take hx);have h2:(ns.take (j+1)).length<=ns.length:=by rw[NO];omega
       exact⟨by omega,by omega⟩
   . refine⟨.int ns.sum,H,I.walked (l:=p) hm,⟨t',?_⟩,q⟩;rw[e2,preSum_getD,Nt]
 . exact h.elim
def Itd(hi:Int)(n:Nat):It:=⟨fun i _=>i<n,fun i H x H'=>H'=H/\x=.int (hi-i),fun i _=>n<=i⟩
def iRngD(ta:TA):TI:=fun σ H R=>ta σ H fun vs H1=>∃ i j:Int,vs=[.int i,.int j,.int (-1)]/\(-(2^60)<=i/\i<2^60/\ -(2^60)<=j/\j<2^60)/\R (Itd i (i-j).toNat) H1
end
section
variable{K:Frag}{g:TG}{tb:TS}{D:Ends}{σ:St}{H:Hp}{ta:TA}{Q:VK}
theorem fR{k:Bool}:kInt [.bl k] H Q=Q (.int (if k then 1 else 0)) H:=rfl
theorem fS{i:Int}:kInt [.int i] H Q=Q (.int i) H:=rfl
theorem cD{i:Int}:oU (.int i) [] H Q=Q (.int (Builtin.Int.intBits i:Nat)) H:=rfl
theorem lS{p:Addr}{bs:List Bool}(hp:H p=some (.lst (bs.map V.bl)))(h:Q (.bl (bs.all id)) H):kAll [.ref p] H Q:=by
 show bnd (unL (H p)) _;rw[hp];exact ba (a:=bs.map V.bl) rfl ⟨bs,rfl,h⟩
theorem zD{p:Addr}{ns:List Int}(hp:H p=some (.lst (ns.map V.int)))(hb:∀ x∈ns,0<=x/\x<=1000000)(hn:ns.length<=1000000)(h:Q (.int ns.sum) H):kSum [.ref p] H Q:=by
 show bnd (unL (H p)) _;rw[hp];exact ba (a:=ns.map V.int) rfl ⟨ns,rfl,hb,hn,h⟩
theorem Er{p:Addr}{xs:List V}{k:Int}(hp:H p=some (.lst xs))(h0:0<=k)(h1:k<=1000)(hn:xs.length<=1)(h:∀ l,H l=none->Q (.ref l) (upd H l (.lst (List.replicate k.toNat xs).flatten))):cRepL (.ref p) (.int k) H Q:=by
 show bnd (unM (H p)) _;rw[hp];refine ba (a:=xs) rfl ⟨by omega,by omega,?_,h⟩;refine Nj (aK (ML (O6 _ hn) ?_));omega
theorem dL:tFor (iRngD ta) g tb D σ H=ta σ H fun vs H1=>∃ i j:Int,vs=[.int i,.int j,.int (-1)]/\(-(2^60)<=i/\i<2^60/\ -(2^60)<=j/\j<2^60)/\LoopR (Itd i (i-j).toNat) g tb D σ H1:=rfl
end
section
variable{X:Cx}
def Ite(K:Frag)(a:Addr):It:=
 ⟨fun i H=>∃ xs x,SqL K H a xs/\xs[i]? =some x,
  fun i H v H'=>∃ T x,v=.ref T/\H T=none/\H'=upd H T (.tup [.int i,x])/\∀ xs,SqL K H a xs->xs[i]? =some x,
  fun i H=>∃ xs,SqL K H a xs/\xs.length<=i⟩
def ESt(a e it:Addr)(i:Nat)(h:Heap):Prop:=(∃ old,IsEnum h e it i old)/\h.IsListIter it a i
theorem Es{P:Program}{w:World}{K:Frag}{es:List Expr}{x1:Nat}{pos:Pos}(a e it:Addr):
  Turn P w K (.Tuple es x1 pos) (Ite K a) [e,it] e (ESt a e it) where
 mem:=by simp
 obj:=fun i h st c hc=>by
  obtain⟨⟨old,he⟩,⟨o1,e1,c1,f1⟩⟩:=st;simp only[MS,NP,O5] at hc;rcases hc with rfl | rfl
  . exact⟨_,he,fun v z=>by have z':Data.fields _=Data.cell v:=z;cases z'⟩
  . exact⟨_,e1,fun v z=>by rw[f1] at z;cases z⟩
 keep:=fun i h h' st k=>by
  obtain⟨⟨old,he⟩,h1⟩:=st;exact⟨⟨old,k e (by simp) _ he⟩,h1.at fun o q=>k it (by simp) o q⟩
 item:=by
  intro X hP hw hK hc i Md s σ H E I hf st hg;subst hP hw hK;obtain⟨xs,x,hq1,hx⟩:=hg;obtain⟨its1,rv1,p1,hz1⟩:=I.list hq1;obtain⟨u1,hu1,ru1⟩:=rv1.get hx;obtain⟨⟨old,he⟩,⟨o1,e1,c1,f1⟩⟩:=id st;have hne:e≠it:=HM he e1 rfl c1 (by decide);refine wpAny_pyNext_enum_item he ⟨o1,e1,c1,f1⟩ p1.isList (x:=u1) (by simpa using hu1) hne fun h' a1 a2 a3 a4 hk=>?_;refine⟨_,rfl,wpAny_letOwnedTupleGo_enum a1 fun h2 hz2 sb=>?_⟩;have hT:H s.heap.objs.size=none:=I.fresh;have lt:∀{c o},s.heap.get? c=some o->c≠s.heap.objs.size:=fun e=>Nl (M5 e)
  have kp:∀ c o,c∉[e,it]->s.heap.get? c=some o->h2.get? c=some o:=fun c o hc q=>by
   simp only[MS,NP,O5,not_or] at hc;exact sb.extBut _ _ hc.1 (hk c o hc.1 hc.2 q)
  have hTe:s.heap.objs.size≠e:=(lt he).symm;have gT:h2.get? s.heap.objs.size=some {cls:=.type "tuple",data:=.seq #[.int i s.toks,u1]}:=sb.extBut _ _ hTe a3;have nH:∀ c∈[e,it],H c=none:=fun c hc=>(hf c hc).1;refine⟨.ref s.heap.objs.size,upd H s.heap.objs.size (.tup [.int i,x]),I.call' (s':={s with heap:=h2,toks:=s.toks+1}) (ch:=[e,it]) rfl ⟨fun c o e n _ hx=>kp c o hx e,fun c o e n _ hx=>⟨o.slots,kp c o hx e⟩,fun c o e n _=>by rw[aq (lt e)];exact n,fun c o e hx=>⟨o,kp c o hx e⟩,fun c xs e=>by rw[aq (aC e hT)];exact e,fun c o u e=>by rw[aq (aC e hT)];exact e,fun c ps e=>⟨#[],by rw[aq (aC e hT),e];simp⟩⟩ ?_ I.bare ?_,rfl,⟨_,x,rfl,hT,rfl,fun zs hz'=>by rw[I.list_inj hz' hq1];exact hx⟩,?_,?_⟩
  . intro c ob e;by_cases hb:c=s.heap.objs.size
    . subst hb;rw[ak] at e;cases e;exact⟨by show(2:Nat)<=sizeLine;exact Nj (aK (by decide)),[.int i s.toks,u1],.cons ⟨_,rfl⟩ (.cons ru1 .nil),⟨_,gT,rfl,_,rfl⟩⟩
    . rw[aq hb] at e;refine(I.hok c ob e).stay (fun d w' hd g=>kp d w' ?_ g) (fun d g=>by rw[aq (aC g hT)];exact g) fun d xs g=>by rw[aq (aC g hT)];exact g
      intro hm;rcases hd with rfl | hd
      . rw[nH _ hm] at e;cases e
      . rw[nH _ hm] at hd;cases hd
  . intro c hc;obtain⟨f0,f1,f2,f3,f4,f5⟩:=hf c hc;exact⟨f3,f1,f4,f5⟩
  . exact⟨⟨_,hz2⟩,a2.extBut sb.extBut hne.symm⟩
  . intro c hc
    obtain⟨o,q⟩:∃ o,s.heap.get? c=some o:=by
     simp only[MS,NP,O5] at hc;rcases hc with rfl | rfl
     . exact⟨_,he⟩
     . exact⟨_,e1⟩
    rw[aq (lt q)];exact(hf c hc).1
 done:=by
  intro X hP hw hK hc i Md s σ H E I hf st hg;subst hP hw hK;obtain⟨xs,hq1,hx⟩:=hg;obtain⟨its1,rv1,p1,hz1⟩:=I.list hq1;have hl1:=rv1.length;obtain⟨⟨old,he⟩,⟨o1,e1,c1,f1⟩⟩:=id st;have hend:its1.toArray[i]? =none:=by simp;omega
  obtain⟨f0,f1',f2,f3,f4,f5⟩:=hf it (by simp);exact wpAny_pyNext_enum_end (I.ok.hd hc) he ⟨o1,e1,c1,f1⟩ p1.isList hend fun h' eb=>⟨rfl,I.turned (t':=s.toks) (fun b o hb e=>eb b o hb e) f0 f1' f3 f4 f5⟩
 self:=fun _ _ _ _ _ st h=>by
  obtain⟨⟨old,he⟩,_⟩:=st;exact wpAny_pyIter_enum he h
def iEnum(K:Frag)(ta:TA):TI:=fun σ H R=>ta σ H fun vs H1=>∃ a,vs=[.ref a]/\(∃ xs,SqL K H1 a xs)/\R (Ite K a) H1
theorem z6:bootBuiltins "enumerate"=some (.type "enumerate"):=by decide+kernel
theorem w5{es:List Expr}{x1:Nat}{tpos:Pos}{e1:Expr}{ta:TA}{p pos:Pos}(hg:Gl X "enumerate")(hm:X.mg "enumerate"=none)(ha:PA X [e1] ta)(hs:starEach [e1] X.env=[(false,eval e1 X.env)]:=by rfl):
  PI X (.Tuple es x1 tpos) (.Call (.Name "enumerate" p) [e1] [] pos) (iEnum X.K ta):=by
 intro Md s σ H R I h;refine Call_ (gS I hg hm z6 (Nw (thn (ha pos Md s σ H _ I h) fun us s1 ⟨vs,H1,I1,r1,q1⟩=>?_) hs rfl));obtain⟨a,rfl,⟨xs,hq1⟩,q⟩:=q1;obtain⟨u1,rfl,ru1⟩:=cX r1;cases ru1;obtain⟨its1,rv1,p1,hz1⟩:=I1.list hq1;refine call_enumerate_list p1.isList fun h' a1 a2 a3 hk=>?_;refine wpAny_pyIter_enum a1 ?_;have I2:Inv X Md σ H1 {s1 with heap:=h',toks:=s1.toks}:=I1.kept hk;refine⟨s1.heap.objs.size+1,[s1.heap.objs.size+1,s1.heap.objs.size],ESt a (s1.heap.objs.size+1) s1.heap.objs.size,Ite X.K a,H1,rfl,I2,Es a (s1.heap.objs.size+1) s1.heap.objs.size,⟨⟨_,a1⟩,a2⟩,fun c hc=>?_,q⟩
 have hge:s1.heap.objs.size<=c:=by
  simp only[MS,NP,O5] at hc;rcases hc with rfl | rfl <;> omega
 exact I1.fpOk hge (I1.hok.fresh hge)
end
section
variable{K:Frag}{g:TG}{tb:TS}{D:Ends}{σ:St}{H:Hp}{ta:TA}{Q:VK}{ix:List (Option Nat)}{tt:TT}{te:TE}{k:Nat}
theorem fT:tFor (iEnum K ta) g tb D σ H=ta σ H fun vs H1=>∃ a,vs=[.ref a]/\(∃ xs,SqL K H1 a xs)/\LoopR (Ite K a) g tb D σ H1:=rfl
theorem dM:tComp ix (iEnum K ta) g tt te σ H Q=ta σ H fun vs H1=>∃ a,vs=[.ref a]/\(∃ xs,SqL K H1 a xs)/\CompR (Ite K a) g tt te (fun l H'=>Q (.ref l) H') (subσ ix σ) H1:=rfl
theorem cE:sComp k ix (iEnum K ta) g tt te D σ H=ta σ H fun vs H1=>∃ a,vs=[.ref a]/\(∃ xs,SqL K H1 a xs)/\CompR (Ite K a) g tt te (fun l H'=>D.nx (σ.set k (some (.ref l))) H') (subσ ix σ) H1:=rfl
theorem Et {a:Addr} {xs:List V} {fin:Addr->Hp->Prop} {σ0:St} {H1:Hp} (Pv:Addr->Nat->St->Hp->Prop) (h0:∀ l,H1 l=none->Pv l 0 σ0 (upd H1 l (.lst []))) (hq:∀ l i σ H,H1 l=none->i<=xs.length->Pv l i σ H->SqL K H a xs)
  (hs:∀ l i x T σ H,H1 l=none->xs[i]? =some x->Pv l i σ H->H T=none->g (.ref T) σ (upd H T (.tup [.int i,x])) fun σ2 H3=>tt σ2 H3 fun b H4=>if b=true then te σ2 H4 fun y H5=>∃ ys,H5 l=some (.lst ys)/\ys.length<sizeLine/\Pv l (i+1) σ2 (upd H5 l (.lst (ys++[y]))) else Pv l (i+1) σ2 H4)
  (hd:∀ l σ H,H1 l=none->Pv l xs.length σ H->fin l H):CompR (Ite K a) g tt te fin σ0 H1:=by
 intro l hl0;refine⟨fun i m σ H=>m=xs.length-i/\i<=xs.length/\Pv l i σ H,⟨xs.length,by simp,Nu _,h0 l hl0⟩,?_⟩;rintro i m σ H ⟨rfl,hi,p⟩;have q:=hq l i σ H hl0 hi p;by_cases hlt:i<xs.length
 . refine .inr ⟨⟨xs,xs[i],q,by simp[hlt]⟩,Pv l (i+1),fun σ' H' p'=>⟨xs.length - (i+1),by omega,rfl,hlt,p'⟩,fun v H' y=>?_⟩;obtain⟨T,x,rfl,hT,rfl,e⟩:=y;exact hs l i x T σ _ hl0 (e xs q) p hT
 . have e:i=xs.length:=by omega
   subst e;exact .inl ⟨⟨xs,q,MW _⟩,hd l σ H hl0 p⟩
theorem p8 {a:Addr} {xs:List V} {fin:Addr->Hp->Prop} {σ0:St} {H1:Hp} {k1 k2:Nat} (b:Nat->Bool) (f:Nat->V) (hn:xs.length<=900) (hne:k1≠k2) (hq:SqL K H1 a xs)
  (ht:∀(i:Nat) x H R,xs[i]? =some x->Same H1 H->(∀ H',Same H H'->R (b i) H')->tt ((σ0.set k1 (some (.int (i:Int)))).set k2 (some x)) H R)
  (he:∀(i:Nat) x H Q,xs[i]? =some x->b i=true->Same H1 H->(∀ H',Same H H'->Q (f i) H')->te ((σ0.set k1 (some (.int (i:Int)))).set k2 (some x)) H Q)
  (hd:∀ l H,H1 l=none->Same H1 H->H l=some (.lst (((List.range xs.length).filter b).map f))->fin l H):
  CompR (Ite K a) (gTup K 2 (gCons (gName k1) (gCons (gName k2) gNil))) tt te fin σ0 H1:=by
 refine Et (xs:=xs) (fun l i σ H=>(σ=σ0\/∃ c1 c2,σ=(σ0.set k1 c1).set k2 c2)/\Same H1 H/\H l=some (.lst (((List.range i).filter b).map f))) (fun l hl=>⟨.inl rfl,fun b u e=>by rw[aq (aC e hl)];exact e,by rw[ak];rfl⟩) (fun l i σ H _ _ p=>p.2.1.seq hq) ?_ (fun l σ H hl p=>hd l H hl p.2.1 p.2.2);rintro l i x T σ H hl hx ⟨hσ,s1,el⟩ hT;have hi:i<xs.length:=(My.mp hx).1;have sT:Same H (upd H T (.tup [.int i,x])):=fun b u e=>by rw[aq (aC e hT)];exact e
 refine⟨T,_,rfl,Qa ak,rfl,_,_,rfl,_,_,rfl,rfl,?_⟩
 have e:(σ.set k1 (some (.int i))).set k2 (some x)=(σ0.set k1 (some (.int i))).set k2 (some x):=by
  rcases hσ with rfl | ⟨c1,c2,rfl⟩
  . rfl
  . rw[List.set_comm _ _ (Pg hne),N8,N8,List.set_comm _ _ hne]
 show tt ((σ.set k1 (some (.int i))).set k2 (some x)) _ _;rw[e];refine ht i x _ _ hx (s1.trans sT) fun H2 s2=>?_;have el2:=s2 _ _ (sT _ _ el);have s12:=(s1.trans sT).trans s2;have own:∀{H3:Hp} {o:HO},Same H1 H3->Same H1 (upd H3 l o):=fun s b u e=>by rw[aq (aC e hl)];exact s b u e
 have Mn:∀ i,i<=900->(((List.range i).filter b).map f).length<sizeLine:=fun i hi=>by
  rw[Mr];refine aK (ML (MM b _) ?_);rw[Nv];omega
 cases hb:b i with
 | false=>
  rw[MP ME];refine⟨.inr ⟨_,_,rfl⟩,s12,?_⟩;rw[NB,Nd,Ni,hb]
  simpa using el2
 | true=>
  rw[MU rfl];refine he i x H2 _ hx hb s12 fun H3 s3=>⟨_,s3 _ _ el2,Mn i (by omega),.inr ⟨_,_,rfl⟩,own (s12.trans s3),?_⟩;rw[ak,NB,Nd,Ni,hb];simp
end
def rngL(i j:Int):List Int:=(List.range (j-i).toNat).map fun(k:Nat)=>i+(k:Int)
theorem j9(i j:Int):(rngL i j).length=(j-i).toNat:=by unfold rngL;simp
theorem tU:∀{xs:List V} {us:List Value},xs.length=us.length->(∀(i:Nat) x u,xs[i]? =some x->us[i]? =some u->RelV x u)->Vals xs us
 | [],[],_,_=>.nil
 | [],_::_,h,_=>by simp at h
 | _::_,[],h,_=>by simp at h
 | x::xs,u::us,h,f=>.cons (f 0 x u rfl rfl) (tU (by simpa using h) fun i y e h1 h2=>f (i+1) y e (by simpa using h1) (by simpa using h2))
theorem FB{i j:Int}{acc:Array Value}(h:ItemsOf (fun k v=>∃ t,v=.int (i+k*1) t) acc (j-i).toNat):Vals ((rngL i j).map V.int) acc.toList:=by
 refine tU (by rw[Mr,j9,OD];exact h.1.symm) fun k x u hx hu=>?_;obtain⟨t,rfl⟩:=h.2 k u (by simpa using hu);unfold rngL at hx;rw[Na,MA] at hx;by_cases hk:k < (j-i).toNat
 . rw[Ny hk] at hx;cases hx;exact⟨t,by rw[Int.mul_one]⟩
 . rw[M7 (by simpa using hk)] at hx;cases hx
section
variable{X:Cx}
def kT(ta:TA):TE:=fun σ H Q=>ta σ H fun vs H1=>∃ j:Int,vs=[.int j]/\ -(2^60)<=j/\j<=1000/\∀ l,H1 l=none->Q (.ref l) (upd H1 l (.lst ((rngL 0 j).map V.int)))
def Eu(ta:TA):TE:=fun σ H Q=>ta σ H fun vs H1=>∃ i j:Int,vs=[.int i,.int j]/\(0<=i/\i<=1000/\ -(2^60)<=j/\j<=1000)/\∀ l,H1 l=none->Q (.ref l) (upd H1 l (.lst ((rngL i j).map V.int)))
theorem FC {Md:List (Addr × Obj)} {σ:St} {H1:Hp} {s1:Shared} {Q:VK} {i j:Int} {t u v:Tok} {tk:Nat} {A:Around} {E:Value->Shared->Prop} (hh:A.handled=none) (I1:Inv X Md σ H1 s1) (h1:0<=i) (h2:i<=1000) (h3: -(2^60)<=j) (h4:j<=1000)
  (q:∀ l,H1 l=none->Q (.ref l) (upd H1 l (.lst ((rngL i j).map V.int)))):
  wpAny (model X.prog X.w) A (call (.type "list") [.ref s1.heap.objs.size]) (EP X Md σ Q) E {s1 with heap:=s1.heap.push {cls:=.type "range",data:=.fields #[.int i t,.int j u,.int 1 v]},toks:=tk}:=by
 have I2:Inv X Md σ H1 {s1 with heap:=s1.heap.push {cls:=.type "range",data:=.fields #[.int i t,.int j u,.int 1 v]},toks:=tk}:=I1.kept fun b o e=>MV _ e;refine call_list_range (n:=(j-i).toNat) hh (IsRange.new ..) (small_one (by omega) (by omega) (by omega) (by omega)) (by rw[rangeSize_one];split <;> omega) (by omega) fun h' tk' acc' c' old hS' hacc=>?_;have Mn:((rngL i j).map V.int).length<=sizeLine:=by rw[Mr,j9];exact Nj (aK (by omega))
 exact⟨.ref _,_,I2.laid (t':=tk') (o:=.lst ((rngL i j).map V.int)) old (MW _) ⟨Mn,acc'.toList,c',FB hacc,hS'⟩,rfl,q _ (I2.hok.fresh (MW _))⟩
theorem og {a:Expr} {ta:TA} {p p2 pos pos2:Pos} (hc:X.calm=true) (hgl:Gl X "list") (hgr:Gl X "range") (hl:X.mg "list"=none) (hr:X.mg "range"=none) (ha:PA X [a] ta)
  (hs1:starEach [.Call (.Name "range" p2) [a] [] pos2] X.env=[(false,eval (.Call (.Name "range" p2) [a] [] pos2) X.env)]:=by rfl) (hs:starEach [a] X.env=[(false,eval a X.env)]:=by rfl):
  PE X (.Call (.Name "list" p) [.Call (.Name "range" p2) [a] [] pos2] [] pos) (kT ta):=by
 intro Md s σ H Q I h;refine NX (gS I hgl hl bQ ?_ (by decide) (by decide));refine Nw ?_ hs1 rfl;rw[hs1];show wpAny _ _ (spliced [(false,eval (.Call (.Name "range" p2) [a] [] pos2) X.env)]) _ _ s;refine OH ?_;refine Call_ (gS I hgr hr boot_range (Nw (thn (ha pos2 Md s σ H _ I h) fun us s1 ⟨vs,H1,I1,r1,q1⟩=>?_) hs rfl));obtain⟨j,e,q1,q2,q⟩:=q1;subst e
 cases r1 with
 | cons r rr=>
  cases rr;obtain⟨t,rfl⟩:=r;refine call_range_1 ?_;refine OM ?_;exact FC (I.ok.hd hc) I1 (by omega) (by omega) q1 q2 q
end
section
variable{σ:St}{H:Hp}{Q:VK}{ta:TA}
theorem dN:kT ta σ H Q=ta σ H fun vs H1=>∃ j:Int,vs=[.int j]/\ -(2^60)<=j/\j<=1000/\∀ l,H1 l=none->Q (.ref l) (upd H1 l (.lst ((rngL 0 j).map V.int))):=rfl
theorem dO:Eu ta σ H Q=ta σ H fun vs H1=>∃ i j:Int,vs=[.int i,.int j]/\(0<=i/\i<=1000/\ -(2^60)<=j/\j<=1000)/\∀ l,H1 l=none->Q (.ref l) (upd H1 l (.lst ((rngL i j).map V.int))):=rfl
end
end L2
namespace L2
def besL(h w c:Int):List Int:=(if 0<c/w then [c-w] else [])++(if 0<c%w then [c-1] else [])++(if c%w<w-1 then [c+1] else [])++(if c/w<h-1 then [c+w] else [])
inductive RC(h w:Int)(cs:List Int)(st:Int):Int->Prop
 | start:st∈cs->RC h w cs st st
 | step {x y:Int}:RC h w cs st x->y∈besL h w x->y∈cs->RC h w cs st y
variable{h w x:Int}{cs:List Int}
theorem RC.mem{st:Int}(r:RC h w cs st x):x∈cs:=by cases r <;> assumption
theorem RC.st{st:Int}(r:RC h w cs st x):st∈cs:=by
 induction r with
 | start h=>exact h
 | step _ _ _ ih=>exact ih
theorem lT:∀{xs ys:List Int},xs.Nodup->(∀ x∈xs,x∈ys)->xs.length<=ys.length
 | [],_,_,_=>Nu _
 | x::xs,ys,nd,h=>by
  have hx:=h x MD;have nd':=Nm.mp nd
  have ih:=lT (xs:=xs) (ys:=ys.erase x) nd'.2 fun y hy=>by
   have ne:y≠x:=fun e=>nd'.1 (e ▸ hy);exact(List.mem_erase_of_ne ne).mpr (h y (MI _ hy))
  rw[List.length_erase_of_mem hx] at ih;have:0<ys.length:=PY hx;simp only[M3];omega
structure BI(h w:Int)(cs:List Int)(st:Int)(fs:List Int)(pl:Nat):Prop where
 nd:fs.Nodup
 rc:∀ x∈fs,RC h w cs st x
 hst:st∈fs
 le:pl<=fs.length
 cl:∀(i:Nat) (x y:Int),i<pl->fs[i]? =some x->y∈besL h w x->y∈cs->y∈fs
variable{pl:Nat}
theorem BI.len{st:Int}{fs:List Int}(b:BI h w cs st fs pl):fs.length<=cs.length:=lT b.nd fun x hx=>(b.rc x hx).mem
theorem BI.start{st:Int}(hs:st∈cs):BI h w cs st [st] 0:=
 ⟨by simp,fun x hx=>by rw[MN.mp hx];exact .start hs,by simp,Nu _,fun i x y hi=>absurd hi (Nat.not_lt_zero _)⟩
theorem BI.done{st:Int}{fs:List Int}(b:BI h w cs st fs pl)(e:¬ pl<fs.length)(x:Int):x∈fs↔RC h w cs st x:=by
 refine⟨b.rc x,fun r=>?_⟩
 induction r with
 | start _=>exact b.hst
 | step r hy hc ih=>
  obtain⟨i,hi⟩:=List.getElem?_of_mem ih;have hlt:i<fs.length:=(My.mp hi).1;exact b.cl i _ _ (by omega) hi hy hc
def addC(cs fs:List Int)(y:Int):List Int:=if y∈cs/\¬ y∈fs then fs++[y] else fs
structure BJ(h w:Int)(cs:List Int)(st:Int)(f0:List Int)(pl:Nat)(bs:List Int)(fs:List Int):Prop where
 nd:fs.Nodup
 rc:∀ x∈fs,RC h w cs st x
 pre:f0 <+:fs
 al:∀ y∈bs,y∈cs->y∈fs
theorem BJ.zero{st:Int}{fs:List Int}(b:BI h w cs st fs pl):BJ h w cs st fs pl [] fs:=⟨b.nd,b.rc,List.prefix_refl _,fun y hy=>nomatch hy⟩
theorem BJ.more{st:Int}{f0 fs bs:List Int}{y:Int}(j:BJ h w cs st f0 pl bs fs)(hx:RC h w cs st x)(hy:y∈besL h w x):BJ h w cs st f0 pl (bs++[y]) (addC cs fs y):=by
 unfold addC
 split
 . rename_i hc
   refine⟨?_,fun z hz=>?_,j.pre.trans (List.prefix_append _ _),fun z hz hzc=>?_⟩
   . refine Of.mpr ⟨j.nd,by simp,fun a ha b hb=>?_⟩;rw[MN.mp hb];intro e;exact hc.2 (e ▸ ha)
   . rcases M0.mp hz with hz | hz
     . exact j.rc z hz
     . rw[MN.mp hz];exact .step hx hy hc.1
   . rcases M0.mp hz with hz | hz
     . exact O3 _ (j.al z hz hzc)
     . rw[MN.mp hz];simp
 . rename_i hc
   refine⟨j.nd,j.rc,j.pre,fun z hz hzc=>?_⟩;rcases M0.mp hz with hz | hz
   . exact j.al z hz hzc
   . rw[MN.mp hz] at hzc ⊢;exact Pt fun n=>hc ⟨hzc,n⟩
theorem BJ.done{st:Int}{f0 fs:List Int}(b:BI h w cs st f0 pl)(hx:f0[pl]? =some x)(j:BJ h w cs st f0 pl (besL h w x) fs):BI h w cs st fs (pl+1):=by
 have hlt:pl<f0.length:=(My.mp hx).1;have hle:=j.pre.length_le
 have get:∀ i,i<f0.length->fs[i]? =f0[i]? :=fun i hi=>by
  obtain⟨t,e⟩:=j.pre;rw[← e,Nc hi]
 refine⟨j.nd,j.rc,j.pre.subset b.hst,by omega,fun i z y hi hz hy hc=>?_⟩;rw[get i (by omega)] at hz;by_cases e:i<pl
 . exact j.pre.subset (b.cl i z y e hz hy hc)
 . have:i=pl:=by omega
   subst this;rw[hx] at hz;cases hz;exact j.al y hy hc
theorem Ev{rs fs:List Int}(p:rs.Perm fs)(s:rs.Pairwise (· <=·))(nd:fs.Nodup):rs.Pairwise (· < ·):=by
 have nd':rs.Nodup:=p.nodup_iff.mpr nd;refine(s.and nd').imp ?_;intro a b h;have:=h.1;have:=h.2;omega
theorem vt:∀{xs ys:List Int},xs.Pairwise (· < ·)->ys.Pairwise (· < ·)->(∀ z,z∈xs↔z∈ys)->xs=ys
 | [],[],_,_,_=>rfl
 | [],y::ys,_,_,h=>absurd ((h y).mpr MD) (fun q=>nomatch q)
 | x::xs,[],_,_,h=>absurd ((h x).mp MD) (fun q=>nomatch q)
 | x::xs,y::ys,hx,hy,h=>by
  have hx':=Po.mp hx;have hy':=Po.mp hy
  have e:x=y:=by
   rcases MS.mp ((h x).mp MD) with e | m1
   . exact e
   . rcases MS.mp ((h y).mpr MD) with e | m2
     . exact e.symm
     . have:=hy'.1 x m1;have:=hx'.1 y m2;omega
  subst e;refine congrArg (x::·) (vt hx'.2 hy'.2 fun z=>⟨fun m=>?_,fun m=>?_⟩)
  . rcases MS.mp ((h z).mp (MI _ m)) with e | q
    . have:=hx'.1 z m;omega
    . exact q
  . rcases MS.mp ((h z).mpr (MI _ m)) with e | q
    . have:=hy'.1 z m;omega
    . exact q
theorem RC.trans{a b c:Int}(r:RC h w cs a b)(q:RC h w cs b c):RC h w cs a c:=by
 induction q with
 | start _=>exact r
 | step _ hy hc ih=>exact .step ih hy hc
theorem GC{y:Int}:y∈besL h w x↔(0<x/w/\y=x-w)\/(0<x%w/\y=x-1)\/(x%w<w-1/\y=x+1)\/(x/w<h-1/\y=x+w):=by
 unfold besL;simp only[M0];constructor
 . rintro(((q | q) | q) | q)
   . split at q
     . simp at q;exact .inl ⟨by assumption,q⟩
     . cases q
   . split at q
     . simp at q;exact .inr (.inl ⟨by assumption,q⟩)
     . cases q
   . split at q
     . simp at q;exact .inr (.inr (.inl ⟨by assumption,q⟩))
     . cases q
   . split at q
     . simp at q;exact .inr (.inr (.inr ⟨by assumption,q⟩))
     . cases q
 . rintro(⟨q,rfl⟩ | ⟨q,rfl⟩ | ⟨q,rfl⟩ | ⟨q,rfl⟩)
   . rw[MU q];simp
   . rw[MU q];simp
   . rw[MU q];simp
   . rw[MU q];simp
theorem z7{y:Int}(w0:0<w)(x0:0<=x)(x1:x<h*w)(m:y∈besL h w x):x∈besL h w y:=by
 have m0:=NV x (Qj w0);have m1:=NH x w0;have e:=P6 x w;have q0:0<=x/w:=Int.ediv_nonneg x0 (Int.le_of_lt w0)
 have q1:x/w<h:=by
  refine Int.ediv_lt_of_lt_mul w0 ?_;exact x1
 rw[GC] at m ⊢;generalize x/w=q at*;generalize x%w=r at*;rcases m with ⟨c,rfl⟩ | ⟨c,rfl⟩ | ⟨c,rfl⟩ | ⟨c,rfl⟩
 . have u:=(Oz (a:=x-w) (q:=q-1) (r:=r) w0).mpr ⟨by rw[Int.mul_sub];omega,m0,m1⟩;exact .inr (.inr (.inr ⟨by rw[u.1];omega,by omega⟩))
 . have u:=(Oz (a:=x-1) (q:=q) (r:=r-1) w0).mpr ⟨by omega,by omega,by omega⟩;exact .inr (.inr (.inl ⟨by rw[u.2];omega,by omega⟩))
 . have u:=(Oz (a:=x+1) (q:=q) (r:=r+1) w0).mpr ⟨by omega,by omega,by omega⟩;exact .inr (.inl ⟨by rw[u.2];omega,by omega⟩)
 . have u:=(Oz (a:=x+w) (q:=q+1) (r:=r) w0).mpr ⟨by rw[Int.mul_add];omega,m0,m1⟩;exact .inl ⟨by rw[u.1];omega,by omega⟩
theorem RC.symm{a b:Int}(w0:0<w)(hcs:∀ x∈cs,0<=x/\x<h*w)(r:RC h w cs a b):RC h w cs b a:=by
 induction r with
 | start m=>exact .start m
 | step r hy hc ih=>
  have hx:=r.mem;exact RC.trans (.step (.start hc) (z7 w0 (hcs _ hx).1 (hcs _ hx).2 hy) hx) ih
end L2
namespace L2
open PySem PySem.Spec PyProof.Rows
def wk9(t:String):Lean.MacroM Lean.Syntax:=do
 let x<-(t.splitOn " ").toArray.mapM fun s=>`(Lean.Parser.Tactic.simpLemma|$(Lean.mkIdent s.toName):term)
 `(tactic|(first|simp only[$x,*]|dsimp only|skip))
def ws1:String:="aE cy bI bf cZ c5 w_c gn cR c6 cA c7 w_b w_not ff i4 c9 da fg dG b9 i5 db fh dZ gp fj cB dc de df b5 b6 bD bJ bK bv fk fm fq ft fu fv fw fz fA fC fD fE i7 dg bL dh i8 di b7 bM fF fG dj cC dk List.getElem?_cons_zero List.getElem?_cons_succ Option.some.injEq exists_eq_left' exists_eq_left List.set_cons_zero List.set_cons_succ bB V.int.injEq V.bl.injEq V.ref.injEq V.str.injEq List.nil_append List.cons_append"
local macro_rules|`(tactic|walk_at "w")=>wk9 ws1
local macro_rules|`(tactic|symm)=>`(tactic|walk_at "w")
theorem aR{n:Nat}(h:n<=1000):n<=sizeLine:=Nj (aK h)
theorem lnR{n:Nat}(h:Nat.ble n 1000=true):n<=sizeLine:=aR (Nq h)
def IsFl(H:Hp)(a:Addr)(h w g:Int):Prop:=H a=some (.tup [.int h,.int w,.int g])
variable{H:Hp}{p:Addr}
theorem Same.laid{H':Hp}{o:HO}(s:Same H H')(h:H' p=none):Same H (upd H' p o):=fun b u e=>by
 rw[aq (aC (s b u e) h)];exact s b u e
theorem aY{U:Addr}(O:HO)(h:H U=none):∃ z,upd H U O=z/\Same H z/\z U=some O:=⟨_,rfl,(Mw H).laid h,ak⟩
theorem Same.own{H':Hp}{o:HO}(s:Same H H')(h:H p=none):Same H (upd H' p o):=fun b u e=>by
 rw[aq (aC e h)];exact s b u e
variable{l:List Int}{i:Nat}
theorem eJ{x:Int}(h:l[i]? =some x):l.getD i 0=x:=by
 rw[List.getD,h];rfl
variable{ns:List Int}
theorem ux{k:Int}(h0:0<=k)(h1:k<ns.length):atI (ns.map V.int) k=some (.int (ns.getD k.toNat 0)):=by
 have e:((k.toNat:Nat):Int)=k:=Int.toNat_of_nonneg h0;have hlt:k.toNat<ns.length:=by omega
 have:(ns.map V.int)[k.toNat]? =some (.int (ns.getD k.toNat 0)):=by
  rw[MA,Mt hlt];simp[List.getD,hlt]
 have q:=dJ this;rw[e] at q;exact q
theorem aZ{α:Type}(l:List α):l.filter (fun _=>true)=l:=Oi.mpr fun _ _=>rfl
theorem aQ{y:V}(h:(l.map V.int)[i]? =some y):∃ z,l[i]? =some z/\y=.int z:=by
 rw[MA] at h
 cases e:l[i]? with
 | none=>rw[e] at h;cases h
 | some z=>rw[e] at h;cases h;exact⟨z,rfl,rfl⟩
theorem bx{l:List Addr}{y:V}(h:(l.map V.ref)[i]? =some y):∃ z,l[i]? =some z/\y=.ref z:=by
 rw[MA] at h
 cases e:l[i]? with
 | none=>rw[e] at h;cases h
 | some z=>rw[e] at h;cases h;exact⟨z,rfl,rfl⟩
theorem no{h w:Int}(h0:1<=h)(h1:h<=6):CMul h w:=.inl ⟨by omega,by omega⟩
theorem fU{ps:List Addr}{k:Int}(h0:0<=k)(h:ps[k.toNat]? =some p):atI (ps.map V.ref) k=some (.ref p):=by
 have e:((k.toNat:Nat):Int)=k:=Int.toNat_of_nonneg h0;have q0:(ps.map V.ref)[k.toNat]? =some (.ref p):=by rw[MA,h];rfl
 have q:=dJ q0;rw[e] at q;exact q
section
variable{k:Nat}{lo:Int}{n:Nat}{tt:TT}{te:TE}{fin:Addr->Hp->Prop}{σ0:St}{H1:Hp}{K:Frag}{a:Addr}
theorem mq{n i:Nat}(b:Nat->Bool)(h:i<n)(hn:n<=900):((List.range i).filter b).length<=900:=by
 have:=MM b (List.range i);rw[Nv] at this;omega
theorem tV (b:Nat->Bool) (f:Nat->V) (hn:n<=900)
  (ht:∀ i H R,i<n->Same H1 H->(∀ H',Same H H'->R (b i) H')->tt (σ0.set k (some (.int (lo+i)))) H R)
  (he:∀ i H Q,i<n->b i=true->Same H1 H->(∀ H',Same H H'->Q (f i) H')->te (σ0.set k (some (.int (lo+i)))) H Q)
  (hd:∀ l H,H1 l=none->Same H1 H->H l=some (.lst (((List.range n).filter b).map f))->fin l H):
  CompR (Itr lo n) (gName k) tt te fin σ0 H1:=by
 refine p6 (fun l i σ H=>(σ=σ0\/∃ cv,σ=σ0.set k cv)/\Same H1 H/\H l=some (.lst (((List.range i).filter b).map f))) (fun l hl=>⟨.inl rfl,(Mw H1).laid hl,by rw[ak];rfl⟩) ?_ (fun l σ H hl p=>hd l H hl p.2.1 p.2.2);rintro l i σ H hl hi ⟨hσ,s1,el⟩;rw[bf]
 have e:σ.set k (some (.int (lo+i)))=σ0.set k (some (.int (lo+i))):=by
  rcases hσ with rfl | ⟨cv,rfl⟩
  . rfl
  . exact N8 ..
 rw[e];refine ht i H _ hi s1 fun H2 s2=>?_;have el2:=s2 _ _ el
 cases hb:b i with
 | false=>
  rw[MP ME];refine⟨.inr ⟨_,rfl⟩,s1.trans s2,?_⟩;rw[NB,Nd,Ni,hb]
  simpa using el2
 | true=>
  rw[MU rfl];refine he i H2 _ hi hb (s1.trans s2) fun H3 s3=>⟨_,s3 _ _ el2,by rw[Mr];exact aK (ML (mq b hi hn) (by decide)),.inr ⟨_,rfl⟩,((s1.trans s2).trans s3).own hl,?_⟩;rw[ak,NB,Nd,Ni,hb];simp
theorem bT {xs:List V} (b:Nat->Bool) (f:Nat->V) (hn:xs.length<=900) (hq:SqL K H1 a xs)
  (ht:∀ i x H R,xs[i]? =some x->Same H1 H->(∀ H',Same H H'->R (b i) H')->tt (σ0.set k (some x)) H R)
  (he:∀ i x H Q,xs[i]? =some x->b i=true->Same H1 H->(∀ H',Same H H'->Q (f i) H')->te (σ0.set k (some x)) H Q)
  (hd:∀ l H,H1 l=none->Same H1 H->H l=some (.lst (((List.range xs.length).filter b).map f))->fin l H):
  CompR (Itl K a) (gName k) tt te fin σ0 H1:=by
 refine re (xs:=xs) (fun l i σ H=>(σ=σ0\/∃ cv,σ=σ0.set k cv)/\Same H1 H/\H l=some (.lst (((List.range i).filter b).map f))) (fun l hl=>⟨.inl rfl,(Mw H1).laid hl,by rw[ak];rfl⟩) (fun l i σ H _ _ p=>p.2.1.seq hq) ?_ (fun l σ H hl p=>hd l H hl p.2.1 p.2.2);rintro l i x σ H hl hx ⟨hσ,s1,el⟩;have hi:i<xs.length:=(My.mp hx).1;rw[bf]
 have e:σ.set k (some x)=σ0.set k (some x):=by
  rcases hσ with rfl | ⟨cv,rfl⟩
  . rfl
  . exact N8 ..
 rw[e];refine ht i x H _ hx s1 fun H2 s2=>?_;have el2:=s2 _ _ el
 cases hb:b i with
 | false=>
  rw[MP ME];refine⟨.inr ⟨_,rfl⟩,s1.trans s2,?_⟩;rw[NB,Nd,Ni,hb]
  simpa using el2
 | true=>
  rw[MU rfl];refine he i x H2 _ hx hb (s1.trans s2) fun H3 s3=>⟨_,s3 _ _ el2,by rw[Mr];exact aK (ML (mq b hi hn) (by decide)),.inr ⟨_,rfl⟩,((s1.trans s2).trans s3).own hl,?_⟩;rw[ak,NB,Nd,Ni,hb];simp
theorem oh (b:Nat->Bool) (f:Nat->Int) (hn:n<=900)
  (ht:∀ i H R,i<n->Same H1 H->(∀ H',Same H H'->R (b i) H')->tt (σ0.set k (some (.int (lo+i)))) H R)
  (he:∀ i H Q,i<n->b i=true->Same H1 H->(∀ H',Same H H'->Q (.int (f i)) H')->te (σ0.set k (some (.int (lo+i)))) H Q)
  (hd:∀ l H,H1 l=none->Same H1 H->H l=some (.lst ((((List.range n).filter b).map f).map V.int))->fin l H):
  CompR (Itr lo n) (gName k) tt te fin σ0 H1:=
 tV b (fun i=>.int (f i)) hn ht he fun l H hl s1 el=>hd l H hl s1 (by rw[Na];exact el)
theorem Ew(b:Int->Bool)(f:Int->Int)(xs:List Int):((List.range xs.length).filter fun i=>b (xs.getD i 0)).map (fun i=>V.int (f (xs.getD i 0)))=((xs.filter b).map f).map V.int:=by
 have e:xs=(List.range xs.length).map fun i=>xs.getD i 0:=by
  refine N1 fun i=>?_;rw[MA];by_cases h:i<xs.length
  . rw[Ny h,Mt h];simp[List.getD,h]
  . rw[M7 (by omega),M7 (by simpa using h)];rfl
 conv=>rhs;rw[e]
 rw[Ot,Na,Na];rfl
theorem aX {xs:List Int} (b:Int->Bool) (f:Int->Int) (hn:xs.length<=900) (hq:SqL K H1 a (xs.map V.int))
  (ht:∀ x H R,x∈xs->Same H1 H->(∀ H',Same H H'->R (b x) H')->tt (σ0.set k (some (.int x))) H R)
  (he:∀ x H Q,x∈xs->b x=true->Same H1 H->(∀ H',Same H H'->Q (.int (f x)) H')->te (σ0.set k (some (.int x))) H Q)
  (hd:∀ l H,H1 l=none->Same H1 H->H l=some (.lst (((xs.filter b).map f).map V.int))->fin l H):
  CompR (Itl K a) (gName k) tt te fin σ0 H1:=by
 refine bT (xs:=xs.map V.int) (fun i=>b (xs.getD i 0)) (fun i=>.int (f (xs.getD i 0))) (by rw[Mr];exact hn) hq ?_ ?_ ?_
 . intro i x H R hx s1 h;obtain⟨z,hz,rfl⟩:=aQ hx;rw[eJ hz] at h;exact ht z H R (Mz hz) s1 h
 . intro i x H Q hx hb s1 h;obtain⟨z,hz,rfl⟩:=aQ hx;rw[eJ hz] at h hb;exact he z H Q (Mz hz) hb s1 h
 . intro l H hl s1 el;refine hd l H hl s1 ?_;rw[Mr] at el;rw[el,Ew]
structure NewAt(H1 H:Hp)(l:Addr)(as:List Addr)(os:List HO):Prop where
 len:as.length=os.length
 nd:as.Nodup
 nl:l∉as
 fr:∀ a∈as,H1 a=none
 at_:∀(j:Nat) (a:Addr) (o:HO),as[j]? =some a->os[j]? =some o->H a=some o
theorem NewAt.nil{H1 H:Hp}{l:Addr}:NewAt H1 H l [] [] where
 len:=rfl
 nd:=OO
 nl:=by simp
 fr:=fun a h=>nomatch h
 at_:=fun j a o h=>by simp at h
theorem NewAt.same{H1 H H':Hp}{l:Addr}{as:List Addr}{os:List HO}(x:NewAt H1 H l as os)(s:Same H H'):NewAt H1 H' l as os:=
 ⟨x.len,x.nd,x.nl,x.fr,fun j a o h1 h2=>s _ _ (x.at_ j a o h1 h2)⟩
theorem NewAt.mem{H1 H:Hp}{l:Addr}{as:List Addr}{os:List HO}(x:NewAt H1 H l as os){a:Addr}(h:a∈as):∃ o,H a=some o:=by
 obtain⟨j,hj,e⟩:=NY.mp h;have hj2:j<os.length:=by rw[← x.len];exact hj
 exact⟨os[j],x.at_ j a os[j] (by rw[Mt hj,e]) (Mt hj2)⟩
theorem NewAt.more{H1 H H2:Hp}{l p:Addr}{as:List Addr}{os:List HO}{o u:HO}(x:NewAt H1 H l as os)(s1:Same H1 H)(s:Same H H2)(hp:H p=none)(e:H2 p=some o)(hl:H l=some u)(o':HO):NewAt H1 (upd H2 l o') l (as++[p]) (os++[o]):=by
 have npl:p≠l:=fun z=>by rw[z,hl] at hp;cases hp
 refine⟨by simp[x.len],?_,?_,?_,?_⟩
 . refine Of.mpr ⟨x.nd,by simp,fun a ha b hb z=>?_⟩;rw[MN.mp hb] at z;obtain⟨o2,e2⟩:=x.mem ha;rw[z,hp] at e2;cases e2
 . intro hm;rcases M0.mp hm with hm | hm
   . exact x.nl hm
   . exact npl (MN.mp hm).symm
 . intro a ha;rcases M0.mp ha with ha | ha
   . exact x.fr a ha
   . rw[MN.mp ha]
     cases q:H1 p with
     | none=>rfl
     | some v=>rw[s1 _ _ q] at hp;cases hp
 . intro j a o2 h1 h2;have Mn:=x.len;by_cases hj:j<as.length
   . rw[Nc hj] at h1;rw[Nc (by omega)] at h2;have nal:a≠l:=fun z=>x.nl (z ▸ Mz h1);rw[aq nal];exact s _ _ (x.at_ j a o2 h1 h2)
   . rw[Nk (by omega)] at h1;rw[Nk (by omega)] at h2
     have e0:j-as.length=0:=by
      have:=(My.mp h1).1;simp at this;omega
     rw[e0] at h1;rw[show j-os.length=0 by omega] at h2;simp at h1 h2;subst h1 h2;rw[aq npl];exact e
theorem tW (b:Nat->Bool) (o:Nat->HO) (hn:n<=900)
  (ht:∀ i H R,i<n->Same H1 H->(∀ H',Same H H'->R (b i) H')->tt (σ0.set k (some (.int (lo+i)))) H R)
  (he:∀ i H Q,i<n->b i=true->Same H1 H->(∀ a H',Same H H'->H a=none->H' a=some (o i)->Q (.ref a) H')->te (σ0.set k (some (.int (lo+i)))) H Q)
  (hd:∀ l as H,H1 l=none->Same H1 H->H l=some (.lst (as.map V.ref))->NewAt H1 H l as (((List.range n).filter b).map o)->fin l H):
  CompR (Itr lo n) (gName k) tt te fin σ0 H1:=by
 refine p6 (fun l i σ H=>(σ=σ0\/∃ cv,σ=σ0.set k cv)/\Same H1 H/\∃ as:List Addr,H l=some (.lst (as.map V.ref))/\NewAt H1 H l as (((List.range i).filter b).map o)) (fun l hl=>⟨.inl rfl,(Mw H1).laid hl,[],by rw[ak];rfl,NewAt.nil⟩) ?_ (fun l σ H hl ⟨_,s1,as,el,x⟩=>hd l as H hl s1 el x);rintro l i σ H hl hi ⟨hσ,s1,as,el,x⟩;rw[bf]
 have e:σ.set k (some (.int (lo+i)))=σ0.set k (some (.int (lo+i))):=by
  rcases hσ with rfl | ⟨cv,rfl⟩
  . rfl
  . exact N8 ..
 rw[e];refine ht i H _ hi s1 fun H2 s2=>?_;have el2:=s2 _ _ el;have x2:=x.same s2;have s12:=s1.trans s2
 cases hb:b i with
 | false=>
  rw[MP ME];refine⟨.inr ⟨_,rfl⟩,s12,as,el2,?_⟩;rw[NB,Nd,Ni,hb]
  simpa using x2
 | true=>
  rw[MU rfl];refine he i H2 _ hi hb s12 fun p H3 s3 hp ep=>⟨_,s3 _ _ el2,?_,.inr ⟨_,rfl⟩,(s12.trans s3).own hl,as++[p],?_,?_⟩
  . rw[Mr,x2.len,Mr];exact aK (ML (mq b hi hn) (by decide))
  . rw[ak];simp
  . have y:=x2.more s12 s3 hp ep el2 (.lst (as.map V.ref++[V.ref p]));rw[NB,Nd,Ni,hb]
    simpa using y
theorem p9 {xs:List V} (b:Nat->Bool) (o:Nat->HO) (hn:xs.length<=900) (hq:SqL K H1 a xs)
  (ht:∀ i x H R,xs[i]? =some x->Same H1 H->(∀ H',Same H H'->R (b i) H')->tt (σ0.set k (some x)) H R)
  (he:∀ i x H Q,xs[i]? =some x->b i=true->Same H1 H->(∀ a H',Same H H'->H a=none->H' a=some (o i)->Q (.ref a) H')->te (σ0.set k (some x)) H Q)
  (hd:∀ l as H,H1 l=none->Same H1 H->H l=some (.lst (as.map V.ref))->NewAt H1 H l as (((List.range xs.length).filter b).map o)->fin l H):
  CompR (Itl K a) (gName k) tt te fin σ0 H1:=by
 refine re (xs:=xs) (fun l i σ H=>(σ=σ0\/∃ cv,σ=σ0.set k cv)/\Same H1 H/\∃ as:List Addr,H l=some (.lst (as.map V.ref))/\NewAt H1 H l as (((List.range i).filter b).map o)) (fun l hl=>⟨.inl rfl,(Mw H1).laid hl,[],by rw[ak];rfl,NewAt.nil⟩) (fun l i σ H _ _ p=>p.2.1.seq hq) ?_ (fun l σ H hl ⟨_,s1,as,el,x⟩=>hd l as H hl s1 el x);rintro l i y σ H hl hy ⟨hσ,s1,as,el,x⟩;have hi:i<xs.length:=(My.mp hy).1;rw[bf]
 have e:σ.set k (some y)=σ0.set k (some y):=by
  rcases hσ with rfl | ⟨cv,rfl⟩
  . rfl
  . exact N8 ..
 rw[e];refine ht i y H _ hy s1 fun H2 s2=>?_;have el2:=s2 _ _ el;have x2:=x.same s2;have s12:=s1.trans s2
 cases hb:b i with
 | false=>
  rw[MP ME];refine⟨.inr ⟨_,rfl⟩,s12,as,el2,?_⟩;rw[NB,Nd,Ni,hb]
  simpa using x2
 | true=>
  rw[MU rfl];refine he i y H2 _ hy hb s12 fun p H3 s3 hp ep=>⟨_,s3 _ _ el2,?_,.inr ⟨_,rfl⟩,(s12.trans s3).own hl,as++[p],?_,?_⟩
  . rw[Mr,x2.len,Mr];exact aK (ML (mq b hi hn) (by decide))
  . rw[ak];simp
  . have z:=x2.more s12 s3 hp ep el2 (.lst (as.map V.ref++[V.ref p]));rw[NB,Nd,Ni,hb]
    simpa using z
end
theorem DVs.of_get{K:Frag}{H:Hp}:∀{xs:List V} {ds:List PyData},xs.length=ds.length->(∀(i:Nat) x d,xs[i]? =some x->ds[i]? =some d->DV K H x d)->DVs K H xs ds
 | [],[],_,_=>.nil
 | [],_::_,h,_=>by simp at h
 | _::_,[],h,_=>by simp at h
 | x::xs,d::ds,h,f=>.cons (f 0 x d rfl rfl) (DVs.of_get (by simpa using h) fun i y e h1 h2=>f (i+1) y e (by simpa using h1) (by simpa using h2))
theorem w6:∀{ds:List PyData},(∀ d∈ds,PyData.canLay0 d=true)->PyData.canLayAll0 ds=true
 | [],_=>rfl
 | d::r,h=>by rw[PyData.canLayAll0,h d MD,w6 fun e he=>h e (MI _ he)];rfl
theorem rg{n:Nat}:∀{ds:List PyData},(∀ d∈ds,PyData.depth d<=n)->PyData.depthAll ds<=n
 | [],_=>Nu _
 | d::r,h=>by rw[PyData.depthAll];exact Nat.max_le.mpr ⟨h d MD,rg fun e he=>h e (MI _ he)⟩
theorem w9{α:Type}[DecidableEq α](g:α->PyData)(hg:∀ a b,PyData.eqv (g a) (g b)=decide (a=b)):∀ xs ys:List α,PyData.eqvAll (xs.map g) (ys.map g)=decide (xs=ys)
 | [],[]=>rfl
 | [],_::_=>rfl
 | _::_,[]=>rfl
 | x::xs,y::ys=>by
  rw[M4,M4,PyData.eqvAll,hg,w9 g hg xs ys,MZ];simp
structure IsLL(H:Hp)(l:Addr)(as:List Addr)(Ml:List (List Int)):Prop where
 top:H l=some (.lst (as.map V.ref))
 len:as.length=Ml.length
 at_:∀(j:Nat) (a:Addr) (xs:List Int),as[j]? =some a->Ml[j]? =some xs->H a=some (.lst (xs.map V.int))
theorem IsLL.same{H':Hp}{l:Addr}{as:List Addr}{Ml:List (List Int)}(x:IsLL H l as Ml)(s:Same H H'):IsLL H' l as Ml:=
 ⟨s _ _ x.top,x.len,fun j a xs h1 h2=>s _ _ (x.at_ j a xs h1 h2)⟩
def lU(K:Frag):Sp:=fun vs H Q _=>∃(a:Addr) (h w g c:Int),vs=[.ref a,.int c]/\IsFl H a h w g/\0<w/\w<100/\∀ p,H p=none->Q (.ref p) (upd H p (.tup [.int (c/w),.int (c%w)]))
def qb(K:Frag):TS:=
 (tSeq (tAsg (tOp cIx (tVar 0) (tC (.int 1))) (gName 2))
  (tRet (tTup (tCons (tOp cDiv (tVar 1) (tVar 2)) (tCons (tOp cMod (tVar 1) (tVar 2)) tNil)))))
abbrev eD9(Q:VK):Ends:={nx:=fun _ H'=>Q .non H',rt:=Q}
variable{K:Frag}{vs:List V}
theorem C0{Q:VK}{E:XK}(h:lU K vs H Q E):qb K (eD9 Q) (start ["floor","cell","wide"] vs) H:=by
 obtain⟨a,h,w,g,c,rfl,ha,w0,w1,k⟩:=h;show qb K _ [some (.ref a),some (.int c),none] H;unfold qb;symm;rw[ig ha];refine ba (a:=V.int w) rfl ?_;symm;refine⟨⟨w0,by omega⟩,w0,lnR rfl,k⟩
theorem uy(h w c:Int):(besL h w c).length<=4:=by
 unfold besL;simp only[M6]
 split <;> split <;> split <;> split <;> simp
def dU(K:Frag):Sp:=fun vs H Q _=>∃(a:Addr) (h w g c:Int),vs=[.ref a,.int c]/\IsFl H a h w g/\0<w/\w<100/\∀ l H',Same H H'->H l=none->H' l=some (.lst ((besL h w c).map V.int))->Q (.ref l) H'
def rh(K:Frag):TS:=
 (tSeq (tAsg (tOp cIx (tVar 0) (tC (.int 0))) (gName 2))
  (tSeq (tAsg (tOp cIx (tVar 0) (tC (.int 1))) (gName 3))
  (tSeq (tAsg (tCall (lU K) [] E0 (tCons (tVar 0) (tCons (tVar 1) tNil))) (gName 4))
  (tSeq (tAsg (tLst tNil) (gName 5))
  (tSeq (tIfS (tTest (tOp (cCmp fun i j=>decide (j<i)) (tOp cIx (tVar 4) (tC (.int 0))) (tC (.int 0)))) (tDrop (tBM K "list" bo (tVar 5) (tCons (tOp cSub (tVar 1) (tVar 3)) tNil))) tNext)
  (tSeq (tIfS (tTest (tOp (cCmp fun i j=>decide (j<i)) (tOp cIx (tVar 4) (tC (.int 1))) (tC (.int 0)))) (tDrop (tBM K "list" bo (tVar 5) (tCons (tOp cSub (tVar 1) (tC (.int 1))) tNil))) tNext)
  (tSeq (tIfS (tTest (tOp (cCmp fun i j=>decide (i<j)) (tOp cIx (tVar 4) (tC (.int 1))) (tOp cSub (tVar 3) (tC (.int 1))))) (tDrop (tBM K "list" bo (tVar 5) (tCons (tOp cAdd (tVar 1) (tC (.int 1))) tNil))) tNext)
  (tSeq (tIfS (tTest (tOp (cCmp fun i j=>decide (i<j)) (tOp cIx (tVar 4) (tC (.int 0))) (tOp cSub (tVar 2) (tC (.int 1))))) (tDrop (tBM K "list" bo (tVar 5) (tCons (tOp cAdd (tVar 1) (tVar 3)) tNil))) tNext)
  (tRet (tVar 5))))))))))
theorem vv {D:Ends} {σ:St} {t:TT} {e:TE} {b:Bool} {v:Int} {l:Addr} (hσ:σ[i]? =some (some (.ref l))) (ht:∀ R,R b H->t σ H R) (hl:H l=some (.lst (ns.map V.int))) (hn:ns.length<=900)
  (he:∀ Q,Q (.int v) H->e σ H Q) (k:∀ H',(H' l=some (.lst ((ns++if b=true then [v] else []).map V.int)))->(∀ c,c≠l->H' c=H c)->D.nx σ H'):
  tIfS t (tDrop (tBM K "list" bo (tVar i) (tCons e tNil))) tNext D σ H:=by
 rw[aA];refine ht _ ?_
 cases b with
 | false=>
  refine iteF ?_;rw[cy];exact k H (by simpa using hl) fun _ _=>rfl
 | true=>
  refine iteT ?_;rw[cA,gp,F7];refine⟨_,hσ,bq hl,?_⟩;rw[b9];refine he _ ?_;rw[dG,fP hl];refine⟨by rw[Mr];exact aK (by omega),k _ ?_ fun c hc=>aq hc⟩;rw[ak];simp
theorem Ex{Q:VK}{E:XK}(h:dU K vs H Q E):rh K (eD9 Q) (start ["floor","cell","high","wide","spot","found"] vs) H:=by
 obtain⟨a,h,w,g,c,rfl,ha,w0,w1,k⟩:=h;show rh K _ [some (.ref a),some (.int c),none,none,none,none] H;unfold rh;symm;rw[ig ha];refine ba (a:=V.int h) rfl ?_;symm;rw[ig ha];refine ba (a:=V.int w) rfl ?_;symm;refine⟨a,h,w,g,c,rfl,ha,w0,w1,fun p hp=>?_⟩;symm;refine⟨aR (by decide),fun l hl=>?_⟩;have npl:p≠l:=fun e=>by rw[e,ak] at hl;cases hl
 have hl0:H l=none:=by rw[aq npl.symm] at hl;exact hl
 have hpS:∀ H':Hp,(∀ d,d≠l->H' d=upd H p (.tup [.int (c/w),.int (c%w)]) d)->H' p=some (.tup [.int (c/w),.int (c%w)]):=fun H' e=>by rw[e p npl,ak]
 refine vv (ns:=[]) (l:=l) (i:=5) (b:=decide (0<c/w)) (v:=c-w) rfl (fun R q=>?_) ak (by decide) (fun Q q=>?_) fun H1 e1 f1=>?_
 . symm;rw[ig (hpS _ fun d hd=>aq hd)];refine ba rfl ?_;symm;exact q
 . symm;exact q
 symm;refine vv (l:=l) (i:=5) (b:=decide (0<c%w)) (v:=c-1) rfl (fun R q=>?_) e1 (by simp;split <;> simp) (fun Q q=>?_) fun H2 e2 f2=>?_
 . symm;rw[ig (hpS _ fun d hd=>by rw[f1 d hd,aq hd])];refine ba rfl ?_;symm;exact q
 . symm;exact q
 symm;refine vv (l:=l) (i:=5) (b:=decide (c%w<w-1)) (v:=c+1) rfl (fun R q=>?_) e2 (by simp;split <;> split <;> simp) (fun Q q=>?_) fun H3 e3 f3=>?_
 . symm;rw[ig (hpS _ fun d hd=>by rw[f2 d hd,f1 d hd,aq hd])];refine ba rfl ?_;symm;exact q
 . symm;exact q
 symm;refine vv (l:=l) (i:=5) (b:=decide (c/w<h-1)) (v:=c+w) rfl (fun R q=>?_) e3 (by simp;split <;> split <;> split <;> simp) (fun Q q=>?_) fun H4 e4 f4=>?_
 . symm;rw[ig (hpS _ fun d hd=>by rw[f3 d hd,f2 d hd,f1 d hd,aq hd])];refine ba rfl ?_;symm;exact q
 . symm;exact q
 symm;refine k l H4 (fun b o e=>?_) hl0 ?_
 . have nb:b≠l:=aC e hl0;have nbp:b≠p:=aC e hp;rw[f4 b nb,f3 b nb,f2 b nb,f1 b nb,aq nb,aq nbp];exact e
 . rw[e4];unfold besL;simp[Mx]
structure FlOk(h w g:Int):Prop where
 h0:1<=h
 h1:h<=6
 w0:1<=w
 w1:w<=6
 m:h*w<=16
 g0:1<=g
 g1:g<=6
section
variable{K:Frag}{H:Hp}{Q:VK}
theorem z8{p:Addr}{xs:List V}(hp:H p=some (.lst xs))(h:Q (.bl true) H):kIsi [.ref p,.ty "list"] H Q:=by
 refine⟨by decide,ba (a:="list") (by unfold mh;dsimp only;rw[hp]) ?_⟩;rw[show isTy "list" "list"=true by decide];exact h
theorem Aa{p:Addr}{xs:List V}(hp:H p=some (.tup xs))(h:Q (.bl true) H):kIsi [.ref p,.ty "tuple"] H Q:=by
 refine⟨by decide,ba (a:="tuple") (by unfold mh;dsimp only;rw[hp]) ?_⟩;rw[show isTy "tuple" "tuple"=true by decide];exact h
theorem FD{p q:Addr}{xs ys:List V}(hp:H p=some (.lst xs))(hq:H q=some (.lst ys))(hn:xs.length+ys.length<=1000)(h:Q .non (upd H p (.lst (xs++ys)))):ma (.ref p) [.ref q] H Q:=by
 show bnd (unM (H p)) _;rw[hp];show bnd (unM (H q)) _;rw[hq];exact⟨Nj (aK hn),h⟩
theorem Ey{n:Nat}{t:TGs}{σ:St}{k:St->Hp->Prop}{p:Addr}{xs:List V}(hp:H p=some (.tup xs))(hn:xs.length=n)(h:t xs σ H k):gTup K n t (.ref p) σ H k:=⟨p,xs,rfl,Qa hp,hn,h⟩
end
end L2
namespace L2
open PySem PySem.Builtin PySem.Builtin.Str
def tx(l:List Nat):Str:=⟨l.toArray⟩
theorem vw(l:List Nat):(tx l).cps.toList=l:=by simp[tx]
theorem IZ(x:Str):tx x.cps.toList=x:=by cases x;simp[tx]
theorem Ez{a b:List Nat}(h:tx a=tx b):a=b:=by rw[← vw a,h,vw]
theorem bN(l:List Nat):(tx l).length=l.length:=by simp[tx,Str.length]
theorem oV(a b:List Nat):tx a++tx b=tx (a++b):=by
 refine Str.ext' ?_;rw[Str.cps_append];simp[tx]
theorem bn(a b:List Nat):decide (tx a=tx b)=decide (a=b):=by
 by_cases h:a=b
 . subst h;simp
 . have:¬ tx a=tx b:=fun e=>h (Ez e);rw[Mu h,Mu this]
def catL(c:Nat):List (List Nat)->List Nat
 | []=>[]
 | [x]=>x
 | x::y::r=>x++c::catL c (y::r)
theorem oW(c:Nat):∀ ts:List (List Nat),Str.join (tx [c]) (ts.map tx)=tx (catL c ts)
 | []=>rfl
 | [x]=>rfl
 | x::y::r=>by
  show tx x++tx [c]++Str.join (tx [c]) ((y::r).map tx)=_;rw[oW c (y::r),oV,oV];show tx _=tx (x++c::catL c (y::r));rw[NL];rfl
theorem uz(sep:Str)(ts:List Str):Txt.join sep ts=Str.join sep ts:=StrLaws.glued_eq_join sep ts
theorem Cn{c:Nat}:∀{a b x y:List Nat},c∉a->c∉b->a++c::x=b++c::y->a=b/\x=y
 | [],[],_,_,_,_,h=>⟨rfl,by simpa using h⟩
 | [],b::bs,_,_,_,hb,h=>by
  simp at h;exact absurd (MS.mpr (.inl h.1)) hb
 | a::as,[],_,_,ha,_,h=>by
  simp at h;exact absurd (MS.mpr (.inl h.1.symm)) ha
 | a::as,b::bs,x,y,ha,hb,h=>by
  simp at h;have:=Cn (fun z=>ha (MI _ z)) (fun z=>hb (MI _ z)) h.2;exact⟨by rw[h.1,this.1],this.2⟩
theorem Ab{c:Nat}:∀{x:List Nat} {r:List (List Nat)} {y:List Nat},c∈catL c (x::y::r):=by
 intro x r y;show c∈x++c::_;simp
theorem Ac{c:Nat}:∀{xs ys:List (List Nat)},xs≠[]->ys≠[]->(∀ x∈xs,c∉x)->(∀ y∈ys,c∉y)->catL c xs=catL c ys->xs=ys
 | [],_,h,_,_,_,_=>absurd rfl h
 | _,[],_,h,_,_,_=>absurd rfl h
 | [x],[y],_,_,_,_,h=>by
  have h':x=y:=h;rw[h']
 | [x],y::z::r,_,_,hx,_,h=>by
  have h':x=catL c (y::z::r):=h;exact absurd (h' ▸ Ab) (hx x MD)
 | x::z::r,[y],_,_,_,hy,h=>by
  have h':catL c (x::z::r)=y:=h;exact absurd (h' ▸ Ab) (hy y MD)
 | x::z::r,y::u::s,_,_,hx,hy,h=>by
  obtain⟨e1,e2⟩:=Cn (hx x MD) (hy y MD) (show x++c::catL c (z::r)=y++c::catL c (u::s) from h);rw[e1,Ac (by simp) (by simp) (fun w hw=>hx w (MI _ hw)) (fun w hw=>hy w (MI _ hw)) e2]
theorem FE(x y:Str):Txt.split x y≠[]:=by
 intro h;unfold Txt.split at h
 split at h
 . cases h
 . split at h
   . cases h
   . rw[StrLaws.partsBetween_eq] at h;obtain⟨p,r,e⟩:=StrLaws.partsFrom_ne x y.length 0 (occurrences x y 0 x.length (x.length+1));rw[e] at h;cases h
theorem FF{c:Nat}{Mf:List (List Nat)}(hne:Mf≠[])(hf:∀ r∈Mf,c∉r):Txt.split (tx (catL c Mf)) (tx [c])=Mf.map tx:=by
 have h1:=StrLaws.join_split (tx (catL c Mf)) (tx [c]);have h2:∀ p∈Txt.split (tx (catL c Mf)) (tx [c]),c∉p.cps.toList:=StrLaws.split_free _ c;have h3:=FE (tx (catL c Mf)) (tx [c]);generalize Txt.split (tx (catL c Mf)) (tx [c])=S at*
 have e:S=(S.map (·.cps.toList)).map tx:=by
  rw[Na]
  conv=>lhs;rw[← List.map_id S]
  exact OF fun x _=>(IZ x).symm
 rw[e,oW] at h1;have h4:=Ez h1;have h5:=Ac (c:=c) (xs:=S.map (·.cps.toList)) (ys:=Mf) (by simpa using h3) hne (fun x hx=>by obtain⟨p,hp,rfl⟩:=MJ.mp hx;exact h2 p hp) hf h4;rw[e,h5]
end L2
namespace L2
end L2
namespace L2
open PySem PySem.Spec PyProof.Rows
local macro_rules|`(tactic|walk_at "w")=>wk9 ws1
local macro_rules|`(tactic|symm)=>`(tactic|walk_at "w")
section
variable{k:Nat}{tt:TT}{te:TE}{fin:Addr->Hp->Prop}{σ0:St}{H1:Hp}
theorem EA {cs:List Nat} (b:Nat->Bool) (f:Nat->V) (hn:cs.length<=900)
  (ht:∀ i c H R,cs[i]? =some c->Same H1 H->(∀ H',Same H H'->R (b i) H')->tt (σ0.set k (some (.str (tx [c])))) H R)
  (he:∀ i c H Q,cs[i]? =some c->b i=true->Same H1 H->(∀ H',Same H H'->Q (f i) H')->te (σ0.set k (some (.str (tx [c])))) H Q)
  (hd:∀ l H,H1 l=none->Same H1 H->H l=some (.lst (((List.range cs.length).filter b).map f))->fin l H):
  CompR (Its (tx cs)) (gName k) tt te fin σ0 H1:=by
 intro l hl;have hsz:(tx cs).cps.size=cs.length:=by simp[tx]
 refine⟨fun i m σ H=>m=cs.length-i/\i<=cs.length/\(σ=σ0\/∃ cv,σ=σ0.set k cv)/\Same H1 H/\H l=some (.lst (((List.range i).filter b).map f)),⟨cs.length,by simp,Nu _,.inl rfl,(Mw H1).laid hl,by rw[ak];rfl⟩,?_⟩;rintro i m σ H ⟨rfl,hi,hσ,s1,el⟩;by_cases hlt:i<cs.length
 . refine .inr ⟨by show i < (tx cs).cps.size;rw[hsz];exact hlt,fun σ H=>(σ=σ0\/∃ cv,σ=σ0.set k cv)/\Same H1 H/\H l=some (.lst (((List.range (i+1)).filter b).map f)),fun σ' H' p'=>⟨cs.length - (i+1),by omega,rfl,hlt,p'⟩,?_⟩;rintro x H' ⟨rfl,c,hc,rfl⟩;have hc':cs[i]? =some c:=by simpa [tx] using hc
   show gName k (.str (tx [c])) σ H' _;rw[bf]
   have e:σ.set k (some (.str (tx [c])))=σ0.set k (some (.str (tx [c]))):=by
    rcases hσ with rfl | ⟨cv,rfl⟩
    . rfl
    . exact N8 ..
   rw[e];refine ht i c H' _ hc' s1 fun H2 s2=>?_;have el2:=s2 _ _ el
   cases hb:b i with
   | false=>
    rw[MP ME];refine⟨.inr ⟨_,rfl⟩,s1.trans s2,?_⟩;rw[NB,Nd,Ni,hb]
    simpa using el2
   | true=>
    rw[MU rfl];refine he i c H2 _ hc' hb (s1.trans s2) fun H3 s3=>⟨_,s3 _ _ el2,by rw[Mr];exact aK (ML (mq b hlt hn) (by decide)),.inr ⟨_,rfl⟩,((s1.trans s2).trans s3).own hl,?_⟩;rw[ak,NB,Nd,Ni,hb];simp
 . have e:i=cs.length:=by omega
   subst e;exact .inl ⟨by show(tx cs).cps.size<=_;rw[hsz];exact MW _,hd l H hl s1 el⟩
end
theorem qx{α:Type}(xs:List Int)(g:Int->α):(List.range xs.length).map (fun i=>g (xs.getD i 0))=xs.map g:=by
 have e:xs=(List.range xs.length).map fun i=>xs.getD i 0:=by
  refine N1 fun i=>?_;rw[MA];by_cases h:i<xs.length
  . rw[Ny h,Mt h];simp[List.getD,h]
  . rw[M7 (by omega),M7 (by simpa using h)];rfl
 conv=>rhs;rw[e]
 rw[Na];rfl
theorem mr{sep:Str}{ts:List Str}(h1:ts.length<=1000)(h2:∀ t∈ts,t.length<=1000)(h3:sep.length<=10):JoinOk sep ts=true:=by
 unfold JoinOk;rw[Nz];refine StrLaws.joinFits (B:=1000) h2 ?_;have a1:ts.length*1000<=1000*1000:=O6 _ h1;have a2:ts.length*sep.length<=1000*10:=Qb h1 h3;omega
abbrev rIsN:R2:=fun x y H Q=>y=.non/\Q (.bl (decide (x=.non))) H
abbrev rNotN:R2:=fun x y H Q=>y=.non/\Q (.bl (!decide (x=.non))) H
def kStr:List V->Hp->VK->Prop
 | [.int i],H,Q=>i.natAbs.log2<1920/\Q (.str (Str.ofString (toString i))) H
 | _,_,_=>False
section
variable{X:Cx}
theorem dW:CallR X (.type "str") kStr:=by
 intro Md s σ H xs us Q I r h;unfold kStr at h
 split at h
 . obtain⟨hi,q⟩:=h
   cases r with
   | cons r0 rr=>
    cases rr;obtain⟨t,rfl⟩:=r0;exact PySem.P.str_of_int hi ⟨.str _,H,I.tok _,⟨_,rfl⟩,q⟩
 . exact h.elim
end
section
variable{K:Frag}{H:Hp}{Q:VK}
theorem kG{x:V}:rIsN x .non H Q=Q (.bl (decide (x=.non))) H:=by simp[rIsN]
theorem gX{x:V}:rNotN x .non H Q=Q (.bl (!decide (x=.non))) H:=by simp[rNotN]
theorem jd{i:Int}:kStr [.int i] H Q=(i.natAbs.log2<1920/\Q (.str (Str.ofString (toString i))) H):=rfl
end
structure Bt2(mg:Str->Option Value):Prop extends Bt mg where
 all_:mg "all"=none
 sum_:mg "sum"=none
 enumerate_:mg "enumerate"=none
section
variable{K:Frag}{H:Hp}{Q:VK}{D:Ends}{σ:St}{g:TG}{tb:TS}{ta:TA}{ix:List (Option Nat)}{tt:TT}{te tf:TE}{k:Nat}
theorem je:tIf tt te tf σ H Q=tt σ H fun c H1=>if c=true then te σ H1 Q else tf σ H1 Q:=rfl
theorem cF:tComp ix (sR ta) g tt te σ H Q=ta σ H fun vs H1=>∃ i j:Int,vs=[.int i,.int j]/\(-(2^62)<=i/\i<2^62/\ -(2^62)<=j/\j<2^62)/\CompR (Itr i (j-i).toNat) g tt te (fun l H'=>Q (.ref l) H') (subσ ix σ) H1:=rfl
theorem bY:sComp k ix (sR ta) g tt te D σ H=ta σ H fun vs H1=>∃ i j:Int,vs=[.int i,.int j]/\(-(2^62)<=i/\i<2^62/\ -(2^62)<=j/\j<2^62)/\CompR (Itr i (j-i).toNat) g tt te (fun l H'=>D.nx (σ.set k (some (.ref l))) H') (subσ ix σ) H1:=rfl
theorem isiE{x:V}{n t:String}{b:Bool}(hx:mh H x=some t)(hn:sW n=true)(hb:isTy t n=b):kIsi [x,.ty n] H Q=Q (.bl b) H:=by
 subst hb;show(sW n=true/\bnd (mh H x) fun t=>Q (.bl (isTy t n)) H)=_;rw[hx];simp only[hn,true_and,bB]
theorem cG{i:Int}:kIsi [.int i,.ty "int"] H Q=Q (.bl true) H:=isiE (t:="int") rfl (by decide) (by decide)
theorem cH{i:Int}:kIsi [.int i,.ty "bool"] H Q=Q (.bl false) H:=isiE (t:="int") rfl (by decide) (by decide)
theorem cI{i:Int}:kIsi [.int i,.ty "str"] H Q=Q (.bl false) H:=isiE (t:="int") rfl (by decide) (by decide)
theorem cJ{i:Bool}:kIsi [.bl i,.ty "bool"] H Q=Q (.bl true) H:=isiE (t:="bool") rfl (by decide) (by decide)
theorem cK{i:Bool}:kIsi [.bl i,.ty "int"] H Q=Q (.bl true) H:=isiE (t:="bool") rfl (by decide) (by decide)
theorem cL{i:Str}:kIsi [.str i,.ty "str"] H Q=Q (.bl true) H:=isiE (t:="str") rfl (by decide) (by decide)
theorem cM{i:Bool}:kIsi [.bl i,.ty "str"] H Q=Q (.bl false) H:=isiE (t:="bool") rfl (by decide) (by decide)
theorem fV{A B:Prop}:(if true=true then A else B)=A:=MU rfl
theorem fW{A B:Prop}:(if false=true then A else B)=B:=MP ME
theorem fX{i:Int}:rU (fun i=>.int (-i)) (.int i) H Q=Q (.int (-i)) H:=by
 refine propext ⟨?_,fun h=>⟨i,rfl,h⟩⟩;rintro⟨j,e,h⟩;cases e;exact h
theorem ixT{p:Addr}{i:Int}{xs:List V}{v:V}(h:H p=some (.tup xs))(e:atI xs i=some v)(q:Q v H):cIx (.ref p) (.int i) H Q:=by
 rw[ig h];exact ba e q
theorem ixL{p:Addr}{i:Int}{xs:List V}{v:V}(h:H p=some (.lst xs))(e:atI xs i=some v)(q:Q v H):cIx (.ref p) (.int i) H Q:=by
 rw[F8 h];exact ba e q
theorem ixI{p:Addr}{i:Int}{ns:List Int}(h:H p=some (.lst (ns.map V.int)))(h0:0<=i)(h1:i<ns.length)(q:Q (.int (ns.getD i.toNat 0)) H):cIx (.ref p) (.int i) H Q:=ixL h (ux h0 h1) q
end
def cMulB:R2
 | .int i,.int j,H,Q=>IntMulOk i j/\Q (.int (i*j)) H
 | _,_,_,_=>False
end L2
namespace Att
open PySem PySem.W PySem.Calls PyProof.Rows
end Att
namespace L2
open PySem PySem.Spec PyProof.Rows
section
variable{K:Frag}{H:Hp}{Q:VK}{D:Ends}{σ:St}
theorem Jk{i j:Int}:cMulB (.int i) (.int j) H Q=(IntMulOk i j/\Q (.int (i*j)) H):=rfl
theorem kH{i j:Int}:cPow (.int i) (.int j) H Q=(CPow i j/\Q (.int (i^j.toNat)) H):=rfl
theorem xc{ix:List (Option Nat)}{tl:TE}{g:TG}{tt:TT}{te:TE}:tComp ix (iTup K tl) g tt te σ H Q=tl σ H fun x H1=>∃ a,x=.ref a/\(∃ xs,SqT K H1 a xs)/\CompR (Itt K a) g tt te (fun l H'=>Q (.ref l) H') (subσ ix σ) H1:=rfl
theorem C5{p:Addr}{bs:List Bool}(hp:H p=some (.lst (bs.map V.bl)))(h:Q (.bl (bs.any id)) H):kAny [.ref p] H Q:=by
 show bnd (unL (H p)) _;rw[hp];exact ba (a:=bs.map V.bl) rfl ⟨bs,rfl,h⟩
theorem Ad{p q:Addr}{xs ys:List V}(hp:H p=some (.lst xs))(hq:H q=some (.lst ys))(hn:xs.length+ys.length<=1000)(h:∀ r,H r=none->Q (.ref r) (upd H r (.lst (xs++ys)))):cAdd (.ref p) (.ref q) H Q:=by
 show bnd (unM (H p)) _;rw[hp];refine ba (a:=xs) rfl ?_;rw[hq];exact ba (a:=ys) rfl ⟨Nj (aK hn),h⟩
theorem Ae {g:TG} {tt:TT} {te:TE} {a:Addr} {xs:List V} {fin:Addr->Hp->Prop} {σ0:St} {H1:Hp} (Pv:Addr->Nat->St->Hp->Prop) (h0:∀ l,H1 l=none->Pv l 0 σ0 (upd H1 l (.lst []))) (hq:∀ l i σ H,H1 l=none->i<=xs.length->Pv l i σ H->SqT K H a xs)
  (hs:∀ l i x σ H,H1 l=none->xs[i]? =some x->Pv l i σ H->g x σ H fun σ2 H3=>tt σ2 H3 fun b H4=>if b=true then te σ2 H4 fun y H5=>∃ ys,H5 l=some (.lst ys)/\ys.length<sizeLine/\Pv l (i+1) σ2 (upd H5 l (.lst (ys++[y]))) else Pv l (i+1) σ2 H4)
  (hd:∀ l σ H,H1 l=none->Pv l xs.length σ H->fin l H):CompR (Itt K a) g tt te fin σ0 H1:=by
 intro l hl0;refine⟨fun i m σ H=>m=xs.length-i/\i<=xs.length/\Pv l i σ H,⟨xs.length,by simp,Nu _,h0 l hl0⟩,?_⟩;rintro i m σ H ⟨rfl,hi,p⟩;have q:=hq l i σ H hl0 hi p;by_cases hlt:i<xs.length
 . refine .inr ⟨⟨xs,xs[i],q,by simp[hlt]⟩,Pv l (i+1),fun σ' H' p'=>⟨xs.length - (i+1),by omega,rfl,hlt,p'⟩,fun x H' y=>?_⟩;obtain⟨e,y⟩:=y;subst e;exact hs l i x σ _ hl0 (y xs q) p
 . have e:i=xs.length:=by omega
   subst e;exact .inl ⟨⟨xs,q,MW _⟩,hd l σ H hl0 p⟩
end
inductive RK where
 | Rule | Unlike | Sum | Rising | Seen | Count | Joined | NoSquare | Ring
 deriving DecidableEq
structure RCl (ι:Type) where
 A:ι->Addr
 ok:ι->Bool
section
variable{ι:Type}
def tFldK(c:RCl ι)(ta:TE)(f:Str):TE:=fun σ H Q=>ta σ H fun x H1=>∃ a k dx fs v,x=.ref a/\c.ok k=true/\H1 a=some (.ins (c.A k) dx fs)/\fs.lookup f=some v/\Q v H1
def sFldK(c:RCl ι)(ta tv:TE)(f:Str):TS:=fun D σ H=>tv σ H fun y H1=>ta σ H1 fun x H2=>∃ a k dx fs,x=.ref a/\c.ok k=true/\H2 a=some (.ins (c.A k) dx fs)/\fs.length<1000/\
 D.nx σ (upd H2 a (.ins (c.A k) dx (putF f y fs)))
def aD(c:RCl ι)(okm:ι->Bool)(m:Str)(sp:ι->Sp)(ta:TE)(t:TA):TE:=fun σ H Q=>ta σ H fun x H1=>∃ a k dx fs,x=.ref a/\okm k=true/\H1 a=some (.ins (c.A k) dx fs)/\fs.lookup m=none/\
 t σ H1 fun vs H2=>sp k (x::vs) H2 Q E0
structure FldK(K:Frag)(c:RCl ι)(f:Str):Prop where
 ex:∀ k,c.ok k=true->Cls K (c.A k)/\NoAttr K (c.A k) f
structure MCal(P:Program)(w:World)(K:Frag)(mg:Str->Option Value)(base:Heap)(c:RCl ι)(okm:ι->Bool)(k:Nat)(m:Str)(ps:List Str)(sp:ι->Sp):Prop where
 ex:∀ i,okm i=true->∃(f:Addr) (fd:FuncData),Cls K (c.A i)/\Meth K (c.A i) m f/\FnOk P w K mg base CX0 k f fd ps (sp i)/\Binds K fd ps []
structure KCal(P:Program)(w:World)(K:Frag)(mg:Str->Option Value)(base:Heap)(k:Nat)(x:Str)(C:Addr)(ps:List Str)(sp:Sp):Prop where
 ex:∃(f:Addr) (fd:FuncData),Mk K C f/\FnOk P w K mg base CX0 k f fd ps sp/\mg x=some (.ref C)/\Binds K fd ps []
end
section
variable{ι:Type}{X:Cx}{c:RCl ι}{o e value:Expr}{es:List Expr}{f x m:Str}{p pos pos' apos:Pos}{ta tv:TE}{t:TA}{okm:ι->Bool}{k n:Nat}{ps:List Str}{sp:ι->Sp}{sp1:Sp}{C:Addr}
theorem bw(he:PE X e ta)(F:FldK X.K c f)(hb:attributeBase e f X.env (eval e X.env)=eval e X.env:=by rfl):PE X (.Attribute e f pos) (tFldK c ta f):=by
 intro Md s σ H Q I h;refine Gn hb (thn (he Md s σ H _ I h) fun u s1 ⟨x,H1,I1,rx,a,k,dx,fs,v,ex,hk,ea,l,q⟩=>?_);subst ex;obtain rfl:u=Value.ref a:=rx;obtain⟨cl,na⟩:=F.ex k hk;exact CS I1 ea cl na l fun u' s2 I2 ru=>⟨v,H1,I2,ru,q⟩
theorem iO(ha:PE X o ta)(hv:PE X value tv)(F:FldK X.K c f)(hs:swapsWith value (some (.Attribute o f pos')) pos.line X.env=pure false:=by rfl):PS X (.Assign [.Attribute o f pos'] value pos) (sFldK c ta tv f):=by
 intro Md s σ H D I h;refine plainObj_wpAny_Assign_Attribute (thn (hv Md s σ H _ I h) fun u s1 ⟨y,H1,I1,ry,q⟩=>thn (ha Md s1 σ H1 _ I1 q) fun ov s2 ⟨x,H2,I2,rx,a,k,dx,fs,ex,hk,ea,l,q2⟩=>?_) hs;subst ex;obtain rfl:ov=Value.ref a:=rx;obtain⟨cl,na⟩:=F.ex k hk;exact CT I2 ea cl na l ry fun s3 I3=>⟨σ,_,I3,q2⟩
theorem bR {pl:Sem Bool} (M:MCal X.prog X.w X.K X.mg X.base c okm k m ps sp) (hr:Room n X.A) (hk:k<=n) (he:PE X o ta) (ha:PA X (e::es) t)
  (hst:starEach (e::es) X.env=(false,eval e X.env)::starEach es X.env:=by rfl) (hpl:(backTo pos (starEach es X.env)).any (·.1)=false:=by rfl)
  (ht:eval (.Call (.Attribute o m apos) (e::es) [] pos) X.env=(do
   let ov ← eval o X.env
   standAt apos.atName
   let (f,first) ← holding [ov] (getMethod ov m pl)
   callWith pos f first (backTo pos (starEach (e::es) X.env)) (backToKw pos (keywordEach [] X.env))):=by rfl):
  PE X (.Call (.Attribute o m apos) (e::es) [] pos) (aD c okm m sp ta t):=by
 intro Md s σ H Q I h;refine P7 (pl:=pl) (thn (he Md s σ H _ I h) fun u s1 ⟨x,H1,I1,rx,a,i,dx,fs,ex,hi,ea,l,q⟩=>?_) ht;subst ex;obtain rfl:u=Value.ref a:=rx;obtain⟨f,fd,cl,hm,F,hb⟩:=M.ex i hi;refine vd I1 ea cl hm l ?_;refine Pm (first:=[.ref a]) (h₀:=X.base) I.ok.mod.kin hm.kp (thn (ha pos Md s1 σ H1 _ I1 q) fun us s2 ⟨vs,H2,I2,r,q2⟩=>⟨I2.kIn,?_⟩) hst hpl;exact zP (us:=.ref a::us) (vs:=.ref a::vs) F (hr.mono hk) hb .nil zB I2 (.cons rfl r) (by rw[P1];exact q2)
theorem aI {pl:Sem Bool} (M:MCal X.prog X.w X.K X.mg X.base c okm k m ps sp) (hr:Room n X.A) (hk:k<=n) (he:PE X o ta)
  (ht:eval (.Call (.Attribute o m apos) [] [] pos) X.env=(do
   let ov ← eval o X.env
   standAt apos.atName
   let (f,first) ← holding [ov] (getMethod ov m pl)
   callWith pos f first (backTo pos (starEach [] X.env)) (backToKw pos (keywordEach [] X.env))):=by rfl):
  PE X (.Call (.Attribute o m apos) [] [] pos) (aD c okm m sp ta tNil):=by
 intro Md s σ H Q I h;refine P7 (pl:=pl) (thn (he Md s σ H _ I h) fun u s1 ⟨x,H1,I1,rx,a,i,dx,fs,ex,hi,ea,l,q⟩=>?_) ht;subst ex;obtain rfl:u=Value.ref a:=rx;obtain⟨f,fd,cl,hm,F,hb⟩:=M.ex i hi;refine vd I1 ea cl hm l ?_;exact PySem.W.callWith_K0 (first:=[.ref a]) I1.kIn hm.kp (zP (us:=[.ref a]) (vs:=[.ref a]) F (hr.mono hk) hb .nil zB I1 (.cons rfl .nil) q)
theorem lV (M:KCal X.prog X.w X.K X.mg X.base k x C ps sp1) (hr:Room n X.A) (hk:k+1<=n) (hg:Gl X x) (ha:PA X (e::es) t)
  (hdb:(x==("__debug__":Str))=false:=by decide) (he:starEach (e::es) X.env=(false,eval e X.env)::starEach es X.env:=by rfl) (hpl:(backTo pos (starEach es X.env)).any (·.1)=false:=by rfl):
  PE X (.Call (.Name x p) (e::es) [] pos) (tMake C sp1 [] E0 t):=by
 obtain⟨f,fd,mk,F,hm,hb⟩:=M.ex;exact Gq mk F (hr.mono hk) hg hm hb .nil zB ha hdb he hpl
end
def mt(K:Frag):List V->Hp->VK->Prop
 | [.ref p],H,Q=>bnd (unM (H p)) fun ys=>∀ l,H l=none->Q (.ref l) (upd H l (.tup ys))
 | _,_,_=>False
def tInG(ws:List Str)(neg:Bool)(te:TE):TE:=fun σ H Q=>te σ H fun x H1=>∃ z,x=.str z/\Q (.bl (if neg then !decide (z∈ws) else decide (z∈ws))) H1
structure GTup(K:Frag)(mg:Str->Option Value)(x:Str)(ws:List Str):Prop where
 ex:∃(p:Addr) (o:Obj) (Mi:Array Value) (n:Nat),mg x=some (.ref p)/\K.lookup p=some o/\o.cls=.type "tuple"/\o.data=.seq Mi n/\Mi.size<=sizeLine/\Vals (ws.map V.str) Mi.toList
theorem kU:∀ ns:List Str,(ns.map V.str).all flatV=true
 | []=>rfl
 | n::r=>by rw[M4,O0,kU r];rfl
theorem mw(i:Str):∀ ns:List Str,inV (.str i) (ns.map V.str)=decide (i∈ns)
 | []=>by simp[inV]
 | n::r=>by
  have ih:=mw i r;unfold inV at ih ⊢;rw[M4,Ov,ih];show((n==i)||decide (i∈r))=decide (i∈n::r);rw[MZ,Os,Oy,Mx,Mx,MS];exact⟨fun h=>h.elim (fun e=>.inl e.symm) .inr,fun h=>h.elim (fun e=>.inl e.symm) .inr⟩
section
variable{X:Cx}{a:Expr}{ta:TE}{pos p:Pos}{x:Str}{ws:List Str}
theorem tX:CallR X (.type "tuple") (mt X.K):=by
 intro Md s σ H xs us Q I r h;unfold mt at h
 split at h
 . obtain⟨ys,e,q⟩:=bb h;exact yS Md s σ H _ us Q I r ⟨_,ys,rfl,.inl ⟨MO (gU e),q⟩⟩
 . exact h.elim
theorem HQ{ws:List Str}{q:Addr}(hq:∃(o:Obj) (Mi:Array Value) (n:Nat),X.K.lookup q=some o/\o.cls=.type "tuple"/\o.data=.seq Mi n/\Mi.size<=sizeLine/\Vals (ws.map V.str) Mi.toList):
  OpR X (compareOp .In) (fun x y H Q=>∃ z,x=.str z/\y=.ref q/\Q (.bl (decide (z∈ws))) H):=by
 intro Md s σ H x y v u Q I rx ry h;obtain⟨z,rfl,rfl,h⟩:=h;refine ng Md s σ H _ _ v u Q I rx ry ⟨q,ws.map V.str,rfl,.inr (.inr hq),rfl,kU ws,?_⟩;rw[mw];exact h
theorem GD{ws:List Str}{q:Addr}(hq:∃(o:Obj) (Mi:Array Value) (n:Nat),X.K.lookup q=some o/\o.cls=.type "tuple"/\o.data=.seq Mi n/\Mi.size<=sizeLine/\Vals (ws.map V.str) Mi.toList):
  OpR X (compareOp .NotIn) (fun x y H Q=>∃ z,x=.str z/\y=.ref q/\Q (.bl (!decide (z∈ws))) H):=by
 intro Md s σ H x y v u Q I rx ry h;obtain⟨z,rfl,rfl,h⟩:=h;refine qX Md s σ H _ _ v u Q I rx ry ⟨q,ws.map V.str,rfl,.inr (.inr hq),rfl,kU ws,?_⟩;rw[mw];exact h
end
section
variable{ι:Type}{c:RCl ι}{ta tv:TE}{t:TA}{f m:Str}{σ:St}{H:Hp}{Q:VK}{D:Ends}{okm:ι->Bool}{sp:ι->Sp}{sp1:Sp}{C:Addr}{K:Frag}
theorem gY:tMake C sp1 [] E0 t σ H Q=t σ H fun vs H1=>∀ x dx,H1 x=none->H1 dx=none->dx≠x->sp1 (.ref x::(vs++[])) (upd (upd H1 dx (.own x)) x (.ins C dx [])) (fun v H2=>v=.non/\Q (.ref x) H2) E0:=rfl
theorem kI{ws:List Str}{neg:Bool}{te:TE}:tInG ws neg te σ H Q=te σ H fun x H1=>∃ z,x=.str z/\Q (.bl (if neg then !decide (z∈ws) else decide (z∈ws))) H1:=rfl
theorem GE{p:Addr}{xs:List V}(hp:H p=some (.lst xs))(h:∀ l,H l=none->Q (.ref l) (upd H l (.tup xs))):mt K [.ref p] H Q:=by
 unfold mt;dsimp only;rw[hp];exact h
end
def cntD(ns:List Int):Nat:=(firstMet (fun i=>ns.getD i 0) ns.length).length
def sX(te:TE):TE:=fun σ H Q=>te σ H fun x H1=>∃ p ns,x=.ref p/\H1 p=some (.lst (ns.map V.int))/\ns.length<=900/\Q (.int (cntD ns:Nat)) H1
theorem dv{te:TE}{σ:St}{H:Hp}{Q:VK}:sX te σ H Q=te σ H fun x H1=>∃ p ns,x=.ref p/\H1 p=some (.lst (ns.map V.int))/\ns.length<=900/\Q (.int (cntD ns:Nat)) H1:=rfl
theorem GF:bootBuiltins "set"=some (.type "set"):=by decide+kernel
theorem yp {X:Cx} {e:Expr} {te:TE} {p p2 pos pos2:Pos} (hc:X.calm=true) (hgl:Gl X "len") (hgs:Gl X "set") (hl:X.mg "len"=none) (hs:X.mg "set"=none) (he:PE X e te)
  (hs1:starEach [.Call (.Name "set" p2) [e] [] pos2] X.env=[(false,eval (.Call (.Name "set" p2) [e] [] pos2) X.env)]:=by rfl) (hs2:starEach [e] X.env=[(false,eval e X.env)]:=by rfl):
  PE X (.Call (.Name "len" p) [.Call (.Name "set" p2) [e] [] pos2] [] pos) (sX te):=by
 intro Md s σ H Q I h;refine NX (gS I hgl hl aP ?_ (by decide) (by decide));refine OV ?_ hs1 rfl;rw[hs1];show wpAny _ _ (spliced [(false,eval (.Call (.Name "set" p2) [e] [] pos2) X.env)]) _ _ s;refine OH ?_;refine NX (gS I hgs hs GF ?_ (by decide) (by decide));refine Nw ?_ hs2 rfl;rw[hs2];show wpAny _ _ (spliced [(false,eval e X.env)]) _ _ s;refine OH (thn (he Md s σ H _ I h) fun u s1 ⟨x,H1,I1,r1,q1⟩=>?_);refine OM ?_;obtain⟨l,ns,rfl,hys,hn,q⟩:=q1;cases r1;obtain⟨Mi,n,rv,ho,hz⟩:=I1.lst hys;have hL:s1.heap.IsList l Mi.toArray:=⟨_,ho,rfl,n,rfl⟩;have hI:IntsAre Mi ns:=ve rv;have Mn:=rv.length;rw[Mr] at Mn;refine call_set_list (ns:=ns) (I.ok.hd hc) hL (by simpa using hI) (by rw[MX,← Mn];exact NG (Nat.succ_le_succ hn) (by decide)) fun h' tk hS old=>?_;refine OM ?_;obtain⟨o,es,ep,t,h1,h2,h3,h4,h5,h6,h7,h8⟩:=hS;have hb:(firstMet (fun i=>ns.getD i 0) Mi.toArray.size).length<=900:=ML (firstMet_length_le _ _) (by rw[MX,← Mn];exact hn);refine call_len_set h1 h2 h3 h7 (by omega) ?_;have I2:Inv X Md σ H1 {s1 with heap:=h',toks:=tk}:=I1.kept fun b o' e=>old b o' (M5 e) e;refine⟨.int _,H1,I2.tok _,⟨_,rfl⟩,?_⟩;rw[h8,MX,← Mn];exact q
def kW:V->List V->Hp->VK->Prop
 | .str sep,[.ref p],H,Q=>bnd (unS (H p)) fun ys=>∃ ts:List Str,ys=ts.map V.str/\JoinOk sep ts=true/\Q (.str (Txt.join sep ts)) H
 | _,_,_,_=>False
theorem rj{X:Cx}:MtR X "str.join" kW:=by
 intro Md s σ H x vs v us Q I rx rv h;unfold kW at h
 split at h
 . rename_i sep p
   obtain⟨ys,e,ts,rfl,hok,q⟩:=bb h;rcases oT (K:=X.K) e with hq | hq
   . obtain⟨t,rfl⟩:=rx;obtain⟨u,rfl,ru⟩:=cX rv;cases ru;obtain⟨Mi,rvv,pl,hz⟩:=I.list hq;obtain⟨l,rfl,hl⟩:=wZ rvv;exact SC.join pl.isList hl hok fun t' k=>⟨.str _,H,I.tok k,⟨t',rfl⟩,q⟩
   . obtain⟨t,rfl⟩:=rx;obtain⟨u,rfl,ru⟩:=cX rv;cases ru;obtain⟨Mi,rvv,pl,hz⟩:=I.tuple hq;obtain⟨l,rfl,hl⟩:=wZ rvv;subst hl;obtain⟨o,h1,h2,n,h3⟩:=pl;have hok':=hok;unfold JoinOk at hok';rw[Nz] at hok';exact Oo F.slot_str_join (OW _ _ _) F.entry_str_join (F.args_str_join_2 _ _) (meets_str_join_tuple sep t p l hok') ⟨⟨o,n,h1,h2,h3⟩,post_join l ⟨joinFit_length hok',fun t' k=>⟨.str _,H,I.tok k,⟨t',rfl⟩,q⟩⟩⟩
 . exact h.elim
section
variable{X:Cx}{e:Expr}{te:TE}{p2 p3 p4 pos:Pos}{z0:Nat}
def vx:V->List V->Hp->VK->Prop
 | .ref l,[.int i],H,Q=>bnd (unM (H l)) fun xs=>0<=i/\i<xs.length/\bnd (xs[i.toNat]?) fun y=>Q y (upd H l (.lst (xs.eraseIdx i.toNat)))
 | _,_,_,_=>False
theorem seqIx{i:Int}{n:Nat}(h0:0<=i)(h1:i<n):seqIndex? i n=some i.toNat:=by
 obtain⟨k,rfl⟩:=Om h0;have hk:k<n:=by omega
 unfold seqIndex?;have hn:¬ ((k:Int)<0):=by omega
 simp[hk,hn]
theorem EB:MtR X "list.pop" vx:=by
 intro Md s σ H x vs v us Q I rx rv h;unfold vx at h
 split at h
 . obtain⟨xs,e,h0,h1,h⟩:=bb h;obtain⟨y,ey,q⟩:=bb h;have hz:xs.length<=sizeLine:=(I.lstM (gU e)).1;have hs:(sizeLine:Int)<2^63:=by decide
   exact Fw Md s σ H _ _ v us Q I rx rv ⟨_,xs,_,_,y,rfl,rfl,gU e,by omega,by omega,seqIx h0 h1,ey,q⟩
 . exact h.elim
def tRevL(te:TE):TE:=fun σ H Q=>te σ H fun x H1=>∃ p xs,x=.ref p/\H1 p=some (.lst xs)/\∀ l,H1 l=none->Q (.ref l) (upd H1 l (.lst xs.reverse))
end
section
variable{σ:St}{H:Hp}{Q:VK}{te:TE}
theorem kJ{i j:Int}{H:Hp}{Q:VK}:kMax [.int i,.int j] H Q=Q (.int (if j>i then j else i)) H:=rfl
theorem gZ:tRevL te σ H Q=te σ H fun x H1=>∃ p xs,x=.ref p/\H1 p=some (.lst xs)/\∀ l,H1 l=none->Q (.ref l) (upd H1 l (.lst xs.reverse)):=rfl
theorem GG{l:Addr}{i:Int}{xs:List V}{y:V}(hl:H l=some (.lst xs))(h0:0<=i)(h1:i<xs.length)(ey:xs[i.toNat]? =some y)(q:Q y (upd H l (.lst (xs.eraseIdx i.toNat)))):vx (.ref l) [.int i] H Q:=by
 show bnd (unM (H l)) _;rw[hl];exact ba (a:=xs) rfl ⟨h0,h1,ba ey q⟩
end
theorem C6:typeLookup (.type "str") (Str.ofString "__int__")=pure none:=by rw[P3,OR];kernel_rfl
theorem Af:typeLookup (.type "str") (Str.ofString "__index__")=pure none:=by rw[P3,OR];kernel_rfl
theorem Ag:typeLookup (.type "str") (Str.ofString "__trunc__")=pure none:=by rw[P3,OR];kernel_rfl
def numC(n:Nat):List Nat:=if n<10 then [48+n] else [48+n/10,48+n%10]
variable{n:Nat}
theorem EC(h:n<100):((tx (numC n)).cps.all fun x=>decide (x<128))=true:=by
 have t:((List.range 100).all fun n=>(tx (numC n)).cps.all fun x=>decide (x<128))=true:=by decide+kernel
 exact MC.mp t n (MF.mpr h)
theorem ED{α:Type}{M:Model}{A:Around}{E:Value->Shared->Prop}{s:Shared}{Q:α->Shared->Prop}{m m':Sem α}(e:m=m')(h:wpAny M A m' Q E s):wpAny M A m Q E s:=e ▸ h
theorem gis(n:Nat)(hn:n<100)(u:Tok):Gives (Builtin.«int.__new__» ⟨[.type "int",.str (tx (numC n)) u],[]⟩) (.int n):=
 .of_wp fun M A E s Q h=>by
  obtain⟨hp,g,d,tk,os⟩:=s;have f1:=PySem.F.conv_sub_int;have f2:=PySem.F.madeHere_int;have f3:=C6;have f4:=Af;have f5:=Ag
  iterate 44 (any_goals (first | assumption | wp_step))
  refine Nb (wpAny_of_eq (a:=some (tx (numC n))) rfl ?_);refine wpAny_of_eq (a:=some (numC n)) ?e1 ?_
  case e1=>
   show(pure (some (if ((tx (numC n)).cps.all fun x=>decide (x<128))=true then(tx (numC n)).cps.toList else _)):Sem _)=_;rw[MU (EC hn),vw]
  refine ED (m':=mkInt (n:Int)) ?e2 ?_
  case e2=>
   clear h f1 f2 f3 f4 f5
   match n,hn with | 0,_=>kernel_rfl | 1,_=>kernel_rfl | 2,_=>kernel_rfl | 3,_=>kernel_rfl | 4,_=>kernel_rfl | 5,_=>kernel_rfl | 6,_=>kernel_rfl | 7,_=>kernel_rfl | 8,_=>kernel_rfl | 9,_=>kernel_rfl | 10,_=>kernel_rfl | 11,_=>kernel_rfl | 12,_=>kernel_rfl | 13,_=>kernel_rfl | 14,_=>kernel_rfl | 15,_=>kernel_rfl | 16,_=>kernel_rfl | 17,_=>kernel_rfl | 18,_=>kernel_rfl | 19,_=>kernel_rfl | 20,_=>kernel_rfl | 21,_=>kernel_rfl | 22,_=>kernel_rfl | 23,_=>kernel_rfl | 24,_=>kernel_rfl | 25,_=>kernel_rfl | 26,_=>kernel_rfl | 27,_=>kernel_rfl | 28,_=>kernel_rfl | 29,_=>kernel_rfl | 30,_=>kernel_rfl | 31,_=>kernel_rfl | 32,_=>kernel_rfl | 33,_=>kernel_rfl | 34,_=>kernel_rfl | 35,_=>kernel_rfl | 36,_=>kernel_rfl | 37,_=>kernel_rfl | 38,_=>kernel_rfl | 39,_=>kernel_rfl | 40,_=>kernel_rfl | 41,_=>kernel_rfl | 42,_=>kernel_rfl | 43,_=>kernel_rfl | 44,_=>kernel_rfl | 45,_=>kernel_rfl | 46,_=>kernel_rfl | 47,_=>kernel_rfl | 48,_=>kernel_rfl | 49,_=>kernel_rfl | 50,_=>kernel_rfl | 51,_=>kernel_rfl | 52,_=>kernel_rfl | 53,_=>kernel_rfl | 54,_=>kernel_rfl | 55,_=>kernel_rfl | 56,_=>kernel_rfl | 57,_=>kernel_rfl | 58,_=>kernel_rfl | 59,_=>kernel_rfl | 60,_=>kernel_rfl | 61,_=>kernel_rfl | 62,_=>kernel_rfl | 63,_=>kernel_rfl | 64,_=>kernel_rfl | 65,_=>kernel_rfl | 66,_=>kernel_rfl | 67,_=>kernel_rfl | 68,_=>kernel_rfl | 69,_=>kernel_rfl | 70,_=>kernel_rfl | 71,_=>kernel_rfl | 72,_=>kernel_rfl | 73,_=>kernel_rfl | 74,_=>kernel_rfl | 75,_=>kernel_rfl | 76,_=>kernel_rfl | 77,_=>kernel_rfl | 78,_=>kernel_rfl | 79,_=>kernel_rfl | 80,_=>kernel_rfl | 81,_=>kernel_rfl | 82,_=>kernel_rfl | 83,_=>kernel_rfl | 84,_=>kernel_rfl | 85,_=>kernel_rfl | 86,_=>kernel_rfl | 87,_=>kernel_rfl | 88,_=>kernel_rfl | 89,_=>kernel_rfl | 90,_=>kernel_rfl | 91,_=>kernel_rfl | 92,_=>kernel_rfl | 93,_=>kernel_rfl | 94,_=>kernel_rfl | 95,_=>kernel_rfl | 96,_=>kernel_rfl | 97,_=>kernel_rfl | 98,_=>kernel_rfl | 99,_=>kernel_rfl | (m+100),hm=>exact absurd hm (by omega)
  repeat (any_goals (first | assumption | wp_step))
  all_goals first | exact⟨_,rfl,h⟩ | skip
def np:List V->Hp->VK->Prop
 | [.int i],H,Q=>Q (.int i) H
 | [.bl k],H,Q=>Q (.int (if k then 1 else 0)) H
 | [.str z],H,Q=>∃ n:Nat,n<100/\z=tx (numC n)/\Q (.int n) H
 | _,_,_=>False
theorem qc{X:Cx}:CallR X (.type "int") np:=by
 intro Md s σ H xs us Q I r h;unfold np at h
 split at h
 . exact ya Md s σ H _ us Q I r (.inl ⟨_,rfl,h⟩)
 . exact ya Md s σ H _ us Q I r (.inr ⟨_,rfl,h⟩)
 . obtain⟨n,hn,rfl,q⟩:=h;obtain⟨u,rfl,ru⟩:=cX r;obtain⟨t,rfl⟩:=ru;exact call_int_1 (gis n hn t).meets (show(Made.int (n:Int)).post _ s from⟨rfl,⟨.int n,H,I.tok _,⟨_,rfl⟩,q⟩⟩)
 . exact h.elim
theorem eP{k:Bool}{H:Hp}{Q:VK}:np [.bl k] H Q=Q (.int (if k then 1 else 0)) H:=rfl
theorem eQ{i:Int}{H:Hp}{Q:VK}:np [.int i] H Q=Q (.int i) H:=rfl
theorem xf(h:n<100):Str.ofString (toString (n:Int))=tx (numC n):=by
 have t:((List.range 100).all fun(n:Nat)=>decide (Str.ofString (toString (n:Int))=tx (numC n)))=true:=by decide+kernel
 simpa using MC.mp t n (MF.mpr h)
theorem uA(h:n<100):32∉numC n:=by
 have t:((List.range 100).all fun(n:Nat)=>decide (32∉numC n))=true:=by decide+kernel
 simpa using MC.mp t n (MF.mpr h)
theorem HR(h:n<100):numC n≠[]:=by unfold numC;split <;> simp
theorem dP:(numC n).length<=2:=by unfold numC;split <;> simp
theorem FG(h:n<100):((numC n).head? =some 48->n=0)/\numC 0=[48]:=by
 have t:((List.range 100).all fun(n:Nat)=>decide ((numC n).head? =some 48->n=0))=true:=by decide+kernel
 exact⟨MG (MC.mp t n (MF.mpr h)),rfl⟩
theorem Co(h:n<100):∀ c∈numC n,48<=c/\c<=57:=by
 have t:((List.range 100).all fun(n:Nat)=>(numC n).all fun c=>decide (48<=c/\c<=57))=true:=by decide+kernel
 intro c hc
 simpa using MC.mp (MC.mp t n (MF.mpr h)) c hc
local macro_rules|`(tactic|walk_at "w")=>wk9 ws1
local macro_rules|`(tactic|symm)=>`(tactic|walk_at "w")
def bP(K:Frag):Sp:=fun vs H Q _=>∃(a:Addr) (h w g:Int),vs=[.ref a]/\IsFl H a h w g/\1<=h/\h<=6/\Q (.int (h*w)) H
def lg(K:Frag):TS:=
 (tRet (tOp cMul (tOp cIx (tVar 0) (tC (.int 0))) (tOp cIx (tVar 0) (tC (.int 1)))))
variable{K:Frag}{vs:List V}{H:Hp}{Q:VK}{E:XK}
theorem yT(h:bP K vs H Q E):lg K (eD9 Q) (start ["floor"] vs) H:=by
 obtain⟨a,h,w,g,rfl,ha,h0,h1,q⟩:=h;show lg K _ [some (.ref a)] H;unfold lg;symm;rw[ig ha];refine ba (a:=V.int h) rfl ?_;symm;rw[ig ha];refine ba (a:=V.int w) rfl ?_;symm;exact⟨no h0 h1,q⟩
def cornB(h w c:Int):Bool:=decide (c/w<h-1)&&decide (c%w<w-1)
def mx(K:Frag):Sp:=fun vs H Q _=>∃(a:Addr) (h w g c:Int),vs=[.ref a,.int c]/\IsFl H a h w g/\0<w/\w<100/\∀ H',Same H H'->Q (.bl (cornB h w c)) H'
def my(K:Frag):TS:=
 (tSeq (tAsg (tCall (lU K) [] E0 (tCons (tVar 0) (tCons (tVar 1) tNil))) (gName 2))
  (tRet (tAndV (tOp (cCmp fun i j=>decide (i<j)) (tOp cIx (tVar 2) (tC (.int 0))) (tOp cSub (tOp cIx (tVar 0) (tC (.int 0))) (tC (.int 1)))) (tOp (cCmp fun i j=>decide (i<j)) (tOp cIx (tVar 2) (tC (.int 1))) (tOp cSub (tOp cIx (tVar 0) (tC (.int 1))) (tC (.int 1)))))))
theorem Ah(h:mx K vs H Q E):my K (eD9 Q) (start ["floor","cell","spot"] vs) H:=by
 obtain⟨a,h,w,g,c,rfl,ha,w0,w1,k⟩:=h;show my K _ [some (.ref a),some (.int c),none] H;unfold my;symm;refine⟨a,h,w,g,c,rfl,ha,w0,w1,fun p hp=>?_⟩;have s1:Same H (upd H p (.tup [.int (c/w),.int (c%w)])):=(Mw H).laid hp;have k1:=k _ s1;have ha1:=s1 _ _ ha;have hp1:(upd H p (.tup [.int (c/w),.int (c%w)])) p=some (.tup [.int (c/w),.int (c%w)]):=ak;generalize upd H p (.tup [.int (c/w),.int (c%w)])=H1 at*;symm;rw[ig hp1];refine ba (a:=V.int (c/w)) rfl ?_;symm;rw[ig ha1];refine ba (a:=V.int h) rfl ?_;symm;unfold cornB at k1
 cases hb:decide (c/w<h-1) with
 | false=>
  rw[hb,MQ] at k1;exact iteF k1
 | true=>
  rw[hb,MR] at k1;refine iteT ?_;rw[ig hp1];refine ba (a:=V.int (c%w)) rfl ?_;symm;rw[ig ha1];refine ba (a:=V.int w) rfl ?_;symm;exact k1
def sqL(w c:Int):List Int:=[c,c+1,c+w,c+w+1]
def mB(K:Frag):Sp:=fun vs H Q _=>∃(a:Addr) (h w g c:Int),vs=[.ref a,.int c]/\IsFl H a h w g/\∀ p,H p=none->Q (.ref p) (upd H p (.lst ((sqL w c).map V.int)))
def mC(K:Frag):TS:=
 (tSeq (tAsg (tOp cAdd (tVar 1) (tOp cIx (tVar 0) (tC (.int 1)))) (gName 2))
  (tRet (tLst (tCons (tVar 1) (tCons (tOp cAdd (tVar 1) (tC (.int 1))) (tCons (tVar 2) (tCons (tOp cAdd (tVar 2) (tC (.int 1))) tNil)))))))
theorem Ai(h:mB K vs H Q E):mC K (eD9 Q) (start ["floor","corner","below"] vs) H:=by
 obtain⟨a,h,w,g,c,rfl,ha,k⟩:=h;show mC K _ [some (.ref a),some (.int c),none] H;unfold mC;symm;rw[ig ha];refine ba (a:=V.int w) rfl ?_;symm;exact⟨lnR rfl,k⟩
def squL(h w:Int):List (List Int):=((List.range (h*w).toNat).filter fun(i:Nat)=>cornB h w i).map fun(i:Nat)=>sqL w i
def jf(K:Frag):Sp:=fun vs H Q _=>∃(a:Addr) (h w g:Int),vs=[.ref a]/\IsFl H a h w g/\FlOk h w g/\
 ∀ l as H',Same H H'->H l=none->IsLL H' l as (squL h w)->as.Nodup->l∉as->(∀ a∈as,H a=none)->Q (.ref l) H'
def qd(K:Frag):TS:=
 (tRet (tComp [none,none,some 0] (gi (tCons (tCall (bP K) [] E0 (tCons (tVar 0) tNil)) tNil)) (gName 1) (tB (tCall (mx K) [] E0 (tCons (tVar 2) (tCons (tVar 1) tNil)))) (tCall (mB K) [] E0 (tCons (tVar 2) (tCons (tVar 1) tNil)))))
theorem NewAt.ll{H1:Hp}{l:Addr}{as:List Addr}{Ml:List (List Int)}(x:NewAt H1 H l as (Ml.map fun xs=>.lst (xs.map V.int)))(e:H l=some (.lst (as.map V.ref))):IsLL H l as Ml:=
 ⟨e,by rw[x.len,Mr],fun j a xs h1 h2=>x.at_ j a _ h1 (by rw[MA,h2];rfl)⟩
theorem C7(h:jf K vs H Q E):qd K (eD9 Q) (start ["floor"] vs) H:=by
 obtain⟨a,h,w,g,rfl,ha,F,k⟩:=h;obtain⟨h0,h1,w0,w1,m16,g0,g1⟩:=F;have mpos:0<=h*w:=OA (by omega) (by omega);show qd K _ [some (.ref a)] H;unfold qd;symm;refine⟨a,h,w,g,rfl,ha,h0,h1,?_⟩;symm;refine⟨h*w,rfl,by omega,by omega,?_⟩;refine tW (fun(i:Nat)=>cornB h w i) (fun(i:Nat)=>.lst ((sqL w i).map V.int)) (by omega) ?_ ?_ ?_
 . intro i H1 R hi s1 k1;show tB _ [none,some (.int (0+(i:Int))),some (.ref a)] H1 R;symm;rw[Og];exact⟨a,h,w,g,_,rfl,s1 _ _ ha,by omega,by omega,fun H2 s2=>⟨_,rfl,k1 H2 s2⟩⟩
 . intro i H1 Q1 hi hb s1 k1;show tCall _ _ _ _ [none,some (.int (0+(i:Int))),some (.ref a)] H1 Q1;symm;rw[Og];exact⟨a,h,w,g,_,rfl,s1 _ _ ha,fun p hp=>k1 p _ ((Mw H1).laid hp) hp ak⟩
 . intro l as H2 hl s2 el x
   have x':NewAt H H2 l as ((squL h w).map fun xs=>.lst (xs.map V.int)):=by
    unfold squL;rw[Na];exact x
   exact k l as H2 s2 hl (x'.ll el) x.nd x.nl x.fr
def ws4:String:="aE gY kI dv gZ eP eQ kJ kG gX kH if_true if_false Bool.false_eq_true decide_true decide_false dN dO je cF bY dL fT dM cE fR fS cD i9 cG cH cJ cK cL cM cI fV fW fX fQ jd Bool.not_true Bool.not_false aE "++ws1
local macro_rules|`(tactic|walk_at "w")=>wk9 ws4
def nmC:RK->List Nat
 | .Rule=>[]
 | .Unlike=>[117,110,108,105,107,101]
 | .Sum=>[115,117,109]
 | .Rising=>[114,105,115,105,110,103]
 | .Seen=>[115,101,101,110]
 | .Count=>[99,111,117,110,116]
 | .Joined=>[106,111,105,110,101,100]
 | .NoSquare=>[110,111,115,113,117,97,114,101]
 | .Ring=>[114,105,110,103]
def gk:List Str:=[tx [115,117,109],tx [115,101,101,110],tx [99,111,117,110,116]]
def fY:List Str:=[tx [99,111,117,110,116],tx [106,111,105,110,101,100],tx [110,111,115,113,117,97,114,101],tx [114,105,110,103]]
def fH:List Str:=[tx [106,111,105,110,101,100],tx [110,111,115,113,117,97,114,101],tx [114,105,110,103]]
def rFs(p W C:Addr)(n m:Int):List (Str × V):=[("floor",.ref p),("words",.ref W),("cells",.ref C),("amount",.int n),("mark",.int m)]
structure IsRule(H:Hp)(c:RCl RK)(k:RK)(r p:Addr)(ws:List (List Nat))(cs:List Int)(n m:Int):Prop where
 ok:c.ok k=true
 ex:∃ dx W C,H r=some (.ins (c.A k) dx (rFs p W C n m))/\H W=some (.tup ((ws.map tx).map V.str))/\H C=some (.tup (cs.map V.int))
variable{H:Hp}{c:RCl RK}{p:Addr}{cs:List Int}
theorem IsRule.same{H':Hp}{k:RK}{r:Addr}{ws:List (List Nat)}{n m:Int}(x:IsRule H c k r p ws cs n m)(s:Same H H'):IsRule H' c k r p ws cs n m:=by
 obtain⟨dx,W,C,h1,h2,h3⟩:=x.ex;exact⟨x.ok,dx,W,C,s _ _ h1,s _ _ h2,s _ _ h3⟩
section
variable{ι:Type}{c:RCl ι}{σ:St}{H:Hp}{Q:VK}{i:Nat}{r dx:Addr}{k:ι}{fs:List (Str × V)}{f m:Str}{v:V}{okm:ι->Bool}{sp:ι->Sp}{t:TA}{D:Ends}{tv:TE}{y:V}{H1:Hp}
theorem fldE(hσ:σ[i]? =some (some (.ref r)))(ok:c.ok k=true)(hr:H r=some (.ins (c.A k) dx fs))(hl:fs.lookup f=some v)(q:Q v H):tFldK c (tVar i) f σ H Q:=pX hσ ⟨r,k,dx,fs,v,rfl,ok,hr,hl,q⟩
theorem methE(hσ:σ[i]? =some (some (.ref r)))(ok:okm k=true)(hr:H r=some (.ins (c.A k) dx fs))(hl:fs.lookup m=none)(q:t σ H fun vs H2=>sp k (.ref r::vs) H2 Q E0):aD c okm m sp (tVar i) t σ H Q:=pX hσ ⟨r,k,dx,fs,rfl,ok,hr,hl,q⟩
theorem sfldV{j:Nat}{x:V}(hj:σ[j]? =some (some x))(hσ:σ[i]? =some (some (.ref r)))(ok:c.ok k=true)(hr:H r=some (.ins (c.A k) dx fs))(hn:fs.length<1000)(q:D.nx σ (upd H r (.ins (c.A k) dx (putF f x fs)))):sFldK c (tVar i) (tVar j) f D σ H:=
 pX hj (pX hσ ⟨r,k,dx,fs,rfl,ok,hr,hn,q⟩)
theorem sfldT {K:Frag} {j:Nat} {p:Addr} {xs:List V} (hj:σ[j]? =some (some (.ref p))) (hp:H p=some (.lst xs)) (hσ:σ[i]? =some (some (.ref r))) (ok:c.ok k=true) (hr:H r=some (.ins (c.A k) dx fs)) (hn:fs.length<1000)
  (q:∀ l,H l=none->D.nx σ (upd (upd H l (.tup xs)) r (.ins (c.A k) dx (putF f (.ref l) fs)))):sFldK c (tVar i) (tCB (mt K) (tCons (tVar j) tNil)) f D σ H:=by
 unfold sFldK;symm;refine pX hj (GE hp fun l hl=>?_);exact pX hσ ⟨r,k,dx,fs,rfl,ok,by rw[aq (aC hr hl)];exact hr,hn,q l hl⟩
end
variable{Q:VK}
theorem GH{xs:List V}(hp:H p=some (.tup xs))(h:∀ l,H l=none->Q (.ref l) (upd H l (.lst xs))):kList [.ref p] H Q:=by
 unfold kList;dsimp only;rw[hp];exact h
theorem xg{sep:Str}{ts:List Str}(hp:H p=some (.lst (ts.map V.str)))(hok:JoinOk sep ts=true)(h:Q (.str (Txt.join sep ts)) H):kW (.str sep) [.ref p] H Q:=by
 unfold kW;dsimp only;rw[hp];exact⟨ts,rfl,hok,h⟩
variable{K:Frag}
theorem yq {a:Addr} {k:Nat} {tt:TT} {te:TE} {fin:Addr->Hp->Prop} {σ0:St} {H1:Hp} {xs:List Int} (b:Int->Bool) (f:Int->Int) (hn:xs.length<=900) (hq:H1 a=some (.tup (xs.map V.int)))
  (ht:∀ x H R,x∈xs->Same H1 H->(∀ H',Same H H'->R (b x) H')->tt (σ0.set k (some (.int x))) H R)
  (he:∀ x H Q,x∈xs->b x=true->Same H1 H->(∀ H',Same H H'->Q (.int (f x)) H')->te (σ0.set k (some (.int x))) H Q)
  (hd:∀ l H,H1 l=none->Same H1 H->H l=some (.lst (((xs.filter b).map f).map V.int))->fin l H):CompR (Itt K a) (gName k) tt te fin σ0 H1:=by
 refine Ae (xs:=xs.map V.int) (fun l i σ H=>(σ=σ0\/∃ cv,σ=σ0.set k cv)/\Same H1 H/\H l=some (.lst ((((xs.take i).filter b).map f).map V.int))) (fun l hl=>⟨.inl rfl,(Mw H1).laid hl,by rw[ak];rfl⟩) (fun l i σ H _ _ p=>Qa (p.2.1 _ _ hq)) ?_ (fun l σ H hl p=>hd l H hl p.2.1 (by have:=p.2.2;rw[Mr,Nt] at this;exact this));rintro l i x σ H hl hx ⟨hσ,s1,el⟩;obtain⟨z,hz,rfl⟩:=aQ hx;have hi:i<xs.length:=(My.mp hz).1;have et:xs.take (i+1)=xs.take i++[z]:=by rw[OB,hz];rfl
 rw[bf]
 have e:σ.set k (some (.int z))=σ0.set k (some (.int z)):=by
  rcases hσ with rfl | ⟨cv,rfl⟩
  . rfl
  . exact N8 ..
 rw[e];refine ht z H _ (Mz hz) s1 fun H2 s2=>?_;have el2:=s2 _ _ el
 have Mn:((((xs.take i).filter b).map f).map V.int).length<sizeLine:=by
  rw[Mr,Mr];refine aK (ML (MM b _) ?_);rw[NO];omega
 cases hb:b z with
 | false=>
  rw[MP ME];refine⟨.inr ⟨_,rfl⟩,s1.trans s2,?_⟩;rw[et,Nd,Ni,hb]
  simpa using el2
 | true=>
  rw[MU rfl];refine he z H2 _ (Mz hz) hb (s1.trans s2) fun H3 s3=>⟨_,s3 _ _ el2,Mn,.inr ⟨_,rfl⟩,((s1.trans s2).trans s3).own hl,?_⟩;rw[ak,et,Nd,Ni,hb];simp
def xh(K:Frag)(c:RCl RK)(k:RK):Sp:=fun vs H Q _=>∃(r p:Addr) (w:List Nat) (ws:List (List Nat)) (cs:List Int) (n m:Int),vs=[.ref r]/\IsRule H c k r p (w::ws) cs n m/\Q (.str (tx w)) H
def d0(K:Frag)(c:RCl RK)(k:RK):Sp:=fun vs H Q _=>∃(r p:Addr) (ws:List (List Nat)) (cs:List Int) (n m:Int),vs=[.ref r]/\IsRule H c k r p ws cs n m/\∀ l,H l=none->Q (.ref l) (upd H l (.lst (cs.map V.int)))
def iP(K:Frag)(c:RCl RK)(k:RK):Sp:=fun vs H Q _=>∃(r p:Addr) (ws:List (List Nat)) (cs:List Int) (n m:Int),vs=[.ref r]/\IsRule H c k r p ws cs n m/\Q (.int n) H
def iQ(K:Frag)(c:RCl RK)(k:RK):Sp:=fun vs H Q _=>∃(r p:Addr) (ws:List (List Nat)) (cs:List Int) (n m:Int),vs=[.ref r]/\IsRule H c k r p ws cs n m/\Q (.int m) H
def sgAt(xs cs:List Int):List Int:=cs.map fun c=>xs.getD c.toNat 0
def mkAt(xs cs:List Int)(m:Int):List Int:=cs.filter fun c=>decide (xs.getD c.toNat 0=m)
def aN(cs:List Int)(n:Nat):Prop:=cs.length<=63/\∀ c∈cs,0<=c/\c<n
def eV(K:Frag)(c:RCl RK)(k:RK):Sp:=fun vs H Q _=>∃(r p f:Addr) (ws:List (List Nat)) (cs xs:List Int) (n m:Int),vs=[.ref r,.ref f]/\IsRule H c k r p ws cs n m/\H f=some (.lst (xs.map V.int))/\aN cs xs.length/\
 ∀ l H',Same H H'->H l=none->H' l=some (.lst ((sgAt xs cs).map V.int))->Q (.ref l) H'
def iR(K:Frag)(c:RCl RK)(k:RK):Sp:=fun vs H Q _=>∃(r p f:Addr) (ws:List (List Nat)) (cs xs:List Int) (n m:Int),vs=[.ref r,.ref f]/\IsRule H c k r p ws cs n m/\H f=some (.lst (xs.map V.int))/\aN cs xs.length/\
 ∀ l H',Same H H'->H l=none->H' l=some (.lst ((mkAt xs cs m).map V.int))->Q (.ref l) H'
def risB:List Int->Bool
 | x::y::r=>decide (x<y)&&risB (y::r)
 | _=>true
def seenN(xs:List Int):Int × Int:=xs.foldl (fun a x=>if a.1<x then(x,a.2+1) else a) (0,0)
noncomputable def joinB (h w:Int) (ms:List Int):Bool:=@decide (ms=[]\/(ms.Pairwise (· < ·)/\∀ x∈ms,RC h w ms (ms.headD 0) x)) (Classical.propDecidable _)
def twoB(h w:Int)(ms:List Int)(c:Int):Bool:=decide (((besL h w c).filter fun y=>decide (y∈ms)).length=2)
noncomputable def hoB (k:RK) (h w:Int) (cs:List Int) (n m:Int) (xs:List Int):Bool:=match k with
 | .Unlike=>decide (cntD (sgAt xs cs)=(sgAt xs cs).length)
 | .Sum=>decide ((sgAt xs cs).sum=n)
 | .Rising=>risB (sgAt xs cs)
 | .Seen=>decide ((seenN (sgAt xs cs)).2=n)
 | .Count=>decide (((mkAt xs cs m).length:Int)=n)
 | .NoSquare=>!((squL h w).any fun sq=>sq.all fun c=>decide (c∈mkAt xs cs m))
 | .Joined=>joinB h w (mkAt xs cs m)
 | .Ring=>joinB h w (mkAt xs cs m)&&(mkAt xs cs m).all (twoB h w (mkAt xs cs m))
 | _=>true
def cN(K:Frag)(c:RCl RK)(k:RK):Sp:=fun vs H Q _=>∃(r p f:Addr) (ws:List (List Nat)) (cs xs:List Int) (n m h w g:Int),vs=[.ref r,.ref f]/\IsRule H c k r p ws cs n m/\IsFl H p h w g/\FlOk h w g/\H f=some (.lst (xs.map V.int))/\aN cs xs.length/\(∀ x∈xs,0<=x/\x<=1000)/\
 ∀ H',Same H H'->Q (.bl (hoB k h w cs n m xs)) H'
def jg(K:Frag)(c:RCl RK)(k:RK):Sp:=fun vs H Q _=>∃(r p C:Addr) (ws:List (List Nat)) (cs ms:List Int) (n m h w g:Int),vs=[.ref r,.ref C]/\IsRule H c k r p ws cs n m/\IsFl H p h w g/\FlOk h w g/\H C=some (.lst (ms.map V.int))/\ms.length<=63/\
 ∀ H',Same H H'->Q (.bl (joinB h w ms)) H'
def gq(K:Frag)(c:RCl RK)(k:RK):Sp:=fun vs H Q _=>∃(r p C:Addr) (ws:List (List Nat)) (cs ms:List Int) (n m h w g z:Int),vs=[.ref r,.ref C,.int z]/\IsRule H c k r p ws cs n m/\IsFl H p h w g/\FlOk h w g/\H C=some (.lst (ms.map V.int))/\ms.length<=63/\
 ∀ H',Same H H'->Q (.bl (twoB h w ms z)) H'
def aT(K:Frag)(c:RCl RK):Sp:=fun vs H Q _=>∃(k:RK) (x dx p W C:Addr) (ws:List (List Nat)) (cs:List Int) (n m:Int),vs=[.ref x,.ref p,.ref W,.ref C,.int n,.int m]/\c.ok k=true/\H x=some (.ins (c.A k) dx [])/\W≠x/\C≠x/\
 H W=some (.lst ((ws.map tx).map V.str))/\H C=some (.lst (cs.map V.int))/\∀ H',(∀ b o,b≠x->H b=some o->H' b=some o)->IsRule H' c k x p ws cs n m->Q .non H'
def ii(K:Frag)(c:RCl RK):TS:=
 (tSeq (sFldK c (tVar 0) (tVar 1) "floor")
  (tSeq (sFldK c (tVar 0) (tCB (mt K) (tCons (tVar 2) tNil)) "words")
  (tSeq (sFldK c (tVar 0) (tCB (mt K) (tCons (tVar 3) tNil)) "cells")
  (tSeq (sFldK c (tVar 0) (tVar 4) "amount")
  (sFldK c (tVar 0) (tVar 5) "mark")))))
variable{vs:List V}{E:XK}
theorem uB(h:aT K c vs H Q E):ii K c (eD9 Q) (start ["self","floor","words","cells","amount","mark"] vs) H:=by
 obtain⟨k,x,dx,p,W,C,ws,cs,n,m,rfl,ok,hx,nW,nC,hW,hC,q⟩:=h;show ii K c _ [some (.ref x),some (.ref p),some (.ref W),some (.ref C),some (.int n),some (.int m)] H;unfold ii;symm;refine sfldV (k:=k) (j:=1) rfl rfl ok hx (by decide) ?_;symm;refine sfldT (k:=k) (j:=2) (p:=W) rfl (by rw[aq nW];exact hW) rfl ok ak (by show(1:Nat)<1000;decide) fun l1 h1=>?_;have n1:l1≠x:=fun e=>by rw[e,ak] at h1;cases h1
 have g1:H l1=none:=by rw[aq n1] at h1;exact h1
 symm;refine sfldT (k:=k) (j:=3) (p:=C) rfl (by rw[aq nC,aq (aC hC g1),aq nC];exact hC) rfl ok ak (by show(2:Nat)<1000;decide) fun l2 h2=>?_;have n2:l2≠x:=fun e=>by rw[e,ak] at h2;cases h2
 have n21:l2≠l1:=fun e=>by rw[e,aq n1,ak] at h2;cases h2
 have g2:H l2=none:=by rw[aq n2,aq n21,aq n2] at h2;exact h2
 symm;refine sfldV (k:=k) (j:=4) rfl rfl ok ak (by show(3:Nat)<1000;decide) ?_;symm;refine sfldV (k:=k) (j:=5) rfl rfl ok ak (by show(4:Nat)<1000;decide) ?_;refine q _ (fun b o hb e=>?_) ⟨ok,dx,l1,l2,by rw[ak];rfl,?_,?_⟩
 . rw[aq hb,aq hb,aq hb,aq (aC e g2),aq hb,aq (aC e g1),aq hb];exact e
 . rw[aq n1,aq n1,aq n1,aq n21.symm,aq n1,ak]
 . rw[aq n2,aq n2,aq n2,ak]
def rm(K:Frag)(c:RCl RK):Sp:=fun vs H Q E=>∃ k,xh K c k vs H Q E
def mD(K:Frag)(c:RCl RK):TS:=
 (tRet (tOp cIx (tFldK c (tVar 0) "words") (tC (.int 0))))
theorem Aj(h:rm K c vs H Q E):mD K c (eD9 Q) (start ["self"] vs) H:=by
 obtain⟨k,r,p,w,ws,cs,n,m,rfl,x,q⟩:=h;obtain⟨dx,W,C,h1,h2,h3⟩:=x.ex;show mD K c _ [some (.ref r)] H;unfold mD;symm;refine fldE rfl x.ok h1 (v:=.ref W) (by rfl) ?_;symm;have e0:atI (((w::ws).map tx).map V.str) 0=some (V.str (tx w)):=dJ (j:=0) rfl;exact ixT h2 e0 q
def qy(K:Frag)(c:RCl RK):Sp:=fun vs H Q E=>∃ k,d0 K c k vs H Q E
def li(K:Frag)(c:RCl RK):TS:=
 (tRet (tCB kList (tCons (tFldK c (tVar 0) "cells") tNil)))
theorem yU(h:qy K c vs H Q E):li K c (eD9 Q) (start ["self"] vs) H:=by
 obtain⟨k,r,p,ws,cs,n,m,rfl,x,q⟩:=h;obtain⟨dx,W,C,h1,h2,h3⟩:=x.ex;show li K c _ [some (.ref r)] H;unfold li;symm;refine fldE rfl x.ok h1 (v:=.ref C) (by rfl) ?_;symm;exact GH h3 q
def oX(K:Frag)(c:RCl RK):Sp:=fun vs H Q E=>∃ k,iP K c k vs H Q E
def kb(K:Frag)(c:RCl RK):TS:=
 (tRet (tFldK c (tVar 0) "amount"))
theorem xi(h:oX K c vs H Q E):kb K c (eD9 Q) (start ["self"] vs) H:=by
 obtain⟨k,r,p,ws,cs,n,m,rfl,x,q⟩:=h;obtain⟨dx,W,C,h1,h2,h3⟩:=x.ex;show kb K c _ [some (.ref r)] H;unfold kb;symm;exact fldE rfl x.ok h1 (v:=.int n) (by rfl) q
def rp(K:Frag)(c:RCl RK):Sp:=fun vs H Q E=>∃ k,iQ K c k vs H Q E
def mE(K:Frag)(c:RCl RK):TS:=
 (tRet (tFldK c (tVar 0) "mark"))
theorem Ak(h:rp K c vs H Q E):mE K c (eD9 Q) (start ["self"] vs) H:=by
 obtain⟨k,r,p,ws,cs,n,m,rfl,x,q⟩:=h;obtain⟨dx,W,C,h1,h2,h3⟩:=x.ex;show mE K c _ [some (.ref r)] H;unfold mE;symm;exact fldE rfl x.ok h1 (v:=.int m) (by rfl) q
def mF(K:Frag)(c:RCl RK):Sp:=fun vs H Q E=>∃ k,eV K c k vs H Q E
def ij(K:Frag)(c:RCl RK):TS:=
 (tRet (tComp [none,none,some 1] (iTup K (tFldK c (tVar 0) "cells")) (gName 1) tTrue (tOp cIx (tVar 2) (tVar 1))))
theorem uC(h:mF K c vs H Q E):ij K c (eD9 Q) (start ["self","filling"] vs) H:=by
 obtain⟨k,r,p,f,ws,cs,xs,n,m,rfl,x,hf,⟨hn,hc⟩,q⟩:=h;obtain⟨dx,W,C,h1,h2,h3⟩:=x.ex;show ij K c _ [some (.ref r),some (.ref f)] H;unfold ij;rw[cR,xc];refine fldE rfl x.ok h1 (v:=.ref C) (by rfl) ?_;refine⟨C,rfl,⟨_,Qa h3⟩,?_⟩;refine yq (xs:=cs) (fun _=>true) (fun c=>xs.getD c.toNat 0) (by omega) h3 ?_ ?_ ?_
 . intro x H1 R hx s1 k1;exact k1 _ (Mw _)
 . intro z H1 Q1 hz hb s1 k1;show tOp cIx _ _ [none,some (.int z),some (.ref f)] H1 Q1;symm;have:=hc z hz;exact ixI (s1 _ _ hf) this.1 (by omega) (k1 _ (Mw _))
 . intro l H1 hl s1 el;rw[aZ] at el;exact q l H1 s1 hl el
def mG(K:Frag):Sp:=fun vs H Q _=>∃ n:Nat,vs=[.str (tx (numC n))]/\n<100/\∀ H',Same H H'->Q (.int n) H'
def mH(K:Frag):TS:=
 (tSeq (tIfS (tOr (tTest (tOp (cEq K) (tVar 0) (tC (.str (tx []))))) (tOr (tTest (tOp (cCmp fun i j=>decide (j<i)) (tCB kLen (tCons (tVar 0) tNil)) (tC (.int 9)))) (tAnd (tTest (tOp (cEq K) (tOp cIx (tVar 0) (tC (.int 0))) (tC (.str (tx [48]))))) (tTest (tOp (cNe K) (tVar 0) (tC (.str (tx [48])))))))) (tRet (tC .non)) tNext)
  (tSeq (tIfS (tNot (tB (tCB kAll (tCons (tComp [none,none] (iStr (tVar 0)) (gName 1) tTrue (tOp (cIn K false) (tVar 1) (tC (.str (tx [48,49,50,51,52,53,54,55,56,57]))))) tNil)))) (tRet (tC .non)) tNext)
  (tRet (tCB np (tCons (tVar 0) tNil)))))
theorem HS{c:Nat}(h0:48<=c)(h1:c<=57):(!(Builtin.Str.occurrences (tx [48,49,50,51,52,53,54,55,56,57]) ⟨#[c]⟩ 0 (tx [48,49,50,51,52,53,54,55,56,57]).length 1).isEmpty)=true:=by
 have t:((List.range 58).all fun c=>!decide (48<=c)||!(Builtin.Str.occurrences (tx [48,49,50,51,52,53,54,55,56,57]) ⟨#[c]⟩ 0 (tx [48,49,50,51,52,53,54,55,56,57]).length 1).isEmpty)=true:=by decide+kernel
 have:=MC.mp t c (MF.mpr (by omega))
 simpa [h0] using this
theorem Al(h:mG K vs H Q E):mH K (eD9 Q) (start ["word"] vs) H:=by
 obtain⟨n,rfl,hn,q⟩:=h;have hne:=HR hn;have hl:=dP (n:=n);show mH K _ [some (.str (tx (numC n)))] H;unfold mH;rw[aE,aA];symm;rw[bn,Mu hne];refine iteF ⟨by rw[bN];exact aR (by omega),?_⟩;symm;rw[bN,Mu (show ¬ (9:Int) < ((numC n).length:Nat) by omega)];refine iteF ?_;rw[IX,bN,vw]
 obtain⟨c,r,ec⟩:∃ c r,numC n=c::r:=by
  cases e:numC n with
  | nil=>exact absurd e hne
  | cons c r=>exact⟨c,r,rfl⟩
 refine⟨aR (by omega),ba (a:=c) (by rw[ec];exact dJ (j:=0) rfl) ?_⟩;symm
 have e1:decide ((⟨#[c]⟩:Str)=tx [48])=decide (c=48):=by
  have:(⟨#[c]⟩:Str)=tx [c]:=rfl;rw[this,bn];simp
 rw[e1,bn]
 have e2:(decide (c=48)=true->decide (numC n=[48])=true):=by
  intro h;rw[Mx] at h;have:=(FG hn).1 (by rw[ec,h];rfl);subst this;decide
 have goal2:tSeq (tIfS (tNot (tB (tCB kAll (tCons (tComp [none,none] (iStr (tVar 0)) (gName 1) tTrue (tOp (cIn K false) (tVar 1) (tC (.str (tx [48,49,50,51,52,53,54,55,56,57]))))) tNil)))) (tRet (tC .non)) tNext) (tRet (tCB np (tCons (tVar 0) tNil)))
   (eD9 Q) [some (.str (tx (numC n)))] H:=by
  rw[aE,aA];symm;refine EA (cs:=numC n) (fun _=>true) (fun _=>.bl true) (by omega) ?_ ?_ ?_
  . intro i c H1 R hc s1 k1;exact k1 _ (Mw _)
  . intro i c H1 Q1 hc hb s1 k1;have hd:=Co hn c (Mz hc);show tOp (cIn K false) _ _ [none,some (.str (tx [c]))] H1 Q1;symm;have q1:=k1 _ (Mw H1);show Q1 (.bl (if false=true then _ else !(Builtin.Str.occurrences (tx [48,49,50,51,52,53,54,55,56,57]) (tx [c]) 0 (tx [48,49,50,51,52,53,54,55,56,57]).length 1).isEmpty)) H1;rw[MP ME,show tx [c]=⟨#[c]⟩ from rfl,HS hd.1 hd.2];exact q1
  . intro l H1 hl1 s1 el
    have eb:((List.range (numC n).length).filter fun _=>true).map (fun _=>V.bl true)=(List.replicate (numC n).length true).map V.bl:=by
     rw[aZ,List.map_const',Nv,Pp]
    rw[eb] at el;refine lS el ?_
    have ea:(List.replicate (numC n).length true).all id=true:=by
     rw[MC];intro b hb;exact(OJ.mp hb).2
    rw[ea];symm;exact⟨n,hn,rfl,q _ s1⟩
 cases hc:decide (c=48) with
 | false=>
  refine iteF ?_;exact goal2
 | true=>
  refine iteT ?_;rw[e2 hc];exact goal2
def d2(K:Frag):Sp:=fun vs H Q _=>∃(n:Nat) (lo hi:Int),vs=[.str (tx (numC n)),.int lo,.int hi]/\n<100/\lo<=n/\n<=hi/\∀ H',Same H H'->Q (.int n) H'
def ik(K:Frag):TS:=
 (tSeq (tAsg (tCall (mG K) [] E0 (tCons (tVar 0) tNil)) (gName 3))
  (tSeq (tIfS (tOr (tTest (tOp rIsN (tVar 3) (tC .non))) (tOr (tTest (tOp (cCmp fun i j=>decide (i<j)) (tVar 3) (tVar 1))) (tTest (tOp (cCmp fun i j=>decide (j<i)) (tVar 3) (tVar 2))))) cw tNext)
  (tRet (tVar 3))))
theorem uD(h:d2 K vs H Q E):ik K (eD9 Q) (start ["word","least","most","number"] vs) H:=by
 obtain⟨n,lo,hi,rfl,hn,h0,h1,q⟩:=h;show ik K _ [some (.str (tx (numC n))),some (.int lo),some (.int hi),none] H;unfold ik;symm;refine⟨n,rfl,hn,fun H1 s1=>?_⟩;symm;rw[aA];symm;rw[Mu (show ¬ V.int n=V.non from fun e=>nomatch e)];refine iteF ?_;rw[Mu (show ¬ (n:Int)<lo by omega)];refine iteF ?_;rw[Mu (show ¬ hi < (n:Int) by omega)];refine iteF ?_;symm;exact q _ s1
def WOk(ws:List (List Nat)):Prop:=∀ w∈ws,∀ c∈w,c<128
variable{w:List Nat}
theorem WOk.cons{ws:List (List Nat)}(h:∀ c∈w,c<128)(hs:WOk ws):WOk (w::ws):=fun v hv=>by
 rcases MS.mp hv with rfl | hv
 . exact h
 . exact hs v hv
variable{n:Nat}
theorem xj(h:n<100):∀ c∈numC n,c<128:=fun c hc=>by have:=Co h c hc;omega
theorem C9(h:∀ c∈w,c<128):PyData.strOk (tx w)=true:=by
 unfold PyData.strOk;simp[tx];intro c hc;have:=h c hc;omega
theorem WOk.strs{ws:List (List Nat)}(h:WOk ws):∀ x∈ws.map tx,PyData.strOk x=true:=fun x hx=>by
 obtain⟨w,hw,rfl⟩:=MJ.mp hx;exact C9 (h w hw)
def dn(K:Frag):Sp:=fun vs H Q _=>∃(p:Addr) (n:Nat) (ws:List (List Nat)) (lo hi:Int),vs=[.ref p,.int lo,.int hi]/\H p=some (.lst (((numC n::ws).map tx).map V.str))/\n<100/\WOk ws/\lo<=n/\n<=hi/\∀ H',Same H H'->Q (.int n) H'
def jh(K:Frag):TS:=
 (tSeq (tIfS (tTest (tOp (cEq K) (tVar 0) (tLst tNil))) cw tNext)
  (tRet (tCall (d2 K) [] E0 (tCons (tOp cIx (tVar 0) (tC (.int 0))) (tCons (tVar 1) (tCons (tVar 2) tNil))))))
theorem DVs.strs{K:Frag}{H:Hp}:∀ ns:List Str,DVs K H (ns.map V.str) (ns.map PyData.str)
 | []=>.nil
 | n::r=>.cons (.str n) (DVs.strs r)
theorem yr(a b:Str):PyData.eqv (.str a) (.str b)=decide (a=b):=by
 rw[PyData.eqv];by_cases h:a=b
 . subst h;simp
 . simp[h]
theorem kK(ns:List Str)(hs:∀ x∈ns,PyData.strOk x=true):SeqAt.shaped (.list (ns.map PyData.str))=true:=by
 have h1:PyData.canLayAll0 (ns.map PyData.str)=true:=w6 fun d hd=>by obtain⟨x,hx,rfl⟩:=MJ.mp hd;rw[PyData.canLay0];exact hs x hx
 have h2:PyData.depthAll (ns.map PyData.str)<=0:=rg fun d hd=>by obtain⟨x,_,rfl⟩:=MJ.mp hd;exact MW _
 simp[SeqAt.shaped,PyData.canLay0,h1,PyData.depth];omega
variable{xs:List Str}
theorem HU{q:Addr}{ys:List Str}(hp:H p=some (.lst (xs.map V.str)))(hq:H q=some (.lst (ys.map V.str)))(h1:∀ x∈xs,PyData.strOk x=true)(h2:∀ x∈ys,PyData.strOk x=true)(h:Q (.bl (decide (xs=ys))) H):cEq K (.ref p) (.ref q) H Q:=by
 show rEqD K (.ref p) (.ref q) H Q;refine⟨.list (xs.map PyData.str),.list (ys.map PyData.str),.lst (MO hp) (.strs xs),.lst (MO hq) (.strs ys),kK xs h1,kK ys h2,?_⟩;rw[PyData.eqv,w9 PyData.str yr];exact h
theorem HV{q:Addr}{ys:List Str}(hp:H p=some (.lst (xs.map V.str)))(hq:H q=some (.lst (ys.map V.str)))(h1:∀ x∈xs,PyData.strOk x=true)(h2:∀ x∈ys,PyData.strOk x=true)(h:Q (.bl (!decide (xs=ys))) H):cNe K (.ref p) (.ref q) H Q:=by
 show rNeD K (.ref p) (.ref q) H Q;refine⟨.list (xs.map PyData.str),.list (ys.map PyData.str),.lst (MO hp) (.strs xs),.lst (MO hq) (.strs ys),kK xs h1,kK ys h2,?_⟩;rw[PyData.eqv,w9 PyData.str yr];exact h
theorem vy(h:dn K vs H Q E):jh K (eD9 Q) (start ["words","least","most"] vs) H:=by
 obtain⟨p,n,ws,lo,hi,rfl,hp,hn,hw,h0,h1,q⟩:=h;show jh K _ [some (.ref p),some (.int lo),some (.int hi)] H;unfold jh;rw[aE,aA];symm;refine⟨aR (by decide),fun l hl=>?_⟩;have s1:Same H (upd H l (.lst [])):=(Mw H).laid hl;refine HU (s1 _ _ hp) (ys:=[]) ak (WOk.strs (WOk.cons (xj hn) hw)) (fun x hx=>nomatch hx) ?_;generalize upd H l (.lst [])=H1 at*;symm;rw[Mu (by simp)];refine iteF ?_;symm;have e0:atI (((numC n::ws).map tx).map V.str) 0=some (V.str (tx (numC n))):=dJ (j:=0) rfl;refine ixL (s1 _ _ hp) e0 ?_;symm;exact⟨n,lo,hi,rfl,hn,h0,h1,fun H2 s2=>q _ (s1.trans s2)⟩
theorem FH(acc:List Int)(v:Int):(step_dedup acc v).length<=acc.length+1:=by
 unfold step_dedup
 split <;> simp
theorem Am:∀(l acc:List Int),(l.foldl step_dedup acc).length<=acc.length+l.length
 | [],acc=>by simp
 | x::r,acc=>by
  have h1:=Am r (step_dedup acc x);have h2:=FH acc x;rw[NJ,M3];omega
theorem tY:∀(l acc:List Int),acc.Nodup->((l.foldl step_dedup acc).length=acc.length+l.length↔(acc++l).Nodup)
 | [],acc,h=>by simpa using h
 | x::r,acc,h=>by
  rw[NJ];by_cases hx:x∈acc
  . have e:step_dedup acc x=acc:=by
     unfold step_dedup;rw[MU (by simpa using hx)]
    rw[e];have:=Am r acc;constructor
    . intro z;rw[M3] at z;omega
    . intro z;have:=(Of.mp z).2.2 x hx x MD;exact absurd rfl this
  . have e:step_dedup acc x=acc++[x]:=by
     unfold step_dedup;rw[MP (by simpa using hx)]
    rw[e];have hn:(acc++[x]).Nodup:=Of.mpr ⟨h,by simp,fun a ha b hb z=>hx (by rw[MN.mp hb] at z;exact z ▸ ha)⟩;have ih:=tY r (acc++[x]) hn;rw[M6,P4] at ih;rw[M3,show acc.length+(r.length+1)=acc.length+1+r.length by omega,show acc++x::r=acc++[x]++r by simp];exact ih
theorem xk(ns:List Int):(List.range ns.length).map (fun i=>ns.getD i 0)=ns:=by
 have:=qx ns (fun x=>x)
 simpa using this
theorem uE(ns:List Int):cntD ns=ns.length↔ns.Nodup:=by
 unfold cntD firstMet;rw[xk];have:=tY ns [] OO
 simpa using this
def lj(K:Frag):Sp:=fun vs H Q _=>∃(a p:Addr) (h w g:Int) (ns:List Nat),vs=[.ref a,.ref p]/\IsFl H a h w g/\FlOk h w g/\H p=some (.lst (((ns.map numC).map tx).map V.str))/\ns≠[]/\ns.length<=16/\(∀ n∈ns,(n:Int)<h*w)/\ns.Nodup/\
 ∀ l H',Same H H'->H l=none->H' l=some (.lst ((ns.map fun(n:Nat)=>(n:Int)).map V.int))->Q (.ref l) H'
def lp(K:Frag):TS:=
 (tSeq (sComp 2 [none,none,some 0] (iList K (tVar 1)) (gName 1) tTrue (tCall (d2 K) [] E0 (tCons (tVar 1) (tCons (tC (.int 0)) (tCons (tOp cSub (tCall (bP K) [] E0 (tCons (tVar 2) tNil)) (tC (.int 1))) tNil)))))
  (tSeq (tIfS (tTest (tOp (cEq K) (tVar 2) (tLst tNil))) cw tNext)
  (tSeq (tIfS (tTest (tOp (cNe K) (sX (tVar 2)) (tCB kLen (tCons (tVar 2) tNil)))) cw tNext)
  (tRet (tVar 2)))))
variable{ns:List Nat}
theorem vz(h:ns.Nodup):(ns.map fun(n:Nat)=>(n:Int)).Nodup:=by
 induction ns with
 | nil=>exact OO
 | cons a r ih=>
  rw[Nm] at h;rw[M4,Nm];refine⟨fun z=>?_,ih h.2⟩;obtain⟨b,hb,e⟩:=MJ.mp z
  exact h.1 (by have:b=a:=by omega
                exact this ▸ hb)
theorem yV(h:lj K vs H Q E):lp K (eD9 Q) (start ["floor","words","cells"] vs) H:=by
 obtain⟨a,p,h,w,g,ns,rfl,ha,F,hp,hne,hn16,hlt,hnd,q⟩:=h;obtain⟨h0,h1,w0,w1,m16,g0,g1⟩:=F;show lp K _ [some (.ref a),some (.ref p),none] H;unfold lp;symm;refine⟨⟨_,MO hp⟩,?_⟩;refine bT (xs:=((ns.map numC).map tx).map V.str) (fun _=>true) (fun i=>.int (ns.getD i 0:Nat)) (by simp;omega) (MO hp) ?_ ?_ ?_
 . intro i x H1 R hx s1 k1;exact k1 _ (Mw _)
 . intro i x H1 Q1 hx hb s1 k1;rw[MA,MA,MA] at hx
   cases e:ns[i]? with
   | none=>rw[e] at hx;cases hx
   | some n=>
    rw[e] at hx;cases hx;have hm:=hlt n (Mz e);show tCall _ _ _ _ [none,some (.str (tx (numC n))),some (.ref a)] H1 Q1;symm;refine⟨a,h,w,g,rfl,s1 _ _ ha,h0,h1,?_⟩;symm;refine⟨n,0,_,rfl,by omega,by omega,by omega,fun H2 s2=>?_⟩;have q1:=k1 _ s2;have eg:ns.getD i 0=n:=by rw[List.getD,e];rfl
    rw[eg] at q1;exact q1
 . intro l H1 hl s1 el
   have ec:((List.range (((ns.map numC).map tx).map V.str).length).filter fun _=>true).map (fun i=>V.int (ns.getD i 0:Nat))=(ns.map fun(n:Nat)=>(n:Int)).map V.int:=by
    rw[aZ,Mr,Mr,Mr,Na];refine N1 fun i=>?_;rw[MA,MA];by_cases h:i<ns.length
    . rw[Ny h,Mt h];simp[List.getD,h]
    . rw[M7 (by simpa using h),M7 (by omega)];rfl
   rw[ec] at el;symm;rw[aA];symm;refine⟨aR (by decide),fun z hz=>?_⟩;have s2:Same H1 (upd H1 z (.lst [])):=(Mw H1).laid hz;refine vm (s2 _ _ el) (ys:=[]) ak ?_;generalize upd H1 z (.lst [])=H2 at*;symm;rw[Mu (by simpa using hne)];refine iteF ?_;symm;rw[aA];symm;refine⟨l,_,rfl,s2 _ _ el,by rw[Mr];omega,?_⟩;rw[bc (s2 _ _ el),Mr];symm;rw[Mv (by rw[(uE _).mpr (vz hnd)])];refine iteF ?_;symm;exact q l _ (s1.trans s2) hl (s2 _ _ el)
def allK:RK->Bool
 | .Joined=>true
 | .NoSquare=>true
 | .Ring=>true
 | _=>false
def numK:RK->Bool
 | .Sum=>true
 | .Seen=>true
 | .Count=>true
 | _=>false
def sgnK:RK->Bool
 | .Count=>true
 | .Joined=>true
 | .NoSquare=>true
 | .Ring=>true
 | _=>false
theorem HW(k:RK):decide (tx (nmC k)∈fH)=allK k:=by cases k <;> decide+kernel
theorem HX(k:RK):decide (tx (nmC k)∈gk)=numK k:=by cases k <;> decide+kernel
theorem HY(k:RK):decide (tx (nmC k)∈fY)=sgnK k:=by cases k <;> decide+kernel
structure xn(k:RK)(h w:Int)(ns:List Nat)(cs:List Int):Prop where
 told:allK k=false->ns≠[]/\ns.length<=16/\(∀ n∈ns,(n:Int)<h*w)/\ns.Nodup/\cs=ns.map fun(n:Nat)=>(n:Int)
 all:allK k=true->ns=[]/\cs=rngL 0 (h*w)
def oi(K:Frag):Sp:=fun vs H Q _=>∃(k:RK) (a p:Addr) (h w g:Int) (ns:List Nat) (cs:List Int),vs=[.ref a,.str (tx (nmC k)),.ref p]/\IsFl H a h w g/\FlOk h w g/\H p=some (.lst (((ns.map numC).map tx).map V.str))/\xn k h w ns cs/\(∀ n∈ns,n<100)/\
 ∀ l H',Same H H'->H l=none->H' l=some (.lst (cs.map V.int))->Q (.ref l) H'
def oj(K:Frag):TS:=
 (tSeq (tIfS (tB (tInG fH true (tVar 1))) (tRet (tCall (lj K) [] E0 (tCons (tVar 0) (tCons (tVar 2) tNil)))) tNext)
  (tSeq (tIfS (tTest (tOp (cNe K) (tVar 2) (tLst tNil))) cw tNext)
  (tRet (kT (tCons (tCall (bP K) [] E0 (tCons (tVar 0) tNil)) tNil)))))
theorem BH(h:oi K vs H Q E):oj K (eD9 Q) (start ["floor","name","words"] vs) H:=by
 obtain⟨k,a,p,h,w,g,ns,cs,rfl,ha,F,hp,hc,hn,q⟩:=h;obtain⟨h0,h1,w0,w1,m16,g0,g1⟩:=id F;have mpos:0<=h*w:=OA (by omega) (by omega);show oj K _ [some (.ref a),some (.str (tx (nmC k))),some (.ref p)] H;unfold oj;rw[aE,aA];symm;rw[HW]
 cases hk:allK k with
 | false=>
  obtain⟨c1,c2,c3,c4,rfl⟩:=hc.told hk;symm;exact⟨a,p,h,w,g,ns,rfl,ha,F,hp,c1,c2,c3,c4,q⟩
 | true=>
  obtain⟨rfl,rfl⟩:=hc.all hk;symm;rw[aA];symm;refine⟨aR (by decide),fun z hz=>?_⟩;have s1:Same H (upd H z (.lst [])):=(Mw H).laid hz;refine HV (xs:=[]) (ys:=[]) (s1 _ _ hp) ak (fun x hx=>nomatch hx) (fun x hx=>nomatch hx) ?_;generalize upd H z (.lst [])=H1 at*;symm;refine⟨a,h,w,g,rfl,s1 _ _ ha,h0,h1,?_⟩;symm;refine⟨h*w,rfl,by omega,by omega,fun l hl=>?_⟩;exact q l _ (s1.laid hl) (s1.free hl) ak
def qe(K:Frag)(c:RCl RK):Sp:=fun vs H Q _=>∃(k:RK) (p W C:Addr) (ws:List (List Nat)) (cs:List Int) (n m:Int),vs=[.ref p,.ref W,.ref C,.int n,.int m]/\k≠.Rule/\c.ok k=true/\H W=some (.lst (((nmC k::ws).map tx).map V.str))/\H C=some (.lst (cs.map V.int))/\
 ∀ r H',Same H H'->H r=none->IsRule H' c k r p (nmC k::ws) cs n m->Q (.ref r) H'
def qf(K:Frag)(c:RCl RK):TS:=
 (tSeq (tAsg (tOp cIx (tVar 1) (tC (.int 0))) (gName 5))
  (tSeq (tIfS (tTest (tOp (cEq K) (tVar 5) (tC (.str (tx [117,110,108,105,107,101]))))) (tRet (tMake (c.A .Unlike) (aT K c) [] E0 (tCons (tVar 0) (tCons (tVar 1) (tCons (tVar 2) (tCons (tVar 3) (tCons (tVar 4) tNil))))))) tNext)
  (tSeq (tIfS (tTest (tOp (cEq K) (tVar 5) (tC (.str (tx [115,117,109]))))) (tRet (tMake (c.A .Sum) (aT K c) [] E0 (tCons (tVar 0) (tCons (tVar 1) (tCons (tVar 2) (tCons (tVar 3) (tCons (tVar 4) tNil))))))) tNext)
  (tSeq (tIfS (tTest (tOp (cEq K) (tVar 5) (tC (.str (tx [114,105,115,105,110,103]))))) (tRet (tMake (c.A .Rising) (aT K c) [] E0 (tCons (tVar 0) (tCons (tVar 1) (tCons (tVar 2) (tCons (tVar 3) (tCons (tVar 4) tNil))))))) tNext)
  (tSeq (tIfS (tTest (tOp (cEq K) (tVar 5) (tC (.str (tx [115,101,101,110]))))) (tRet (tMake (c.A .Seen) (aT K c) [] E0 (tCons (tVar 0) (tCons (tVar 1) (tCons (tVar 2) (tCons (tVar 3) (tCons (tVar 4) tNil))))))) tNext)
  (tSeq (tIfS (tTest (tOp (cEq K) (tVar 5) (tC (.str (tx [99,111,117,110,116]))))) (tRet (tMake (c.A .Count) (aT K c) [] E0 (tCons (tVar 0) (tCons (tVar 1) (tCons (tVar 2) (tCons (tVar 3) (tCons (tVar 4) tNil))))))) tNext)
  (tSeq (tIfS (tTest (tOp (cEq K) (tVar 5) (tC (.str (tx [106,111,105,110,101,100]))))) (tRet (tMake (c.A .Joined) (aT K c) [] E0 (tCons (tVar 0) (tCons (tVar 1) (tCons (tVar 2) (tCons (tVar 3) (tCons (tVar 4) tNil))))))) tNext)
  (tSeq (tIfS (tTest (tOp (cEq K) (tVar 5) (tC (.str (tx [110,111,115,113,117,97,114,101]))))) (tRet (tMake (c.A .NoSquare) (aT K c) [] E0 (tCons (tVar 0) (tCons (tVar 1) (tCons (tVar 2) (tCons (tVar 3) (tCons (tVar 4) tNil))))))) tNext)
  (tSeq (tIfS (tTest (tOp (cEq K) (tVar 5) (tC (.str (tx [114,105,110,103]))))) (tRet (tMake (c.A .Ring) (aT K c) [] E0 (tCons (tVar 0) (tCons (tVar 1) (tCons (tVar 2) (tCons (tVar 3) (tCons (tVar 4) tNil))))))) tNext)
  cw)))))))))
theorem GI{k:RK}{W C:Addr}{ws:List (List Nat)}{n m:Int}(ok:c.ok k=true)(hW:H W=some (.lst ((ws.map tx).map V.str)))(hC:H C=some (.lst (cs.map V.int)))(q:∀ r H',Same H H'->H r=none->IsRule H' c k r p ws cs n m->Q (.ref r) H'):
  ∀ x dx,H x=none->H dx=none->dx≠x->aT K c (.ref x::([.ref p,.ref W,.ref C,.int n,.int m]++[])) (upd (upd H dx (.own x)) x (.ins (c.A k) dx [])) (fun v H2=>v=.non/\Q (.ref x) H2) E0:=by
 intro x dx hx hd ne;refine⟨k,x,dx,p,W,C,ws,cs,n,m,rfl,ok,ak,aC hW hx,aC hC hx,?_,?_,fun H' hs hr=>⟨rfl,q x H' (fun b o e=>hs b o (aC e hx) ?_) hx hr⟩⟩
 . rw[aq (aC hW hx),aq (aC hW hd)];exact hW
 . rw[aq (aC hC hx),aq (aC hC hd)];exact hC
 . rw[aq (aC e hx),aq (aC e hd)];exact e
theorem Da(h:qe K c vs H Q E):qf K c (eD9 Q) (start ["floor","words","cells","amount","mark","name"] vs) H:=by
 obtain⟨k,p,W,C,ws,cs,n,m,rfl,hk,ok,hW,hC,q⟩:=h;have mk:=GI (K:=K) ok hW hC q;have e0:atI (((nmC k::ws).map tx).map V.str) 0=some (V.str (tx (nmC k))):=dJ (j:=0) rfl;show qf K c _ [some (.ref p),some (.ref W),some (.ref C),some (.int n),some (.int m),none] H;unfold qf;symm;refine ixL hW e0 ?_
 have D:∀(l:List Nat) (t:TS) (u:TS) (D:Ends) (b:Bool),decide (nmC k=l)=b->(if b=true then t D [some (.ref p),some (.ref W),some (.ref C),some (.int n),some (.int m),some (.str (tx (nmC k)))] H else u D [some (.ref p),some (.ref W),some (.ref C),some (.int n),some (.int m),some (.str (tx (nmC k)))] H)->
   tIfS (tTest (tOp (cEq K) (tVar 5) (tC (.str (tx l))))) t u D [some (.ref p),some (.ref W),some (.ref C),some (.int n),some (.int m),some (.str (tx (nmC k)))] H:=fun l t u D b hb hq=>by
  rw[aA];symm;rw[bn,hb];exact hq
 have R:∀(D:Ends),D.rt=Q->tRet (tMake (c.A k) (aT K c) [] E0 (tCons (tVar 0) (tCons (tVar 1) (tCons (tVar 2) (tCons (tVar 3) (tCons (tVar 4) tNil)))))) D [some (.ref p),some (.ref W),some (.ref C),some (.int n),some (.int m),some (.str (tx (nmC k)))] H:=fun D hD=>by
  symm;rw[hD];exact mk
 cases k with
 | Rule=>exact absurd rfl hk
 | Unlike=>exact D _ _ _ _ true (by decide) (iteT (R _ rfl))
 | Sum=>exact D _ _ _ _ false (by decide) (iteF (D _ _ _ _ true (by decide) (iteT (R _ rfl))))
 | Rising=>exact D _ _ _ _ false (by decide) (iteF (D _ _ _ _ false (by decide) (iteF (D _ _ _ _ true (by decide) (iteT (R _ rfl))))))
 | Seen=>exact D _ _ _ _ false (by decide) (iteF (D _ _ _ _ false (by decide) (iteF (D _ _ _ _ false (by decide) (iteF (D _ _ _ _ true (by decide) (iteT (R _ rfl))))))))
 | Count=>exact D _ _ _ _ false (by decide) (iteF (D _ _ _ _ false (by decide) (iteF (D _ _ _ _ false (by decide) (iteF (D _ _ _ _ false (by decide) (iteF (D _ _ _ _ true (by decide) (iteT (R _ rfl))))))))))
 | Joined=>exact D _ _ _ _ false (by decide) (iteF (D _ _ _ _ false (by decide) (iteF (D _ _ _ _ false (by decide) (iteF (D _ _ _ _ false (by decide) (iteF (D _ _ _ _ false (by decide) (iteF (D _ _ _ _ true (by decide) (iteT (R _ rfl))))))))))))
 | NoSquare=>exact D _ _ _ _ false (by decide) (iteF (D _ _ _ _ false (by decide) (iteF (D _ _ _ _ false (by decide) (iteF (D _ _ _ _ false (by decide) (iteF (D _ _ _ _ false (by decide) (iteF (D _ _ _ _ false (by decide) (iteF (D _ _ _ _ true (by decide) (iteT (R _ rfl))))))))))))))
 | Ring=>exact D _ _ _ _ false (by decide) (iteF (D _ _ _ _ false (by decide) (iteF (D _ _ _ _ false (by decide) (iteF (D _ _ _ _ false (by decide) (iteF (D _ _ _ _ false (by decide) (iteF (D _ _ _ _ false (by decide) (iteF (D _ _ _ _ false (by decide) (iteF (D _ _ _ _ true (by decide) (iteT (R _ rfl))))))))))))))))
def rowW(k:RK)(n m:Nat)(ns:List Nat):List (List Nat):=nmC k::((if numK k then [numC n] else [])++(if sgnK k then [numC m] else [])++ns.map numC)
structure An(k:RK)(h w g:Int)(n m:Nat)(ns:List Nat)(cs:List Int):Prop where
 k0:k≠.Rule
 n0:n<=99
 nz:numK k=false->n=0
 m0:sgnK k=true->1<=(m:Int)/\(m:Int)<=g
 mz:sgnK k=false->m=0
 cl:xn k h w ns cs
 ns0:∀ x∈ns,x<100
 len:ns.length<=16
def ji(K:Frag)(c:RCl RK):Sp:=fun vs H Q _=>∃(k:RK) (p:Addr) (h w g:Int) (n m:Nat) (ns:List Nat) (cs:List Int),vs=[.ref p,.str (tx (catL 32 (rowW k n m ns)))]/\IsFl H p h w g/\FlOk h w g/\An k h w g n m ns cs/\c.ok k=true/\
 ∀ r H',Same H H'->H r=none->IsRule H' c k r p (rowW k n m ns) cs n m->Q (.ref r) H'
def fI(K:Frag)(c:RCl RK):TS:=
 (tRet (tCall (qe K c) [] E0 (tCons (tVar 0) (tCons (tVar 2) (tCons (tCall (oi K) [] E0 (tCons (tVar 0) (tCons (tVar 3) (tCons (tVar 4) tNil)))) (tCons (tVar 5) (tCons (tVar 6) tNil)))))))
def jj(K:Frag)(c:RCl RK):TS:=
 (tSeq (tAsg (tOp cIx (tVar 2) (tC (.int 0))) (gName 3))
  (tSeq (tAsg (tSl p7 (tVar 2) (tPart (tC (.int 1))) l9) (gName 4))
  (tSeq (tAsg (tC (.int 0)) (gName 5))
  (tSeq (tAsg (tC (.int 0)) (gName 6))
  (tSeq (tIfS (tB (tInG gk false (tVar 3))) (tSeq (tAsg (tCall (dn K) [] E0 (tCons (tVar 4) (tCons (tC (.int 0)) (tCons (tC (.int 99)) tNil)))) (gName 5))
  (tAsg (tSl p7 (tVar 4) (tPart (tC (.int 1))) l9) (gName 4))) tNext)
  (tSeq (tIfS (tB (tInG fY false (tVar 3))) (tSeq (tAsg (tCall (dn K) [] E0 (tCons (tVar 4) (tCons (tC (.int 1)) (tCons (tOp cIx (tVar 0) (tC (.int 2))) tNil)))) (gName 6))
  (tAsg (tSl p7 (tVar 4) (tPart (tC (.int 1))) l9) (gName 4))) tNext)
  (fI K c)))))))
def mI(K:Frag)(c:RCl RK):TS:=
 (tSeq (tIfS (tNot (tB (tCB kIsi (tCons (tVar 1) (tCons (tC (.ty "str")) tNil))))) cw tNext)
  (tSeq (tAsg (tBM K "str" vn (tVar 1) (tCons (tC (.str (tx [32]))) tNil)) (gName 2))
  (jj K c)))
theorem GJ(k:RK):32∉nmC k:=by cases k <;> decide
variable{m:Nat}
theorem EE{k:RK}(hn:n<100)(hm:m<100)(hs:∀ x∈ns,x<100):∀ r∈rowW k n m ns,32∉r:=by
 intro r hr;unfold rowW at hr;rcases MS.mp hr with rfl | hr
 . exact GJ k
 rcases M0.mp hr with hr | hr
 . rcases M0.mp hr with hr | hr
   . split at hr
     . rw[MN.mp hr];exact uA hn
     . cases hr
   . split at hr
     . rw[MN.mp hr];exact uA hm
     . cases hr
 . obtain⟨x,hx,rfl⟩:=MJ.mp hr;exact uA (hs x hx)
theorem FI(xs:List V):cutV xs (some 1) none=xs.drop 1:=by
 unfold cutV;have h1:HT.sIx xs.length 0 (some 1)=min 1 xs.length:=HT.sIx_nat ..;have h2:HT.sIx xs.length xs.length none=xs.length:=rfl;rw[h1,h2]
 cases xs with
 | nil=>rfl
 | cons x r=>
  have:min 1 (x::r).length=1:=by simp
  rw[this];show(r).take _=r;rw[NK (by simp)]
theorem nq {k:RK} {W R:Addr} {h w g:Int} {ws:List (List Nat)} {lv:V} (F:FlOk h w g) (ha:IsFl H p h w g) (hW:H W=some (.lst (((nmC k::ws).map tx).map V.str))) (hR:H R=some (.lst (((ns.map numC).map tx).map V.str))) (hc:xn k h w ns cs) (hn:∀ x∈ns,x<100) (k0:k≠.Rule) (ok:c.ok k=true)
  (q:∀ r H',Same H H'->H r=none->IsRule H' c k r p (nmC k::ws) cs n m->Q (.ref r) H'):
  fI K c (eD9 Q) [some (.ref p),some lv,some (.ref W),some (.str (tx (nmC k))),some (.ref R),some (.int n),some (.int m)] H:=by
 unfold fI;symm;refine⟨k,p,R,h,w,g,ns,cs,rfl,ha,F,hR,hc,hn,fun l H1 s1 hl el=>?_⟩;symm;exact⟨k,p,W,l,ws,cs,n,m,rfl,k0,ok,s1 _ _ hW,el,fun r H2 s2 hr x=>q r H2 (s1.trans s2) (s1.free hr) x⟩
theorem BK{k:RK}(h:ns.length<=16):(rowW k n m ns).length<=100/\∀ w∈rowW k n m ns,w.length<=100:=by
 unfold rowW;refine⟨?_,fun w hw=>?_⟩
 . simp only[M3,M6,Mr]
   split <;> split <;> simp <;> omega
 . rcases MS.mp hw with rfl | hw
   . cases k <;> decide
   have h2:∀ x,(numC x).length<=100:=fun x=>ML dP (by decide);rcases M0.mp hw with hw | hw
   . rcases M0.mp hw with hw | hw
     . split at hw
       . rw[MN.mp hw];exact h2 _
       . cases hw
     . split at hw
       . rw[MN.mp hw];exact h2 _
       . cases hw
   . obtain⟨x,hx,rfl⟩:=MJ.mp hw;exact h2 _
theorem vA:∀(Mf:List (List Nat)),(∀ r∈Mf,r.length<=100)->(catL 32 Mf).length<=101*Mf.length
 | [],_=>Nu _
 | [x],h=>by
  have:=h x MD;show x.length<=101*1;omega
 | x::y::r,h=>by
  have h1:=h x MD;have ih:=vA (y::r) fun z hz=>h z (MI _ hz);have e:catL 32 (x::y::r)=x++32::catL 32 (y::r):=by first | rfl | simp[catL]
  rw[e,M6,M3,M3];omega
theorem xo{x:Str}(hp:H p=some (.lst ((x::xs).map V.str)))(q:∀ l,H l=none->Q (.ref l) (upd H l (.lst (xs.map V.str)))):p7 (.ref p) (some 1) none H Q:=by
 refine CZ hp fun l hl=>?_;rw[FI];exact q l hl
theorem vC {k:RK} {W:Addr} {h w g:Int} {lv:V} (F:FlOk h w g) (ha:IsFl H p h w g) (hW:H W=some (.lst (((rowW k n m ns).map tx).map V.str))) (O:An k h w g n m ns cs) (ok:c.ok k=true)
  (q:∀ r H',Same H H'->H r=none->IsRule H' c k r p (rowW k n m ns) cs n m->Q (.ref r) H'):
  jj K c (eD9 Q) [some (.ref p),some lv,some (.ref W),none,none,none,none] H:=by
 obtain⟨k0,n0,nz,m0,mz,cl,ns0,len⟩:=O;obtain⟨h0,h1,w0,w1,m16,g0,g1⟩:=id F;have e0:atI (((rowW k n m ns).map tx).map V.str) 0=some (V.str (tx (nmC k))):=dJ (j:=0) rfl;have hns:WOk (ns.map numC):=fun v hv=>by obtain⟨x,hx,rfl⟩:=MJ.mp hv;exact xj (ns0 x hx)
 unfold jj;symm;refine ixL hW e0 ?_;symm;refine xo hW fun R hR=>?_;obtain⟨H1,z9,s1,eR⟩:=aY (.lst ((((if numK k then [numC n] else [])++(if sgnK k then [numC m] else [])++ns.map numC).map tx).map V.str)) hR;rw[z9];symm
 have two:∀{H2:Hp} {R2:Addr},Same H H2->H2 R2=some (.lst ((((if sgnK k then [numC m] else [])++ns.map numC).map tx).map V.str))->
   tSeq (tIfS (tB (tInG fY false (tVar 3))) (tSeq (tAsg (tCall (dn K) [] E0 (tCons (tVar 4) (tCons (tC (.int 1)) (tCons (tOp cIx (tVar 0) (tC (.int 2))) tNil)))) (gName 6)) (tAsg (tSl p7 (tVar 4) (tPart (tC (.int 1))) l9) (gName 4))) tNext) (fI K c) (eD9 Q)
    [some (.ref p),some lv,some (.ref W),some (.str (tx (nmC k))),some (.ref R2),some (.int n),some (.int 0)] H2:=by
  intro H2 R2 s2 eR2;rw[aE,aA];symm;rw[HY]
  cases hs:sgnK k with
  | false=>
   rw[hs] at eR2;have:=mz hs;subst this;symm;exact nq F (s2 _ _ ha) (s2 _ _ hW) eR2 cl ns0 k0 ok fun r H3 s3 hr x=>q r H3 (s2.trans s3) (s2.free hr) x
  | true=>
   rw[hs] at eR2;have hm:=m0 hs;symm;refine ixT (s2 _ _ ha) (v:=V.int g) rfl ?_;symm;refine⟨R2,m,ns.map numC,1,g,rfl,eR2,by omega,hns,hm.1,hm.2,fun H3 s3=>?_⟩;symm;refine xo (s3 _ _ eR2) fun R3 hR3=>?_;have s4:Same H3 (upd H3 R3 (.lst (((ns.map numC).map tx).map V.str))):=(Mw H3).laid hR3;have s24:=(s2.trans s3).trans s4;exact nq F (s24 _ _ ha) (s24 _ _ hW) ak cl ns0 k0 ok fun r H5 s5 hr x=>q r H5 (s24.trans s5) (s24.free hr) x
 rw[aA];symm;rw[HX]
 cases hn:numK k with
 | false=>
  rw[hn] at eR;have:=nz hn;subst this;symm;exact two s1 eR
 | true=>
  rw[hn] at eR;symm;refine⟨R,n,(if sgnK k then [numC m] else [])++ns.map numC,0,99,rfl,eR,by omega,?_,by omega,by omega,fun H3 s3=>?_⟩
  . intro v hv;rcases M0.mp hv with hv | hv
    . split at hv
      . rename_i hs
        have:=m0 hs;rw[MN.mp hv];exact xj (by omega)
      . cases hv
    . exact hns v hv
  symm;refine xo (s3 _ _ eR) fun R3 hR3=>?_;have s4:Same H3 (upd H3 R3 (.lst ((((if sgnK k then [numC m] else [])++ns.map numC).map tx).map V.str))):=(Mw H3).laid hR3;symm;exact two ((s1.trans s3).trans s4) ak
theorem Ao(h:ji K c vs H Q E):mI K c (eD9 Q) (start ["floor","line","words","name","rest","amount","mark"] vs) H:=by
 obtain⟨k,p,h,w,g,n,m,ns,cs,rfl,ha,F,O,ok,q⟩:=h
 have hm:m<100:=by
  by_cases hs:sgnK k=true
  . have:=(O.m0 hs).2;have:=F.g1;omega
  . have:=O.mz (by simpa using hs);omega
 have hsp:Txt.split (tx (catL 32 (rowW k n m ns))) (tx [32])=(rowW k n m ns).map tx:=FF (by simp[rowW]) (EE (by have:=O.n0;omega) hm O.ns0);have hl:=BK (k:=k) (n:=n) (m:=m) O.len;have hl2:=vA _ hl.2;show mI K c _ [some (.ref p),some (.str (tx (catL 32 (rowW k n m ns)))),none,none,none,none,none] H;unfold mI;rw[aE,aA];symm;refine⟨zC,?_⟩;rw[GA,hsp];refine⟨by rw[bN];decide,by rw[bN];exact Nj (NG hl2 (NG (Nat.mul_le_mul_left 101 hl.1) (by decide))),by rw[Mr];exact aR (by omega),fun W hW=>?_⟩;have s1:Same H (upd H W (.lst (((rowW k n m ns).map tx).map V.str))):=(Mw H).laid hW;exact vC F (s1 _ _ ha) ak O ok fun r H2 s2 hr x=>q r H2 (s1.trans s2) (s1.free hr) x
def ce(ns:List Int)(k:Int):Int:=(if 0 < (ns.length:Int) then k*k*7919+104729*k+11+ns.getD (k%ns.length).toNat 0%10^30*(48271+k/ns.length) else k*k*7919+104729*k+11)%2147483629
def bA(K:Frag):Sp:=fun vs H Q _=>∃(a:Addr) (ns:List Int) (k:Int),vs=[.ref a,.int k]/\SqL K H a (ns.map V.int)/\ns.length<=63/\0<=k/\k<=10000/\Q (.int (ce ns k)) H
def lq(K:Frag):TS:=
 (tSeq (tAsg (tOp cAdd (tOp cAdd (tOp cMul (tOp cMul (tVar 1) (tVar 1)) (tC (.int 7919))) (tOp cMul (tC (.int 104729)) (tVar 1))) (tC (.int 11))) (gName 2))
  (tSeq (tIfS (tTest (tOp (cCmp fun i j=>decide (j<i)) (tCB (kLenS K) (tCons (tVar 0) tNil)) (tC (.int 0)))) (tSeq (tAsg (tOp cMod (tOp (rIxL K) (tVar 0) (tOp cMod (tVar 1) (tCB (kLenS K) (tCons (tVar 0) tNil)))) (tOp cPow (tC (.int 10)) (tC (.int 30)))) (gName 3))
  (tAsg (tOp cAdd (tVar 2) (tOp cMul (tVar 3) (tOp cAdd (tC (.int 48271)) (tOp cDiv (tVar 1) (tCB (kLenS K) (tCons (tVar 0) tNil)))))) (gName 2))) tNext)
  (tRet (tOp cMod (tVar 2) (tC (.int 2147483629))))))
theorem yW(h:bA K vs H Q E):lq K (eD9 Q) (start ["_law_script","_law_k","_law_number","_law_cell"] vs) H:=by
 obtain⟨a,ns,k,rfl,hS,hn,k0,k1,q⟩:=h;show lq K _ [some (.ref a),some (.int k),none,none] H;unfold lq;symm;have kk:k*k<=10000*10000:=Int.mul_le_mul k1 k1 k0 (by decide);have kk0:0<=k*k:=OA k0 k0;refine⟨.inl ⟨by omega,by omega⟩,.inr ⟨by decide,by decide⟩,.inl ⟨by decide,by decide⟩,?_⟩;rw[aA];symm;refine⟨a,_,rfl,.inl hS,?_⟩;symm;rw[Mr];unfold ce at q;by_cases hl:0 < (ns.length:Int)
 . rw[MU hl] at q;rw[Mv hl];refine iteT ⟨a,_,rfl,.inl hS,?_⟩;symm;rw[Mr];have m0:=NV k (Qj hl);have m1:=NH k hl;refine⟨hl,a,_,_,_,rfl,rfl,hS,ux m0 m1,?_⟩;symm;refine⟨⟨by decide,by decide,by decide⟩,by decide,a,_,rfl,.inl hS,?_⟩;symm;rw[Mr];refine⟨⟨hl,by omega⟩,.inr ⟨?_,?_⟩,?_⟩
   . have:0<=k / (ns.length:Int):=Int.ediv_nonneg k0 (by omega);omega
   . have:k / (ns.length:Int)<=k:=Int.ediv_le_self _ k0;omega
   . symm;exact⟨by decide,q⟩
 . rw[MP hl] at q;rw[Mu hl];refine iteF ?_;symm;exact⟨by decide,q⟩
theorem yt{α β:Type}(f:α->β):∀(l:List α) (j:Nat),(l.map f).eraseIdx j=(l.eraseIdx j).map f
 | [],_=>rfl
 | _::_,0=>rfl
 | x::r,j+1=>by
  show f x::(r.map f).eraseIdx j=f x::(r.eraseIdx j).map f;rw[yt f r j]
theorem vD{α:Type}:∀(l:List α) (j:Nat) (h:j<l.length),(l[j]::l.eraseIdx j).Perm l
 | [],_,h=>absurd h (by simp)
 | x::r,0,_=>List.Perm.refl _
 | x::r,j+1,h=>by
  have hj:j<r.length:=by simpa using h
  have ih:=vD r j hj;show(r[j]::x::r.eraseIdx j).Perm (x::r);exact(List.Perm.swap x r[j] (r.eraseIdx j)).trans (List.Perm.cons x ih)
theorem rq{α β:Type}(f:α->β):∀{l:List α},(l.map f).Nodup->l.Nodup
 | [],_=>OO
 | a::r,h=>by
  rw[M4,Nm] at h;rw[Nm];exact⟨fun z=>h.1 (MJ.mpr ⟨a,z,rfl⟩),rq f h.2⟩
theorem EF(n:Int):(rngL 0 n).Nodup:=by
 unfold rngL;have e:(List.range (n-0).toNat).map (fun(k:Nat)=>0+(k:Int))=(List.range (n-0).toNat).map fun(k:Nat)=>(k:Int):=OF fun k _=>by omega
 rw[e];exact vz PK
theorem xp{n x:Int}(h:x∈rngL 0 n):0<=x/\x<n:=by
 unfold rngL at h;obtain⟨k,hk,rfl⟩:=MJ.mp h;have:=MF.mp hk;omega
def kc(K:Frag):Sp:=fun vs H Q _=>∃(a:Addr) (ns:List Int) (at_ many count:Int),vs=[.ref a,.int at_,.int many,.int count]/\SqL K H a (ns.map V.int)/\ns.length<=63/\0<=at_/\at_<=1000/\many<=16/\0<=count/\count<=many/\
 ∀(l:Addr) (H':Hp) (cs:List Nat),Same H H'->H l=none->H' l=some (.lst ((cs.map fun(n:Nat)=>(n:Int)).map V.int))->cs.Nodup->(∀ c∈cs,(c:Int)<many)->(cs.length:Int)=count->Q (.ref l) H'
def kd(K:Frag):TS:=
 (tSeq (tAsg (kT (tCons (tVar 2) tNil)) (gName 4))
  (tSeq (tAsg (tLst tNil) (gName 5))
  (tSeq (tFor (gi (tCons (tVar 3) tNil)) (gName 6)
  (tDrop (tBM K "list" bo (tVar 5) (tCons (tBM K "list" vx (tVar 4) (tCons (tOp cMod (tCall (bA K) [] E0 (tCons (tVar 0) (tCons (tOp cAdd (tVar 1) (tVar 6)) tNil))) (tCB kLen (tCons (tVar 4) tNil))) tNil)) tNil))))
  (tRet (tVar 5)))))
theorem xq(h:kc K vs H Q E):kd K (eD9 Q) (start ["_law_script","_law_at","_law_many","_law_count","_law_left","_law_found","_law_k"] vs) H:=by
 obtain⟨a,ns,at_,many,count,rfl,hS,hn,a0,a1,m1,c0,c1,q⟩:=h;show kd K _ [some (.ref a),some (.int at_),some (.int many),some (.int count),none,none,none] H;unfold kd;symm;refine⟨many,rfl,by omega,by omega,fun L hL=>?_⟩;obtain⟨H1,z9,s1,eL⟩:=aY (.lst ((rngL 0 many).map V.int)) hL;rw[z9];symm;refine⟨aR (by decide),fun R hR=>?_⟩;have nRL:R≠L:=fun e=>by rw[e,eL] at hR;cases hR
 refine⟨count,rfl,by omega,by omega,?_⟩
 refine nc (fun i σ H'=>∃(kv:Option V) (fs ls:List Int),σ=[some (.ref a),some (.int at_),some (.int many),some (.int count),some (.ref L),some (.ref R),kv]/\Same H H'/\H' L=some (.lst (ls.map V.int))/\H' R=some (.lst (fs.map V.int))/\(fs++ls).Perm (rngL 0 many)/\fs.length=i)
  ⟨none,[],rngL 0 many,rfl,s1.laid hR,by rw[aq nRL.symm];exact eL,by rw[ak];rfl,List.Perm.refl _,rfl⟩ ?_ ?_
 . rintro i σ H2 hi ⟨kv,fs,ls,rfl,s2,e1,e2,hp,hl⟩;have Mn:=hp.length_eq;rw[M6,j9] at Mn;symm;refine⟨bq e2,bq e1,a,ns,_,rfl,s2.seq hS,hn,by omega,by omega,?_⟩;symm;rw[bc e1,Mr];have hpos:0 < (ls.length:Int):=by omega
   have j0:=NV (ce ns (at_+(0+(i:Int)))) (Qj hpos);have j1:=NH (ce ns (at_+(0+(i:Int)))) hpos;refine⟨hpos,?_⟩;generalize ce ns (at_+(0+(i:Int))) % (ls.length:Int)=j at*;have hj:j.toNat<ls.length:=by omega
   refine GG e1 j0 (by rw[Mr];omega) (y:=V.int ls[j.toNat]) (by rw[MA,Mt hj];rfl) ?_;have e2':(upd H2 L (.lst ((ls.map V.int).eraseIdx j.toNat))) R=some (.lst (fs.map V.int)):=by rw[aq nRL];exact e2
   symm;rw[fP e2'];refine⟨by rw[Mr];exact aK (by omega),_,fs++[ls[j.toNat]],ls.eraseIdx j.toNat,rfl,(s2.own hL).own (s1.free hR),?_,?_,?_,by simp[hl]⟩
   . rw[aq nRL.symm,ak,yt]
   . rw[ak];simp
   . have p1:=vD ls j.toNat hj;have p2:=List.Perm.append_left fs p1;refine List.Perm.trans ?_ hp;rw[NL];exact p2
 . rintro σ H2 ⟨kv,fs,ls,rfl,s2,e1,e2,hp,hl⟩;symm;have hnd:(fs++ls).Nodup:=hp.nodup_iff.mpr (EF many);have hm:∀ x∈fs,0<=x/\x<many:=fun x hx=>xp (hp.mem_iff.mp (M0.mpr (.inl hx)))
   have ef:(fs.map Int.toNat).map (fun(n:Nat)=>(n:Int))=fs:=by
    rw[Na]
    conv=>rhs;rw[← List.map_id fs]
    exact OF fun x hx=>by have:=hm x hx;show((x.toNat:Nat):Int)=x;omega
   refine q R H2 (fs.map Int.toNat) s2 (s1.free hR) (by rw[ef];exact e2) ?_ ?_ ?_
   . have h1:=(Of.mp hnd).1;rw[← ef] at h1;exact rq _ h1
   . intro c hc;obtain⟨x,hx,rfl⟩:=MJ.mp hc;have:=hm x hx;omega
   . rw[Mr,hl];omega
def nr(K:Frag)(c:RCl RK):Sp:=cN K c .Unlike
def jk(K:Frag)(c:RCl RK):TS:=
 (tSeq (tAsg (aD c c.ok "signs_at" (eV K c) (tVar 0) (tCons (tVar 1) tNil)) (gName 2))
  (tRet (tOp (cEq K) (sX (tVar 2)) (tCB kLen (tCons (tVar 2) tNil)))))
theorem vE(h:nr K c vs H Q E):jk K c (eD9 Q) (start ["self","filling","signs"] vs) H:=by
 obtain⟨r,p,f,ws,cs,xs,n,m,h,w,g,rfl,x,ha,F,hf,hC,hx,q⟩:=h;obtain⟨dx,W,C,h1,h2,h3⟩:=x.ex;show jk K c _ [some (.ref r),some (.ref f),none] H;unfold jk;symm;refine methE rfl x.ok h1 (by rfl) ?_;symm;refine⟨r,p,f,ws,cs,xs,n,m,rfl,x,hf,hC,fun l H1 s1 hl el=>?_⟩;have Mn:(sgAt xs cs).length<=100:=by unfold sgAt;rw[Mr];exact ML hC.1 (by decide)
 symm;refine⟨l,_,rfl,el,by omega,?_⟩;symm;rw[bc el,Mr];symm;have q1:=q _ s1;unfold hoB at q1;dsimp only at q1
 have e:decide (((cntD (sgAt xs cs):Nat):Int)=((sgAt xs cs).length:Nat))=decide (cntD (sgAt xs cs)=(sgAt xs cs).length):=by
  rw[MZ,Mx,Mx];omega
 rw[e];exact q1
theorem xt(h:n<100):((n:Int)).natAbs.log2<1920:=by
 have t:((List.range 100).all fun n=>decide (n.log2<1920))=true:=by decide+kernel
 have:=MC.mp t n (MF.mpr h)
 simpa using this
theorem GK(h:n<100)(q:Q (.str (tx (numC n))) H):kStr [.int (n:Int)] H Q:=by
 refine⟨xt h,?_⟩;rw[xf h];exact q
theorem rz {C:Addr} {cs:List Nat} {fin:Addr->Hp->Prop} (hC:H C=some (.lst ((cs.map fun(n:Nat)=>(n:Int)).map V.int))) (hl:cs.length<=100) (hc:∀ c∈cs,c<100)
  (hd:∀ l H',H l=none->Same H H'->H' l=some (.lst (((cs.map numC).map tx).map V.str))->fin l H'):CompR (Itl K C) (gName 1) tTrue (tCB kStr (tCons (tVar 1) tNil)) fin [none,none] H:=by
 refine bT (xs:=(cs.map fun(n:Nat)=>(n:Int)).map V.int) (fun _=>true) (fun i=>.str (tx (numC (cs.getD i 0)))) (by simp;omega) (MO hC) ?_ ?_ ?_
 . intro i x H1 R hx s1 k1;exact k1 _ (Mw _)
 . intro i x H1 Q1 hx hb s1 k1;rw[MA,MA] at hx
   cases e:cs[i]? with
   | none=>rw[e] at hx;cases hx
   | some n=>
    rw[e] at hx;cases hx;show tCB kStr _ [none,some (.int (n:Int))] H1 Q1;symm;have q1:=k1 _ (Mw H1);have eg:cs.getD i 0=n:=by rw[List.getD,e];rfl
    rw[eg] at q1;have:=GK (H:=H1) (Q:=Q1) (hc n (Mz e)) q1;exact this
 . intro l H1 hl1 s1 el;refine hd l H1 hl1 s1 ?_;rw[el,aZ,Mr,Mr,Na,Na]
   congr 2
   refine N1 fun i=>?_;rw[MA,MA];by_cases h:i<cs.length
   . rw[Ny h,Mt h];simp[List.getD,h]
   . rw[M7 (by simpa using h),M7 (by omega)];rfl
theorem dw{c:Nat}{x:List Nat}:∀{rs:List (List Nat)},rs≠[]->catL c (x::rs)=x++c::catL c rs
 | [],h=>absurd rfl h
 | y::r,_=>by first | rfl | simp[catL]
section
variable{X:Cx}{a:Expr}{ta:TE}{pos p:Pos}{x:Str}{ws:List Str}
theorem vF(G:GTup X.K X.mg x ws)(ha:PE X a ta)(hg:Gl X x)(hdb:(x==("__debug__":Str))=false:=by decide)(hm:behindInMarks .In (.Name x p)=false:=by with_unfolding_all rfl):PT X (.Compare a [.In] [.Name x p] pos) (tB (tInG ws false ta)):=by
 obtain⟨q,o,Mi,n,h1,h2⟩:=G.ex;have h0:=ao (pos:=pos) (HQ ⟨o,Mi,n,h2⟩) ha (cp (v:=V.ref q) hg h1 rfl hdb) hm;intro Md s σ H Q I h;refine h0 Md s σ H Q I ?_
 have e:(fun(x:V) (H1:Hp)=>∃ z,x=.str z/\∃ k,V.bl (if false=true then !decide (z∈ws) else decide (z∈ws))=.bl k/\Q k H1)=fun x H1=>∃ z,x=.str z/\(V.ref q=V.ref q)/\∃ k,V.bl (decide (z∈ws))=.bl k/\Q k H1:=by
  funext x H1;simp
 have h':ta σ H (fun(x:V) (H1:Hp)=>∃ z,x=.str z/\∃ k,V.bl (if false=true then !decide (z∈ws) else decide (z∈ws))=.bl k/\Q k H1):=h;rw[e] at h';exact h'
theorem xu(G:GTup X.K X.mg x ws)(ha:PE X a ta)(hg:Gl X x)(hdb:(x==("__debug__":Str))=false:=by decide)(hm:behindInMarks .NotIn (.Name x p)=false:=by with_unfolding_all rfl):PT X (.Compare a [.NotIn] [.Name x p] pos) (tB (tInG ws true ta)):=by
 obtain⟨q,o,Mi,n,h1,h2⟩:=G.ex;have h0:=ao (pos:=pos) (GD ⟨o,Mi,n,h2⟩) ha (cp (v:=V.ref q) hg h1 rfl hdb) hm;intro Md s σ H Q I h;refine h0 Md s σ H Q I ?_
 have e:(fun(x:V) (H1:Hp)=>∃ z,x=.str z/\∃ k,V.bl (if true=true then !decide (z∈ws) else decide (z∈ws))=.bl k/\Q k H1)=fun x H1=>∃ z,x=.str z/\(V.ref q=V.ref q)/\∃ k,V.bl (!decide (z∈ws))=.bl k/\Q k H1:=by
  funext x H1;simp
 have h':ta σ H (fun(x:V) (H1:Hp)=>∃ z,x=.str z/\∃ k,V.bl (if true=true then !decide (z∈ws) else decide (z∈ws))=.bl k/\Q k H1):=h;rw[e] at h';exact h'
end
inductive PzK where
 | Puzzle
 deriving DecidableEq
structure RR where
 k:RK
 n:Nat
 m:Nat
 ns:List Nat
 cs:List Int
def RR.ws(r:RR):List (List Nat):=rowW r.k r.n r.m r.ns
def RR.txt(r:RR):Str:=tx (catL 32 r.ws)
def RR.Ok(r:RR)(h w g:Int):Prop:=An r.k h w g r.n r.m r.ns r.cs
structure IsRules(H:Hp)(c:RCl RK)(p L:Addr)(rs:List Addr)(Mf:List RR):Prop where
 top:H L=some (.lst (rs.map V.ref))
 len:rs.length=Mf.length
 at_:∀(i:Nat) (r:Addr) (x:RR),rs[i]? =some r->Mf[i]? =some x->IsRule H c x.k r p x.ws x.cs x.n x.m
variable{H:Hp}{c:RCl RK}{p:Addr}{rs:List Addr}{Mf:List RR}
theorem IsRules.same{H':Hp}{L:Addr}(x:IsRules H c p L rs Mf)(s:Same H H'):IsRules H' c p L rs Mf:=
 ⟨s _ _ x.top,x.len,fun i r y h1 h2=>(x.at_ i r y h1 h2).same s⟩
variable{cs:List Int}{o:HO}
theorem IsRule.lst{k:RK}{r a:Addr}{ws:List (List Nat)}{n m:Int}{xs:List V}(x:IsRule H c k r p ws cs n m)(ha:H a=some (.lst xs)):IsRule (upd H a o) c k r p ws cs n m:=by
 obtain⟨dx,W,C,h1,h2,h3⟩:=x.ex;refine⟨x.ok,dx,W,C,?_,?_,?_⟩
 . rw[aq (fun e=>by rw[e,ha] at h1;cases h1)];exact h1
 . rw[aq (fun e=>by rw[e,ha] at h2;cases h2)];exact h2
 . rw[aq (fun e=>by rw[e,ha] at h3;cases h3)];exact h3
def pFs(p L G:Addr):List (Str × V):=[("floor",.ref p),("laws",.ref L),("given",.ref G)]
structure g7(c:RCl RK)(h w g:Int)(Mf:List RR):Prop where
 F:FlOk h w g
 n:Mf.length<=12
 ok:∀ r∈Mf,r.Ok h w g
 c:∀ r∈Mf,c.ok r.k=true
structure CluesOk(h w g:Int)(cl:List Int):Prop where
 len:cl.length=(h*w).toNat
 ok:∀ x∈cl,0<=x/\x<=g
structure IsPz(H:Hp)(c:RCl RK)(d:RCl PzK)(P L G:Addr)(h w g:Int)(Mf:List RR)(cl:List Int):Prop where
 ok:d.ok .Puzzle=true
 R:g7 c h w g Mf
 C:CluesOk h w g cl
 gv:H G=some (.lst (cl.map V.int))
 ex:∃ dx p rs,H P=some (.ins (d.A .Puzzle) dx (pFs p L G))/\IsFl H p h w g/\IsRules H c p L rs Mf
variable{d:RCl PzK}{cl:List Int}
theorem IsPz.same{H':Hp}{P L G:Addr}{h w g:Int}(x:IsPz H c d P L G h w g Mf cl)(s:Same H H'):IsPz H' c d P L G h w g Mf cl:=by
 obtain⟨dx,p,rs,h1,h2,h3⟩:=x.ex;exact⟨x.ok,x.R,x.C,s _ _ x.gv,dx,p,rs,s _ _ h1,s _ _ h2,h3.same s⟩
def dz(K:Frag):Sp:=fun vs H Q _=>∃ i:Int,vs=[.int i]/\Q (.bl true) H
def oo(K:Frag):TS:=
 (tRet (tAndV (tCB kIsi (tCons (tVar 0) (tCons (tC (.ty "int")) tNil))) (tNotV (tCB kIsi (tCons (tVar 0) (tCons (tC (.ty "bool")) tNil))))))
variable{K:Frag}{vs:List V}{Q:VK}{E:XK}
theorem BL(h:dz K vs H Q E):oo K (eD9 Q) (start ["value"] vs) H:=by
 obtain⟨i,rfl,q⟩:=h;show oo K _ [some (.int i)] H;unfold oo;symm;exact q
def bO(K:Frag):Sp:=fun vs H Q _=>∃ i m:Int,vs=[.int i,.int m]/\Q (.bl (decide (1<=i)&&decide (i<=m))) H
def gr(K:Frag):TS:=
 (tRet (tAndV (tCall (dz K) [] E0 (tCons (tVar 0) tNil)) (tAndV (tOp (cCmp fun i j=>decide (i<=j)) (tC (.int 1)) (tVar 0)) (tOp (cCmp fun i j=>decide (i<=j)) (tVar 0) (tVar 1)))))
theorem tq(h:bO K vs H Q E):gr K (eD9 Q) (start ["value","most"] vs) H:=by
 obtain⟨i,m,rfl,q⟩:=h;show gr K _ [some (.int i),some (.int m)] H;unfold gr;symm;refine⟨i,rfl,⟨true,rfl,iteT ?_⟩⟩;symm
 cases hb:decide (1<=i) with
 | false=>
  rw[hb,MQ] at q;exact iteF q
 | true=>
  rw[hb,MR] at q;exact iteT q
def oq(K:Frag):Sp:=fun vs H Q _=>∃ h w g:Int,vs=[.int h,.int w,.int g]/\FlOk h w g/\∀ p,H p=none->Q (.ref p) (upd H p (.tup [.int h,.int w,.int g]))
def or(K:Frag):TS:=
 (tSeq (tIfS (tNot (tB (tCall (bO K) [] E0 (tCons (tVar 0) (tCons (tC (.int 6)) tNil))))) cw tNext)
  (tSeq (tIfS (tNot (tB (tCall (bO K) [] E0 (tCons (tVar 1) (tCons (tC (.int 6)) tNil))))) cw tNext)
  (tSeq (tIfS (tTest (tOp (cCmp fun i j=>decide (j<i)) (tOp cMul (tVar 0) (tVar 1)) (tC (.int 16)))) cw tNext)
  (tSeq (tIfS (tNot (tB (tCall (bO K) [] E0 (tCons (tVar 2) (tCons (tC (.int 6)) tNil))))) cw tNext)
  (tRet (tTup (tCons (tVar 0) (tCons (tVar 1) (tCons (tVar 2) tNil)))))))))
theorem BM(h:oq K vs H Q E):or K (eD9 Q) (start ["high","wide","signs"] vs) H:=by
 obtain⟨h,w,g,rfl,F,q⟩:=h;obtain⟨h0,h1,w0,w1,m16,g0,g1⟩:=id F;show or K _ [some (.int h),some (.int w),some (.int g)] H;unfold or;rw[aE,aA];symm;refine⟨h,6,rfl,⟨_,rfl,?_⟩⟩;rw[Mv h0,Mv h1,O1];refine iteF ?_;rw[aA];symm;refine⟨w,6,rfl,⟨_,rfl,?_⟩⟩;rw[Mv w0,Mv w1,O1];refine iteF ?_;rw[aA];symm;refine⟨no h0 h1,?_⟩;rw[Mu (show ¬ (16:Int)<h*w by omega)];refine iteF ?_;rw[aA];symm;refine⟨g,6,rfl,⟨_,rfl,?_⟩⟩;rw[Mv g0,Mv g1,O1];refine iteF ?_;symm;exact⟨lnR rfl,q⟩
def im(K:Frag):Sp:=fun vs H Q _=>∃(p:Addr) (h w g:Int),vs=[.ref p]/\IsFl H p h w g/\FlOk h w g/\∀ p,H p=none->Q (.ref p) (upd H p (.tup [.int h,.int w,.int g]))
def io(K:Frag):TS:=
 (tSeq (tIfS (tOr (tNot (tB (tCB kIsi (tCons (tVar 0) (tCons (tC (.ty "tuple")) tNil))))) (tTest (tOp (cNe K) (tCB kLen (tCons (tVar 0) tNil)) (tC (.int 3))))) cw tNext)
  (tRet (tCall (oq K) [] E0 (tCons (tOp cIx (tVar 0) (tC (.int 0))) (tCons (tOp cIx (tVar 0) (tC (.int 1))) (tCons (tOp cIx (tVar 0) (tC (.int 2))) tNil))))))
theorem uF(h:im K vs H Q E):io K (eD9 Q) (start ["floor"] vs) H:=by
 obtain⟨p,h,w,g,rfl,hp,F,q⟩:=h;show io K _ [some (.ref p)] H;unfold io;rw[aE,aA];symm;refine Aa hp ?_;symm;rw[zY hp,show(([V.int h,V.int w,V.int g]:List V).length:Int)=3 from rfl];symm;refine ixT hp (v:=V.int h) rfl ?_;symm;refine ixT hp (v:=V.int w) rfl ?_;symm;refine ixT hp (v:=V.int g) rfl ?_;symm;exact⟨h,w,g,rfl,F,q⟩
def lr(K:Frag)(c:RCl RK):Sp:=fun vs H Q _=>∃(p a:Addr) (h w g:Int) (Mf:List RR),vs=[.ref p,.ref a]/\IsFl H p h w g/\H a=some (.lst ((Mf.map RR.txt).map V.str))/\g7 c h w g Mf/\
 ∀ l rs H',Same H H'->H l=none->IsRules H' c p l rs Mf->Q (.ref l) H'
def lu(K:Frag)(c:RCl RK):TS:=
 (tSeq (tIfS (tTest (tOp (cCmp fun i j=>decide (j<i)) (tCB kLen (tCons (tVar 1) tNil)) (tC (.int 12)))) cw tNext)
  (tRet (tComp [none,none,some 0] (iList K (tVar 1)) (gName 1) tTrue (tCall (ji K c) [] E0 (tCons (tVar 2) (tCons (tVar 1) tNil))))))
theorem yX(h:lr K c vs H Q E):lu K c (eD9 Q) (start ["floor","lines"] vs) H:=by
 obtain⟨p,a,h,w,g,Mf,rfl,hp,ha,O,q⟩:=h;have hn:=O.n;show lu K c _ [some (.ref p),some (.ref a)] H;unfold lu;rw[aE,aA];symm;rw[bc ha,Mr,Mr];symm;rw[Mu (show ¬ (12:Int) < (Mf.length:Nat) by omega)];refine iteF ?_;symm;refine⟨⟨_,MO ha⟩,?_⟩
 refine re (xs:=(Mf.map RR.txt).map V.str) (fun l i σ H'=>(∃ cv,σ=[none,cv,some (.ref p)])/\Same H H'/\∃ rs:List Addr,H' l=some (.lst (rs.map V.ref))/\rs.length=i/\∀(j:Nat) (r:Addr) (x:RR),rs[j]? =some r->Mf[j]? =some x->IsRule H' c x.k r p x.ws x.cs x.n x.m)
  (fun l hl=>⟨⟨none,rfl⟩,(Mw H).laid hl,[],by rw[ak];rfl,rfl,fun j r x e=>by simp at e⟩) (fun l i σ H' _ _ x=>x.2.1.seq (MO ha)) ?_ ?_
 . rintro l i x σ H1 hl hx ⟨⟨cv,rfl⟩,s1,rs,el,Mn,hat⟩;rw[MA,MA] at hx
   cases e:Mf[i]? with
   | none=>rw[e] at hx;cases hx
   | some y=>
    rw[e] at hx;cases hx;have hi:=(My.mp e).1;have hm:=Mz e;rw[bf];show tTrue [none,some (.str y.txt),some (.ref p)] H1 _;symm;refine⟨y.k,p,h,w,g,y.n,y.m,y.ns,y.cs,rfl,s1 _ _ hp,O.F,O.ok y hm,O.c y hm,fun r H2 s2 hr xr=>?_⟩;have nrl:r≠l:=fun z=>by rw[z,el] at hr;cases hr
    refine⟨_,s2 _ _ el,by rw[Mr];exact aK (by omega),⟨_,rfl⟩,(s1.trans s2).own hl,rs++[r],by rw[ak];simp,by simp[Mn],fun j r' x' h1 h2=>?_⟩;by_cases hj:j<rs.length
    . rw[Nc hj] at h1;exact((hat j r' x' h1 h2).same s2).lst (s2 _ _ el)
    . rw[Nk (by omega)] at h1
      have hj0:j-rs.length=0:=by
       have:=(My.mp h1).1;simp at this;omega
      rw[hj0] at h1;have:j=i:=by omega
      subst this;rw[e] at h2;simp at h1;cases h2;subst h1;exact xr.lst (s2 _ _ el)
 . rintro l σ H1 hl ⟨_,s1,rs,el,Mn,hat⟩;exact q l rs H1 s1 hl ⟨el,by rw[Mn];simp,hat⟩
def filB(least g:Int)(n:Nat)(xs:List Int):Bool:=decide (xs.length=n)&&xs.all fun x=>decide (least<=x)&&decide (x<=g)
def lw(K:Frag):Sp:=fun vs H Q _=>∃(p a:Addr) (h w g least:Int) (xs:List Int),vs=[.ref p,.ref a,.int least]/\IsFl H p h w g/\FlOk h w g/\H a=some (.lst (xs.map V.int))/\xs.length<=100/\∀ H',Same H H'->Q (.bl (filB least g (h*w).toNat xs)) H'
def lx(K:Frag):TS:=
 (tSeq (tIfS (tOr (tNot (tB (tCB kIsi (tCons (tVar 1) (tCons (tC (.ty "list")) tNil))))) (tTest (tOp (cNe K) (tCB kLen (tCons (tVar 1) tNil)) (tCall (bP K) [] E0 (tCons (tVar 0) tNil))))) (tRet (tC (.bl false))) tNext)
  (tRet (tCB kAll (tCons (tComp [none,none,some 0,some 2] (iList K (tVar 1)) (gName 1) tTrue (tAndV (tCall (dz K) [] E0 (tCons (tVar 1) tNil)) (tAndV (tOp (cCmp fun i j=>decide (i<=j)) (tVar 3) (tVar 1)) (tOp (cCmp fun i j=>decide (i<=j)) (tVar 1) (tOp cIx (tVar 2) (tC (.int 2))))))) tNil))))
theorem yY(h:lw K vs H Q E):lx K (eD9 Q) (start ["floor","filling","least"] vs) H:=by
 obtain⟨p,a,h,w,g,least,xs,rfl,hp,F,ha,hn,q⟩:=h;obtain⟨h0,h1,w0,w1,m16,g0,g1⟩:=id F;have mpos:0<=h*w:=OA (by omega) (by omega);show lx K _ [some (.ref p),some (.ref a),some (.int least)] H;unfold lx;rw[aE,aA];symm;refine z8 ha ?_;symm;rw[bc ha,Mr];symm;refine⟨p,h,w,g,rfl,hp,h0,h1,?_⟩;symm;unfold filB at q;by_cases hl:xs.length=(h*w).toNat
 . rw[Mv (show(xs.length:Int)=h*w by omega)];rw[Mv hl] at q;symm;refine⟨⟨_,MO ha⟩,?_⟩;refine bT (xs:=xs.map V.int) (fun _=>true) (fun i=>.bl (decide (least<=xs.getD i 0)&&decide (xs.getD i 0<=g))) (by rw[Mr];omega) (MO ha) ?_ ?_ ?_
   . intro i x H1 R hx s1 k1;exact k1 _ (Mw _)
   . intro i x H1 Q1 hx hb s1 k1;obtain⟨z,hz,rfl⟩:=aQ hx;have q1:=k1 _ (Mw H1);rw[eJ hz] at q1;show tAndV _ _ [none,some (.int z),some (.ref p),some (.int least)] H1 Q1;symm;refine⟨z,rfl,⟨true,rfl,iteT ?_⟩⟩;symm
     cases hb:decide (least<=z) with
     | false=>
      rw[hb,MQ] at q1;exact iteF q1
     | true=>
      rw[hb,MR] at q1;refine iteT ?_;symm;refine ixT (s1 _ _ hp) (v:=V.int g) rfl ?_;symm;exact q1
   . intro l H1 hl1 s1 el
     have eb:((List.range (xs.map V.int).length).filter fun _=>true).map (fun i=>V.bl (decide (least<=xs.getD i 0)&&decide (xs.getD i 0<=g)))=(xs.map fun x=>decide (least<=x)&&decide (x<=g)).map V.bl:=by
      rw[aZ,Mr];refine N1 fun i=>?_;rw[MA,MA,MA];by_cases h:i<xs.length
      . rw[Ny h,Mt h];simp[List.getD,h]
      . rw[M7 (by simpa using h),M7 (by omega)];rfl
     rw[eb] at el;refine lS el ?_;have ea:(xs.map fun x=>decide (least<=x)&&decide (x<=g)).all id=xs.all fun x=>decide (least<=x)&&decide (x<=g):=by rw[Op];rfl
     rw[ea];exact q _ s1
 . rw[Mu (show ¬ (xs.length:Int)=h*w by omega)];rw[Mu hl] at q;symm;exact q _ (Mw _)
def ip(K:Frag):Sp:=fun vs H Q _=>∃(p a:Addr) (h w g:Int) (xs:List Int),vs=[.ref p,.ref a]/\IsFl H p h w g/\FlOk h w g/\H a=some (.lst (xs.map V.int))/\CluesOk h w g xs/\∀ l H',Same H H'->H l=none->H' l=some (.lst (xs.map V.int))->Q (.ref l) H'
def iq(K:Frag):TS:=
 (tSeq (tIfS (tNot (tB (tCall (lw K) [] E0 (tCons (tVar 0) (tCons (tVar 1) (tCons (tC (.int 0)) tNil)))))) cw tNext)
  (tRet (tCB kList (tCons (tVar 1) tNil))))
theorem CluesOk.fil{h w g:Int}{xs:List Int}(C:CluesOk h w g xs):filB 0 g (h*w).toNat xs=true:=by
 unfold filB;rw[Mv C.len,MR,MC];intro x hx;have:=C.ok x hx;simp[this.1,this.2]
theorem uG(h:ip K vs H Q E):iq K (eD9 Q) (start ["floor","clues"] vs) H:=by
 obtain⟨p,a,h,w,g,xs,rfl,hp,F,ha,C,q⟩:=h;obtain⟨h0,h1,w0,w1,m16,g0,g1⟩:=id F;show iq K _ [some (.ref p),some (.ref a)] H;unfold iq;rw[aE,aA];symm;refine⟨p,a,h,w,g,0,xs,rfl,hp,F,ha,by have:=C.len;omega,fun H1 s1=>?_⟩;rw[C.fil];refine⟨true,rfl,iteF ?_⟩;symm;refine mn (s1 _ _ ha) fun l hl=>?_;exact q l _ (s1.laid hl) (s1.free hl) ak
theorem IsRule.ins{k:RK}{r a:Addr}{ws:List (List Nat)}{n m:Int}{C dx:Addr}{fs:List (Str × V)}(x:IsRule H c k r p ws cs n m)(ha:H a=some (.ins C dx fs))(hf:fs.length≠5):IsRule (upd H a o) c k r p ws cs n m:=by
 obtain⟨dx',W,C',h1,h2,h3⟩:=x.ex;refine⟨x.ok,dx',W,C',?_,?_,?_⟩
 . rw[aq (fun e=>by rw[e,ha] at h1;cases h1;exact hf rfl)];exact h1
 . rw[aq (fun e=>by rw[e,ha] at h2;cases h2)];exact h2
 . rw[aq (fun e=>by rw[e,ha] at h3;cases h3)];exact h3
theorem IsRules.ins{L a:Addr}{C dx:Addr}{fs:List (Str × V)}(x:IsRules H c p L rs Mf)(ha:H a=some (.ins C dx fs))(hf:fs.length≠5):IsRules (upd H a o) c p L rs Mf:=
 ⟨by rw[aq (fun e=>by have:=x.top;rw[e,ha] at this;cases this)];exact x.top,x.len,fun i r y h1 h2=>(x.at_ i r y h1 h2).ins ha hf⟩
def bZ(K:Frag)(c:RCl RK)(d:RCl PzK):Sp:=fun vs H Q _=>∃(x dx p a b:Addr) (h w g:Int) (Mf:List RR) (cl:List Int),vs=[.ref x,.ref p,.ref a,.ref b]/\d.ok .Puzzle=true/\H x=some (.ins (d.A .Puzzle) dx [])/\IsFl H p h w g/\H a=some (.lst ((Mf.map RR.txt).map V.str))/\H b=some (.lst (cl.map V.int))/\g7 c h w g Mf/\CluesOk h w g cl/\
 ∀ L G H',(∀ y o,y≠x->H y=some o->H' y=some o)->H L=none->H G=none->IsPz H' c d x L G h w g Mf cl->Q .non H'
def fZ(K:Frag)(c:RCl RK)(d:RCl PzK):TS:=
 (tSeq (sFldK d (tVar 0) (tCall (im K) [] E0 (tCons (tVar 1) tNil)) "floor")
  (tSeq (sFldK d (tVar 0) (tCall (lr K c) [] E0 (tCons (tFldK d (tVar 0) "floor") (tCons (tVar 2) tNil))) "laws")
  (sFldK d (tVar 0) (tCall (ip K) [] E0 (tCons (tFldK d (tVar 0) "floor") (tCons (tVar 3) tNil))) "given")))
theorem rA(h:bZ K c d vs H Q E):fZ K c d (eD9 Q) (start ["self","floor","lines","clues"] vs) H:=by
 obtain⟨x,dx,p,a,b,h,w,g,Mf,cl,rfl,ok,hx,hp,ha,hb,R,C,q⟩:=h;show fZ K c d _ [some (.ref x),some (.ref p),some (.ref a),some (.ref b)] H;unfold fZ sFldK;symm;refine⟨p,h,w,g,rfl,hp,R.F,fun p1 hp1=>?_⟩;have nxp:x≠p1:=aC hx hp1;refine⟨x,.Puzzle,dx,[],rfl,ok,by rw[aq nxp];exact hx,by show(0:Nat)<1000;decide,?_⟩
 have f1:∀ y o,y≠x->H y=some o->(upd (upd H p1 (.tup [.int h,.int w,.int g])) x (.ins (d.A .Puzzle) dx (putF "floor" (.ref p1) []))) y=some o:=fun y o ny e=>by
  rw[aq ny,aq (aC e hp1)];exact e
 have hx1:(upd (upd H p1 (.tup [.int h,.int w,.int g])) x (.ins (d.A .Puzzle) dx (putF "floor" (.ref p1) []))) x=some (.ins (d.A .Puzzle) dx [("floor",.ref p1)]):=ak
 have hp1':IsFl (upd (upd H p1 (.tup [.int h,.int w,.int g])) x (.ins (d.A .Puzzle) dx (putF "floor" (.ref p1) []))) p1 h w g:=by
  show(upd (upd H p1 (.tup [.int h,.int w,.int g])) x _) p1=_;rw[aq nxp.symm,ak]
 have fr1:∀ l,(upd (upd H p1 (.tup [.int h,.int w,.int g])) x (.ins (d.A .Puzzle) dx (putF "floor" (.ref p1) []))) l=none->H l=none:=fun l e=>by
  have n1:l≠x:=fun z=>by rw[z,ak] at e;cases e
  rw[aq n1] at e;have n2:l≠p1:=fun z=>by rw[z,ak] at e;cases e
  rw[aq n2] at e;exact e
 have nax:a≠x:=fun z=>by rw[z,hx] at ha;cases ha
 have nbx:b≠x:=fun z=>by rw[z,hx] at hb;cases hb
 generalize upd (upd H p1 (.tup [.int h,.int w,.int g])) x (.ins (d.A .Puzzle) dx (putF "floor" (.ref p1) []))=H1 at*;refine fldE (c:=d) (k:=.Puzzle) rfl ok hx1 (v:=.ref p1) (by rfl) ?_;symm;refine⟨p1,a,h,w,g,Mf,rfl,hp1',f1 a _ nax ha,R,fun L rs H2 s2 hL X=>?_⟩;refine⟨x,.Puzzle,dx,_,rfl,ok,s2 _ _ hx1,by show(1:Nat)<1000;decide,?_⟩;have nxL:L≠x:=fun z=>by rw[z,hx1] at hL;cases hL
 have X3:=X.ins (o:=.ins (d.A .Puzzle) dx (putF "laws" (.ref L) [("floor",.ref p1)])) (s2 _ _ hx1) (by show(1:Nat)≠5;decide)
 have f2:∀ y o,y≠x->H y=some o->(upd H2 x (.ins (d.A .Puzzle) dx (putF "laws" (.ref L) [("floor",.ref p1)]))) y=some o:=fun y o ny e=>by
  rw[aq ny];exact s2 _ _ (f1 y o ny e)
 have hx3:(upd H2 x (.ins (d.A .Puzzle) dx (putF "laws" (.ref L) [("floor",.ref p1)]))) x=some (.ins (d.A .Puzzle) dx [("floor",.ref p1),("laws",.ref L)]):=ak
 have hp3:IsFl (upd H2 x (.ins (d.A .Puzzle) dx (putF "laws" (.ref L) [("floor",.ref p1)]))) p1 h w g:=by
  show(upd H2 x _) p1=_;rw[aq nxp.symm];exact s2 _ _ hp1'
 have fr3:∀ l,(upd H2 x (.ins (d.A .Puzzle) dx (putF "laws" (.ref L) [("floor",.ref p1)]))) l=none->H1 l=none:=fun l e=>by
  have n1:l≠x:=fun z=>by rw[z,ak] at e;cases e
  rw[aq n1] at e;exact s2.free e
 generalize upd H2 x (.ins (d.A .Puzzle) dx (putF "laws" (.ref L) [("floor",.ref p1)]))=H3 at*;refine fldE (c:=d) (k:=.Puzzle) rfl ok hx3 (v:=.ref p1) (by rfl) ?_;symm;refine⟨p1,b,h,w,g,cl,rfl,hp3,R.F,f2 b _ nbx hb,C,fun G H4 s4 hG eG=>?_⟩;refine⟨x,.Puzzle,dx,_,rfl,ok,s4 _ _ hx3,by show(2:Nat)<1000;decide,?_⟩;have nxG:G≠x:=fun z=>by rw[z,hx3] at hG;cases hG
 refine q L G _ (fun y o ny e=>?_) (fr1 L hL) (fr1 G (fr3 G hG)) ⟨ok,R,C,?_,dx,p1,rs,?_,?_,?_⟩
 . rw[aq ny];exact s4 _ _ (f2 y o ny e)
 . rw[aq nxG];exact eG
 . rw[ak];rfl
 . show(upd H4 x _) p1=_;rw[aq nxp.symm];exact s4 _ _ hp3
 . exact(X3.same s4).ins (s4 _ _ hx3) (by show(2:Nat)≠5;decide)
theorem HZ {Z:Addr->Hp->Prop} {a b:Addr} {h w g:Int} (ok:d.ok .Puzzle=true) (hp:IsFl H p h w g) (ha:H a=some (.lst ((Mf.map RR.txt).map V.str))) (hb:H b=some (.lst (cl.map V.int))) (R:g7 c h w g Mf) (C:CluesOk h w g cl)
  (q:∀ P L G H',Same H H'->H P=none->H L=none->H G=none->IsPz H' c d P L G h w g Mf cl->Z P H'):
  ∀ x dx,H x=none->H dx=none->dx≠x->bZ K c d (.ref x::([.ref p,.ref a,.ref b]++[])) (upd (upd H dx (.own x)) x (.ins (d.A .Puzzle) dx [])) (fun v H2=>v=.non/\Z x H2) E0:=by
 intro x dx hx hd ne;have k:∀ y o,H y=some o->(upd (upd H dx (.own x)) x (.ins (d.A .Puzzle) dx [])) y=some o:=fun y o e=>by rw[aq (aC e hx),aq (aC e hd)];exact e
 have fr:∀ y,(upd (upd H dx (.own x)) x (.ins (d.A .Puzzle) dx [])) y=none->H y=none:=fun y e=>by
  have n1:y≠x:=fun z=>by rw[z,ak] at e;cases e
  rw[aq n1] at e;have n2:y≠dx:=fun z=>by rw[z,ak] at e;cases e
  rw[aq n2] at e;exact e
 exact⟨x,dx,p,a,b,h,w,g,Mf,cl,rfl,ok,ak,k _ _ hp,k _ _ ha,k _ _ hb,R,C,fun L G H' hs hL hG X=>⟨rfl,q x L G H' (fun y o e=>hs y o (aC e hx) (k _ _ e)) hx (fr L hL) (fr G hG) X⟩⟩
def d3(K:Frag)(c:RCl RK)(d:RCl PzK)(_:PzK):Sp:=fun vs H Q _=>∃(P L G:Addr) (h w g:Int) (Mf:List RR) (cl:List Int),vs=[.ref P]/\IsPz H c d P L G h w g Mf cl/\∀ p,IsFl H p h w g->Q (.ref p) H
def nt(K:Frag)(c:RCl RK)(d:RCl PzK):Sp:=d3 K c d .Puzzle
def jm(K:Frag)(c:RCl RK)(d:RCl PzK):TS:=
 (tRet (tFldK d (tVar 0) "floor"))
theorem vG(h:nt K c d vs H Q E):jm K c d (eD9 Q) (start ["self"] vs) H:=by
 obtain⟨P,L,G,h,w,g,Mf,cl,rfl,x,q⟩:=h;obtain⟨dx,p,rs,h1,h2,h3⟩:=x.ex;show jm K c d _ [some (.ref P)] H;unfold jm;symm;exact fldE (k:=.Puzzle) rfl x.ok h1 (v:=.ref p) (by rfl) (q p h2)
def mJ(K:Frag)(c:RCl RK)(d:RCl PzK)(_:PzK):Sp:=fun vs H Q _=>∃(P L G:Addr) (h w g:Int) (Mf:List RR) (cl:List Int),vs=[.ref P]/\IsPz H c d P L G h w g Mf cl/\∀ l,H l=none->Q (.ref l) (upd H l (.lst (cl.map V.int)))
def nu(K:Frag)(c:RCl RK)(d:RCl PzK):Sp:=mJ K c d .Puzzle
def jn(K:Frag)(c:RCl RK)(d:RCl PzK):TS:=
 (tRet (tCB kList (tCons (tFldK d (tVar 0) "given") tNil)))
theorem vH(h:nu K c d vs H Q E):jn K c d (eD9 Q) (start ["self"] vs) H:=by
 obtain⟨P,L,G,h,w,g,Mf,cl,rfl,x,q⟩:=h;obtain⟨dx,p,rs,h1,h2,h3⟩:=x.ex;show jn K c d _ [some (.ref P)] H;unfold jn;symm;refine fldE (k:=.Puzzle) rfl x.ok h1 (v:=.ref G) (by rfl) ?_;symm;exact mn x.gv q
def cO(K:Frag)(c:RCl RK)(d:RCl PzK)(_:PzK):Sp:=fun vs H Q _=>∃(P L G:Addr) (h w g:Int) (Mf:List RR) (cl:List Int),vs=[.ref P]/\IsPz H c d P L G h w g Mf cl/\∀ l p rs,H l=none->IsFl (upd H l (.lst (rs.map V.ref))) p h w g->IsRules (upd H l (.lst (rs.map V.ref))) c p l rs Mf->Q (.ref l) (upd H l (.lst (rs.map V.ref)))
def nv(K:Frag)(c:RCl RK)(d:RCl PzK):Sp:=cO K c d .Puzzle
def jo(K:Frag)(c:RCl RK)(d:RCl PzK):TS:=
 (tRet (tCB kList (tCons (tFldK d (tVar 0) "laws") tNil)))
theorem vI(h:nv K c d vs H Q E):jo K c d (eD9 Q) (start ["self"] vs) H:=by
 obtain⟨P,L,G,h,w,g,Mf,cl,rfl,x,q⟩:=h;obtain⟨dx,p,rs,h1,h2,h3⟩:=x.ex;show jo K c d _ [some (.ref P)] H;unfold jo;symm;refine fldE (k:=.Puzzle) rfl x.ok h1 (v:=.ref L) (by rfl) ?_;symm;refine mn h3.top fun l hl=>?_;have s1:Same H (upd H l (.lst (rs.map V.ref))):=(Mw H).laid hl;exact q l p rs hl (s1 _ _ h2) ⟨ak,h3.len,fun i r y e1 e2=>(h3.at_ i r y e1 e2).same s1⟩
inductive DRows(w:World)(K:Frag):List DictEntry->List (Str × List Str)->Prop
 | nil:DRows w K [] []
 | cons {hsh:Int} {k:Str} {t:Tok} {q:Addr} {o:Obj} {Mi:Array Value} {n:Nat} {ws:List Str} {es:List DictEntry} {D:List (Str × List Str)}:hsh=hashStr w k->K.lookup q=some o->o.cls=.type "tuple"->o.data=.seq Mi n->Mi.size<=sizeLine->Vals (ws.map V.str) Mi.toList->DRows w K es D->DRows w K (⟨hsh,.str k t,.ref q⟩::es) ((k,ws)::D)
structure GDict(w:World)(K:Frag)(mg:Str->Option Value)(x:Str)(D:List (Str × List Str)):Prop where
 ex:∃(p:Addr) (o:Obj) (es:Array DictEntry) (ep:Nat),mg x=some (.ref p)/\K.lookup p=some o/\o.ExactDict/\o.data=.dict es ep/\DRows w K es.toList D/\(D.map fun x=>x.1).Nodup
theorem DRows.of{P:Program}{w:World}{K:Frag}{es:List DictEntry}{D:List (Str × List Str)}(h:DRows w K es D):
  ∃ Mh:List (Str × Value),Pairs (strKind P w) es Mh/\Mh.map (fun x=>x.1)=D.map (fun x=>x.1)/\(∀ e∈es,∃ k,(strKind P w).is k e.key=true/\e.hash=(strKind P w).hash k)/\
   ∀ k ws,D.lookup k=some ws->∃ q,valueAt Mh k=some (.ref q)/\∃(o:Obj) (Mi:Array Value) (n:Nat),K.lookup q=some o/\o.cls=.type "tuple"/\o.data=.seq Mi n/\Mi.size<=sizeLine/\Vals (ws.map V.str) Mi.toList:=by
 induction h with
 | nil=>exact⟨[],.nil,rfl,fun e he=>(by cases he),fun k ws e=>(by cases e)⟩
 | @cons hsh k t q o Mi n ws es D h1 h2 h3 h4 h5 h6 _ ih=>
  obtain⟨Mh,p1,p2,p3,p4⟩:=ih;have hk:(strKind P w).is k (.str k t)=true:=by show(k==k)=true;simp
  refine⟨(k,.ref q)::Mh,.cons hk rfl p1,by rw[M4,M4,p2],fun e he=>?_,fun k' ws' e=>?_⟩
  . rcases MS.mp he with rfl | he
    . exact⟨k,hk,h1⟩
    . exact p3 e he
  . rw[Nr] at e;unfold valueAt;rw[Oe];by_cases hkk:k'=k
    . subst hkk;simp at e;subst e;refine⟨q,by simp,o,Mi,n,h2,h3,h4,h5,h6⟩
    . have hb:(k'==k)=false:=by simpa using hkk
      rw[hb] at e;have hd:decide (k=k')=false:=Mu (fun z=>hkk z.symm);dsimp only;rw[hd];exact p4 k' ws' e
def tIxG(K:Frag)(D:List (Str × List Str))(te:TE):TE:=fun σ H Q=>te σ H fun y H1=>∃ k ws,y=.str k/\D.lookup k=some ws/\∀ q,SqT K H1 q (ws.map V.str)->Q (.ref q) H1
def rInS(K:Frag):R2:=fun x y H Q=>∃(z:Str) (q:Addr) (ws:List Str),x=.str z/\y=.ref q/\SqT K H q (ws.map V.str)/\Q (.bl (decide (z∈ws))) H
section
variable{X:Cx}{a b:Expr}{ta tb:TE}{pos p:Pos}{x:Str}{D:List (Str × List Str)}
theorem Ia(G:GDict X.w X.K X.mg x D)(hb:PE X b tb)(hg:Gl X x)(hpi:wY b)(hdb:(x==("__debug__":Str))=false:=by decide):PE X (.Subscript (.Name x p) b pos) (tIxG X.K D tb):=by
 obtain⟨pd,o,es,ep,h1,h2,h3,h4,h5,h6⟩:=G.ex;obtain⟨Mh,p1,p2,p3,p4⟩:=h5.of (P:=X.prog)
 have ir:IxR X (fun x y H Q=>x=.ref pd/\∃ k ws,y=.str k/\D.lookup k=some ws/\∀ q,SqT X.K H q (ws.map V.str)->Q (.ref q) H):=by
  intro value slice Md s σ H x y v u Q I rx ry h hs;obtain⟨rfl,k,ws,rfl,hl,q⟩:=h;cases (show v=Value.ref pd from rx);have hget:s.heap.get? pd=some o:=I.kIn pd o h2;have dd:Heap.DictOf (strKind X.prog X.w) s.heap pd Mh:=⟨o,es,ep,hget,h3,h4,fun e he=>p3 e (Array.mem_toList_iff.mpr he),p1,by rw[p2];exact h6⟩;obtain⟨qa,hv,o2,Mi,n,g1,g2,g3,g4,g5⟩:=p4 k ws hl;obtain⟨t,rfl⟩:∃ t,u=Value.str k t:=ry;have hk:(strKind X.prog X.w).is k (.str k t)=true:=by show(k==k)=true;simp
  refine tail_any dd.typeIs Pr.lookup (wpAny_getItem_of hk dd.mapOf hv ?_) hs;exact⟨.ref qa,H,I.tok _,rfl,q qa (.inr ⟨o2,Mi,n,g1,g2,g3,g4,g5⟩)⟩
 have h0:=zA (pos:=pos) ir (cp (pos:=p) (v:=V.ref pd) hg h1 rfl hdb) hb hpi;intro Md s σ H Q I h;refine h0 Md s σ H Q I ?_
 have e:(fun(y:V) (H1:Hp)=>∃ k ws,y=.str k/\D.lookup k=some ws/\∀ q,SqT X.K H1 q (ws.map V.str)->Q (.ref q) H1)=fun y H1=>(V.ref pd=V.ref pd)/\∃ k ws,y=.str k/\D.lookup k=some ws/\∀ q,SqT X.K H1 q (ws.map V.str)->Q (.ref q) H1:=by
  funext y H1;simp
 have h':tb σ H (fun(y:V) (H1:Hp)=>∃ k ws,y=.str k/\D.lookup k=some ws/\∀ q,SqT X.K H1 q (ws.map V.str)->Q (.ref q) H1):=h;rw[e] at h';exact h'
theorem Ib:OpR X (compareOp .In) (rInS X.K):=by
 intro Md s σ H x y v u Q I rx ry h;obtain⟨z,q,ws,rfl,rfl,hq,h⟩:=h;refine ng Md s σ H _ _ v u Q I rx ry ⟨q,ws.map V.str,rfl,.inr hq,rfl,kU ws,?_⟩;rw[mw];exact h
end
section
variable{K:Frag}{σ:St}{H:Hp}{Q:VK}{te:TE}{D:List (Str × List Str)}
theorem I0:tIxG K D te σ H Q=te σ H fun y H1=>∃ k ws,y=.str k/\D.lookup k=some ws/\∀ q,SqT K H1 q (ws.map V.str)->Q (.ref q) H1:=rfl
end
def ws5:String:="aE if_true if_false Bool.false_eq_true decide_true decide_false dN dO je cF bY dL fT dM cE fR fS cD i9 cG cH cJ cK cL cM cI fV fW fX fQ jd Bool.not_true Bool.not_false aE "++ws1
local macro_rules|`(tactic|walk_at "w")=>wk9 ws5
def stB(m s:Int):Bool:=decide (1<=s)&&(decide (s<=((Builtin.Int.intBits m:Nat):Int))&&decide (m/2^(s-1).toNat%2=1))
def dX(K:Frag):Sp:=fun vs H Q _=>∃ m s:Int,vs=[.int m,.int s]/\Q (.bl (stB m s)) H
def rB(K:Frag):TS:=
 (tRet (tAndV (tOp (cCmp fun i j=>decide (i<=j)) (tC (.int 1)) (tVar 1)) (tAndV (tOp (cCmp fun i j=>decide (i<=j)) (tVar 1) (CW K "int" oU (tVar 0))) (tOp (cEq K) (tOp cMod (tOp cShr (tVar 0) (tOp cSub (tVar 1) (tC (.int 1)))) (tC (.int 2))) (tC (.int 1))))))
variable{K:Frag}{vs:List V}{H:Hp}{Q:VK}{E:XK}
theorem EG(h:dX K vs H Q E):rB K (eD9 Q) (start ["mask","sign"] vs) H:=by
 obtain⟨m,s,rfl,q⟩:=h;show rB K _ [some (.int m),some (.int s)] H;unfold rB;symm;unfold stB at q
 cases h1:decide (1<=s) with
 | false=>rw[h1,MQ] at q;exact iteF q
 | true=>
  refine iteT ⟨rfl,?_⟩;symm;rw[h1,MR] at q
  cases h2:decide (s<=((Builtin.Int.intBits m:Nat):Int)) with
  | false=>rw[h2,MQ] at q;exact iteF q
  | true=>
   rw[h2,MR] at q;exact iteT ⟨by have:=MG h1;omega,by decide,q⟩
def kX(K:Frag):Sp:=fun vs H Q _=>∃ s:Int,vs=[.int s]/\1<=s/\s<=100000/\Q (.int (2^(s-1).toNat)) H
def rC(K:Frag):TS:=
 (tSeq (tAsg (tC (.int 1)) (gName 1))
  (tSeq (tFor (gi (tCons (tOp cSub (tVar 0) (tC (.int 1))) tNil)) (gName 2)
  (tAsg (tOp cMul (tVar 1) (tC (.int 2))) (gName 1)))
  (tRet (tVar 1))))
theorem EH(h:kX K vs H Q E):rC K (eD9 Q) (start ["sign","bit","step"] vs) H:=by
 obtain⟨s,rfl,h1,h2,q⟩:=h;show rC K _ [some (.int s),none,none] H;unfold rC;symm;refine⟨s-1,rfl,by omega,by omega,?_⟩;refine nc (fun i σ H'=>∃ sv:Option V,σ=[some (.int s),some (.int (2^i)),sv]/\H'=H) ⟨none,rfl,rfl⟩ ?_ ?_
 . rintro i σ H' hi ⟨sv,rfl,rfl⟩;symm;refine⟨.inr ⟨by decide,by decide⟩,?_⟩;simp[Int.pow_succ]
 . rintro σ H' ⟨sv,rfl,rfl⟩;symm;exact q
def woI(m s:Int):Int:=if stB m s=true then m-2^(s-1).toNat else m
def lW(K:Frag):Sp:=fun vs H Q _=>∃ m s:Int,vs=[.int m,.int s]/\s<=100000/\Q (.int (woI m s)) H
def qg(K:Frag):TS:=
 (tRet (tIf (tB (tCall (dX K) [] E0 (tCons (tVar 0) (tCons (tVar 1) tNil)))) (tOp cSub (tVar 0) (tCall (kX K) [] E0 (tCons (tVar 1) tNil))) (tVar 0)))
theorem Db(h:lW K vs H Q E):qg K (eD9 Q) (start ["mask","sign"] vs) H:=by
 obtain⟨m,s,rfl,h2,q⟩:=h;show qg K _ [some (.int m),some (.int s)] H;unfold qg;symm;refine⟨m,s,rfl,_,rfl,?_⟩;unfold woI at q
 cases hb:stB m s with
 | false=>
  rw[hb,MP ME] at q;exact iteF q
 | true=>
  rw[hb,MU rfl] at q;refine iteT ⟨s,rfl,?_,h2,?_⟩
  . unfold stB at hb;rw[MH,Mx] at hb;exact hb.1
  . symm;exact q
def cj(K:Frag):Sp:=fun vs H Q _=>∃ m s:Int,vs=[.int m,.int s]/\s<=100000/\Q (.bl (decide (woI m s=0))) H
def ot(K:Frag):TS:=
 (tRet (tOp (cEq K) (tCall (lW K) [] E0 (tCons (tVar 0) (tCons (tVar 1) tNil))) (tC (.int 0))))
theorem BN(h:cj K vs H Q E):ot K (eD9 Q) (start ["mask","sign"] vs) H:=by
 obtain⟨m,s,rfl,h2,q⟩:=h;show ot K _ [some (.int m),some (.int s)] H;unfold ot;symm;refine⟨m,s,rfl,h2,?_⟩;symm;exact q
def sgL(m:Int):List Int:=((List.range (Builtin.Int.intBits m)).filter fun(i:Nat)=>stB m (1+(i:Int))).map fun(i:Nat)=>1+(i:Int)
def bz(K:Frag):Sp:=fun vs H Q _=>∃ m:Int,vs=[.int m]/\Builtin.Int.intBits m<=900/\∀ l H',Same H H'->H l=none->H' l=some (.lst ((sgL m).map V.int))->Q (.ref l) H'
def ou(K:Frag):TS:=
 (tRet (tComp [none,none,some 0] (sR (tCons (tC (.int 1)) (tCons (tOp cAdd (CW K "int" oU (tVar 0)) (tC (.int 1))) tNil))) (gName 1) (tB (tCall (dX K) [] E0 (tCons (tVar 2) (tCons (tVar 1) tNil)))) (tVar 1)))
theorem BO(h:bz K vs H Q E):ou K (eD9 Q) (start ["mask"] vs) H:=by
 obtain⟨m,rfl,hb,k⟩:=h;show ou K _ [some (.int m)] H;unfold ou;symm;refine⟨rfl,1,_,rfl,by omega,?_⟩;have en:(((Builtin.Int.intBits m:Nat):Int)+1-1).toNat=Builtin.Int.intBits m:=by omega
 rw[en];refine oh (fun(i:Nat)=>stB m (1+(i:Int))) (fun(i:Nat)=>1+(i:Int)) hb ?_ ?_ ?_
 . intro i H1 R hi s1 k1;show tB _ [none,some (.int (1+(i:Int))),some (.int m)] H1 R;symm;exact⟨m,_,rfl,_,rfl,k1 _ (Mw _)⟩
 . intro i H1 Q1 hi hb s1 k1;exact k1 _ (Mw _)
 . intro l H1 hl s1 el;exact k l H1 s1 hl el
local macro_rules|`(tactic|walk_at "w")=>wk9 ws4
inductive TK where
 | clue | only | place | count | step | sum | square | reach | turn | pair | ways
 deriving DecidableEq
def tkC:TK->List Nat
 | .clue=>[99,108,117,101]
 | .only=>[111,110,108,121]
 | .place=>[112,108,97,99,101]
 | .count=>[99,111,117,110,116]
 | .step=>[115,116,101,112]
 | .sum=>[115,117,109]
 | .square=>[115,113,117,97,114,101]
 | .reach=>[114,101,97,99,104]
 | .turn=>[116,117,114,110]
 | .pair=>[112,97,105,114]
 | .ways=>[119,97,121,115]
def bu:List Str:=[tx [99,108,117,101],tx [111,110,108,121],tx [112,108,97,99,101],tx [99,111,117,110,116],tx [115,116,101,112],tx [115,117,109],tx [115,113,117,97,114,101],tx [114,101,97,99,104],tx [116,117,114,110],tx [112,97,105,114],tx [119,97,121,115]]
def ie:List Str:=[tx [99,108,117,101],tx [111,110,108,121],tx [112,108,97,99,101],tx [115,116,101,112],tx [112,97,105,114]]
def fJ:List Str:=[tx [99,111,117,110,116],tx [115,117,109],tx [119,97,121,115]]
def gd_RULES_OF_KIND:List (Str × List Str):=[(tx [111,110,108,121],[tx [117,110,108,105,107,101]]),(tx [112,108,97,99,101],[tx [117,110,108,105,107,101]]),(tx [99,111,117,110,116],[tx [99,111,117,110,116]]),(tx [115,116,101,112],[tx [114,105,115,105,110,103]]),(tx [115,117,109],[tx [115,117,109]]),(tx [115,113,117,97,114,101],[tx [110,111,115,113,117,97,114,101]]),(tx [114,101,97,99,104],[tx [106,111,105,110,101,100],tx [114,105,110,103]]),(tx [116,117,114,110],[tx [114,105,110,103]]),(tx [112,97,105,114],[tx [117,110,108,105,107,101]])]
def wsOf:TK->List Str
 | .only=>[tx [117,110,108,105,107,101]]
 | .place=>[tx [117,110,108,105,107,101]]
 | .count=>[tx [99,111,117,110,116]]
 | .step=>[tx [114,105,115,105,110,103]]
 | .sum=>[tx [115,117,109]]
 | .square=>[tx [110,111,115,113,117,97,114,101]]
 | .reach=>[tx [106,111,105,110,101,100],tx [114,105,110,103]]
 | .turn=>[tx [114,105,110,103]]
 | .pair=>[tx [117,110,108,105,107,101]]
 | _=>[]
def goesB:TK->RK->Bool
 | .ways,_=>true
 | .only,.Unlike=>true
 | .place,.Unlike=>true
 | .count,.Count=>true
 | .step,.Rising=>true
 | .sum,.Sum=>true
 | .square,.NoSquare=>true
 | .reach,.Joined=>true
 | .reach,.Ring=>true
 | .turn,.Ring=>true
 | .pair,.Unlike=>true
 | _,_=>false
def lineK:TK->Bool
 | .clue=>true
 | .only=>true
 | .place=>true
 | .step=>true
 | .pair=>true
 | _=>false
def nbrK:TK->Bool
 | .count=>true
 | .sum=>true
 | .ways=>true
 | _=>false
theorem FJ(t:TK):decide (tx (tkC t)∈bu)=true:=by cases t <;> decide+kernel
theorem GL(t:TK):decide (tx (tkC t)∈ie)=lineK t:=by cases t <;> decide+kernel
theorem Ic(t:TK):decide (tx (tkC t)∈fJ)=nbrK t:=by cases t <;> decide+kernel
variable{t:TK}
theorem Ja(h1:t≠.clue)(h2:t≠.ways):gd_RULES_OF_KIND.lookup (tx (tkC t))=some (wsOf t):=by
 cases t <;> first | exact absurd rfl h1 | exact absurd rfl h2 | decide+kernel
theorem GM(h2:t≠.ways)(k:RK):decide (tx (nmC k)∈wsOf t)=goesB t k:=by
 cases t <;> first | exact absurd rfl h2 | (cases k <;> decide+kernel)
theorem GN(t:TK):decide (tkC t=[119,97,121,115])=decide (t=.ways):=by cases t <;> decide
theorem sY(t:TK):decide (tkC t=[99,108,117,101])=decide (t=.clue):=by cases t <;> decide
theorem Cp(t:TK):decide (tkC t=[111,110,108,121])=decide (t=.only):=by cases t <;> decide
def lX(K:Frag):Sp:=fun vs H Q _=>∃(p:Addr) (h w g i:Int),vs=[.ref p,.int i]/\IsFl H p h w g/\FlOk h w g/\Q (.bl (decide (0<=i)&&decide (i<h*w))) H
def qh(K:Frag):TS:=
 (tRet (tAndV (tCall (dz K) [] E0 (tCons (tVar 1) tNil)) (tAndV (tOp (cCmp fun i j=>decide (i<=j)) (tC (.int 0)) (tVar 1)) (tOp (cCmp fun i j=>decide (i<j)) (tVar 1) (tCall (bP K) [] E0 (tCons (tVar 0) tNil))))))
variable{K:Frag}{vs:List V}{H:Hp}{Q:VK}{E:XK}
theorem Dc(h:lX K vs H Q E):qh K (eD9 Q) (start ["floor","value"] vs) H:=by
 obtain⟨p,h,w,g,i,rfl,hp,F,q⟩:=h;show qh K _ [some (.ref p),some (.int i)] H;unfold qh;symm;refine⟨i,rfl,⟨true,rfl,iteT ?_⟩⟩;symm
 cases hb:decide (0<=i) with
 | false=>
  rw[hb,MQ] at q;exact iteF q
 | true=>
  rw[hb,MR] at q;refine iteT ?_;symm;refine⟨p,h,w,g,rfl,hp,F.h0,F.h1,?_⟩;symm;exact q
def lY(K:Frag):Sp:=fun vs H Q _=>∃(p:Addr) (h w g i:Int),vs=[.ref p,.int i]/\IsFl H p h w g/\Q (.bl (decide (1<=i)&&decide (i<=g))) H
def qi(K:Frag):TS:=
 (tRet (tCall (bO K) [] E0 (tCons (tVar 1) (tCons (tOp cIx (tVar 0) (tC (.int 2))) tNil))))
theorem Dd(h:lY K vs H Q E):qi K (eD9 Q) (start ["floor","value"] vs) H:=by
 obtain⟨p,h,w,g,i,rfl,hp,q⟩:=h;show qi K _ [some (.ref p),some (.int i)] H;unfold qi;symm;refine ixT hp (v:=V.int g) rfl ?_;symm;exact⟨i,g,rfl,q⟩
def lZ(K:Frag)(c:RCl RK):Sp:=fun vs H Q _=>∃(t:TK) (k:RK) (r p:Addr) (ws:List (List Nat)) (cs:List Int) (n m:Int),vs=[.str (tx (tkC t)),.ref r]/\t≠.clue/\IsRule H c k r p (nmC k::ws) cs n m/\Q (.bl (goesB t k)) H
def qj(K:Frag)(c:RCl RK):TS:=
 (tRet (tOrV (tOp (cEq K) (tVar 0) (tC (.str (tx [119,97,121,115])))) (tOp (rInS K) (aD c c.ok "name" (xh K c) (tVar 1) tNil) (tIxG K gd_RULES_OF_KIND (tVar 0)))))
variable{c:RCl RK}
theorem Df(h:lZ K c vs H Q E):qj K c (eD9 Q) (start ["kind","rule"] vs) H:=by
 obtain⟨t,k,r,p,ws,cs,n,m,rfl,t0,x,q⟩:=h;obtain⟨dx,W,C,h1,h2,h3⟩:=x.ex;show qj K c _ [some (.str (tx (tkC t))),some (.ref r)] H;unfold qj;symm;rw[bn,GN];by_cases hw:t=.ways
 . subst hw;rw[Mv rfl];exact iteT q
 . rw[Mu hw];refine iteF ?_;refine methE (k:=k) rfl x.ok h1 (by rfl) ?_;symm;refine⟨r,p,nmC k,ws,cs,n,m,rfl,x,?_⟩;dsimp only;rw[I0];symm;refine⟨_,_,rfl,Ja t0 hw,fun qa hq=>?_⟩;refine⟨_,qa,_,rfl,rfl,hq,?_⟩;rw[GM hw];exact q
def bE(K:Frag)(c:RCl RK):Sp:=fun vs H Q _=>∃(k:RK) (r p:Addr) (ws:List (List Nat)) (cs:List Int) (n m z:Int),vs=[.ref r,.int z]/\IsRule H c k r p ws cs n m/\cs.length<=63/\∀ l H',Same H H'->H l=none->H' l=some (.lst ((cs.filter fun x=>!decide (x=z)).map V.int))->Q (.ref l) H'
def rD(K:Frag)(c:RCl RK):TS:=
 (tRet (tComp [none,none,some 1] (iList K (aD c c.ok "spots" (d0 K c) (tVar 0) tNil)) (gName 1) (tTest (tOp (cNe K) (tVar 1) (tVar 2))) (tVar 1)))
theorem EI(h:bE K c vs H Q E):rD K c (eD9 Q) (start ["rule","cell"] vs) H:=by
 obtain⟨k,r,p,ws,cs,n,m,z,rfl,x,hn,q⟩:=h;obtain⟨dx,W,C,h1,h2,h3⟩:=x.ex;show rD K c _ [some (.ref r),some (.int z)] H;unfold rD;rw[cR,bD];refine methE (k:=k) rfl x.ok h1 (by rfl) ?_;symm;refine⟨r,p,ws,cs,n,m,rfl,x,fun l hl=>?_⟩;obtain⟨H1,z9,s1,el⟩:=aY (.lst (cs.map V.int)) hl;rw[z9];refine⟨l,rfl,⟨_,MO el⟩,?_⟩;refine aX (xs:=cs) (fun x=>!decide (x=z)) (fun x=>x) (by omega) (MO el) ?_ ?_ ?_
 . intro y H2 R hy s2 k2;show tTest _ [none,some (.int y),some (.int z)] H2 R;symm;exact k2 _ (Mw _)
 . intro y H2 Q2 hy hb s2 k2;show tVar 1 [none,some (.int y),some (.int z)] H2 Q2;symm;exact k2 _ (Mw _)
 . intro T H2 hT s2 eT;rw[NN] at eT;exact q T H2 (s1.trans s2) (s1.free hT) eT
def hitB(t:TK)(Mf:List RR)(r z:Int):Bool:=if r<0 then false else if t=.clue then decide (r=0) else match Mf[r.toNat]? with
 | none=>false
 | some x=>goesB t x.k&&decide (z∈x.cs)
def jp(K:Frag)(c:RCl RK)(d:RCl PzK):Sp:=fun vs H Q _=>∃(t:TK) (P L G:Addr) (h w g r z:Int) (Mf:List RR) (cl:List Int),vs=[.ref P,.str (tx (tkC t)),.int r,.int z]/\IsPz H c d P L G h w g Mf cl/\∀ H',Same H H'->Q (.bl (hitB t Mf r z)) H'
def jq(K:Frag)(c:RCl RK)(d:RCl PzK):TS:=
 (tSeq (tIfS (tOr (tNot (tB (tCall (dz K) [] E0 (tCons (tVar 2) tNil)))) (tTest (tOp (cCmp fun i j=>decide (i<j)) (tVar 2) (tC (.int 0))))) (tRet (tC (.bl false))) tNext)
  (tSeq (tIfS (tTest (tOp (cEq K) (tVar 1) (tC (.str (tx [99,108,117,101]))))) (tRet (tOp (cEq K) (tVar 2) (tC (.int 0)))) tNext)
  (tSeq (tAsg (aD d d.ok "rules" (cO K c d) (tVar 0) tNil) (gName 4))
  (tSeq (tIfS (tTest (tOp (cCmp fun i j=>decide (j<=i)) (tVar 2) (tCB kLen (tCons (tVar 4) tNil)))) (tRet (tC (.bl false))) tNext)
  (tRet (tAndV (tCall (lZ K c) [] E0 (tCons (tVar 1) (tCons (tOp cIx (tVar 4) (tVar 2)) tNil))) (tOp (cIn K false) (tVar 3) (aD c c.ok "spots" (d0 K c) (tOp cIx (tVar 4) (tVar 2)) tNil))))))))
theorem RR.ws_cons(r:RR):∃ t,r.ws=nmC r.k::t:=⟨_,rfl⟩
variable{d:RCl PzK}
theorem vJ(h:jp K c d vs H Q E):jq K c d (eD9 Q) (start ["puzzle","kind","number","cell","rules"] vs) H:=by
 obtain⟨t,P,L,G,h,w,g,r,z,Mf,cl,rfl,x,q⟩:=h;obtain⟨dx,p,rs,h1,h2,h3⟩:=x.ex;have hN:=x.R.F.m;show jq K c d _ [some (.ref P),some (.str (tx (tkC t))),some (.int r),some (.int z),none] H;unfold jq;rw[aE,aA];symm;refine⟨r,rfl,⟨true,rfl,iteF ?_⟩⟩;symm;unfold hitB at q;by_cases hr:r<0
 . rw[MU hr] at q;rw[Mv hr];exact iteT (q _ (Mw _))
 rw[MP hr] at q;rw[Mu hr];refine iteF ?_;rw[aA];symm;rw[bn,sY];by_cases ht:t=.clue
 . rw[MU ht] at q;rw[Mv ht];exact iteT (q _ (Mw _))
 rw[MP ht] at q;rw[Mu ht];refine iteF ?_;refine methE (k:=.Puzzle) rfl x.ok h1 (by rfl) ?_;symm;refine⟨P,L,G,h,w,g,Mf,cl,rfl,x,fun l p2 rs2 hl hp2 X=>?_⟩;have s1:Same H (upd H l (.lst (rs2.map V.ref))):=(Mw H).laid hl;generalize upd H l (.lst (rs2.map V.ref))=H1 at*;have Mn:=X.len;symm;rw[aA];symm;rw[bc X.top,Mr,Mn];symm;by_cases hge:(Mf.length:Int)<=r
 . rw[Mv hge];have e:Mf[r.toNat]? =none:=M7 (by omega);rw[e] at q;exact iteT (q _ s1)
 rw[Mu hge];have hlt:r.toNat<Mf.length:=by omega
 have er:Mf[r.toNat]? =some Mf[r.toNat]:=Mt hlt;rw[er] at q;have ea:rs2[r.toNat]? =some rs2[r.toNat]:=Mt (by omega);have X1:=X.at_ _ _ _ ea er;obtain⟨ws,ews⟩:=RR.ws_cons Mf[r.toNat];rw[ews] at X1;have eix:atI (rs2.map V.ref) r=some (V.ref rs2[r.toNat]):=fU (by omega) ea;refine iteF ?_;refine ixL X.top eix ?_;symm;refine⟨t,_,_,p2,ws,_,_,_,rfl,ht,X1,?_⟩;dsimp only at q
 cases hg:goesB t Mf[r.toNat].k with
 | false=>
  rw[hg,MQ] at q;exact⟨false,rfl,iteF (q _ s1)⟩
 | true=>
  rw[hg,MR] at q;refine⟨true,rfl,iteT ?_⟩;unfold aD;symm;obtain⟨dx1,W1,C1,g1,g2,g3⟩:=X1.ex;refine ixL X.top eix ?_;refine⟨_,Mf[r.toNat].k,dx1,_,rfl,X1.ok,g1,by rfl,?_⟩;refine⟨_,p2,_,_,_,_,rfl,X1,fun S hS=>?_⟩;have s2:Same H1 (upd H1 S (.lst (Mf[r.toNat].cs.map V.int))):=(Mw H1).laid hS;have eS:(upd H1 S (.lst (Mf[r.toNat].cs.map V.int))) S=some (.lst (Mf[r.toNat].cs.map V.int)):=ak;dsimp only;rw[rd eS];exact q _ (s1.trans s2)
structure IsTh(H:Hp)(T M:Addr)(t:TK)(r z s:Int)(ms:List Int):Prop where
 T:H T=some (.tup [.str (tx (tkC t)),.int r,.int z,.int s,.ref M])
 M:H M=some (.lst (ms.map V.int))
 n:ms.length<=100
variable{r z s:Int}{ms:List Int}
theorem IsTh.same{H':Hp}{T M:Addr}(x:IsTh H T M t r z s ms)(s':Same H H'):IsTh H' T M t r z s ms:=⟨s' _ _ x.T,s' _ _ x.M,x.n⟩
def formB(h w g:Int)(Mf:List RR)(t:TK)(r z s:Int):Bool:=(decide (0<=z)&&decide (z<h*w))&&((decide (1<=s)&&decide (s<=g))&&hitB t Mf r z)
def mK(K:Frag)(c:RCl RK)(d:RCl PzK):Sp:=fun vs H Q _=>∃(t:TK) (P L G T M:Addr) (h w g r z s:Int) (Mf:List RR) (cl ms:List Int),vs=[.ref P,.ref T]/\IsPz H c d P L G h w g Mf cl/\IsTh H T M t r z s ms/\∀ H',Same H H'->Q (.bl (formB h w g Mf t r z s)) H'
def jr(K:Frag)(c:RCl RK)(d:RCl PzK):TS:=
 (tRet (tAndV (tCB kIsi (tCons (tOp cIx (tVar 1) (tC (.int 4))) (tCons (tC (.ty "list")) tNil))) (tCB kAll (tCons (tComp [none,none] (iList K (tOp cIx (tVar 1) (tC (.int 4)))) (gName 1) tTrue (tCall (dz K) [] E0 (tCons (tVar 1) tNil))) tNil))))
def mL(K:Frag)(c:RCl RK)(d:RCl PzK):TS:=
 (tSeq (tIfS (tOr (tNot (tB (tCB kIsi (tCons (tVar 1) (tCons (tC (.ty "tuple")) tNil))))) (tOr (tTest (tOp (cNe K) (tCB kLen (tCons (tVar 1) tNil)) (tC (.int 5)))) (tB (tInG bu true (tOp cIx (tVar 1) (tC (.int 0))))))) (tRet (tC (.bl false))) tNext)
  (tSeq (tAsg (aD d d.ok "place" (d3 K c d) (tVar 0) tNil) (gName 2))
  (tSeq (tIfS (tOr (tNot (tB (tCall (lX K) [] E0 (tCons (tVar 2) (tCons (tOp cIx (tVar 1) (tC (.int 2))) tNil))))) (tNot (tB (tCall (lY K) [] E0 (tCons (tVar 2) (tCons (tOp cIx (tVar 1) (tC (.int 3))) tNil)))))) (tRet (tC (.bl false))) tNext)
  (tSeq (tIfS (tNot (tB (tCall (jp K c d) [] E0 (tCons (tVar 0) (tCons (tOp cIx (tVar 1) (tC (.int 0))) (tCons (tOp cIx (tVar 1) (tC (.int 1))) (tCons (tOp cIx (tVar 1) (tC (.int 2))) tNil))))))) (tRet (tC (.bl false))) tNext)
  (jr K c d)))))
theorem vK{P T M:Addr}{v2:Option V}(x:IsTh H T M t r z s ms)(q:∀ H',Same H H'->Q (.bl true) H'):
  jr K c d (eD9 Q) [some (.ref P),some (.ref T),v2] H:=by
 have hn:=x.n;unfold jr;symm;refine ixT x.T (v:=V.ref M) rfl ?_;symm;refine z8 x.M ?_;symm;refine ixT x.T (v:=V.ref M) rfl ?_;symm;refine⟨⟨_,MO x.M⟩,?_⟩;refine bT (xs:=ms.map V.int) (fun _=>true) (fun _=>.bl true) (by rw[Mr];omega) (MO x.M) ?_ ?_ ?_
 . intro i y H1 R hy s1 k1;exact k1 _ (Mw _)
 . intro i y H1 Q1 hy hb s1 k1;obtain⟨v,hv,rfl⟩:=aQ hy;show tCall _ _ _ _ [none,some (.int v)] H1 Q1;symm;exact⟨v,rfl,k1 _ (Mw _)⟩
 . intro l H1 hl s1 el
   have eb:((List.range (ms.map V.int).length).filter fun _=>true).map (fun _=>V.bl true)=(List.replicate (ms.map V.int).length true).map V.bl:=by
    rw[aZ,List.map_const',Nv,Pp]
   rw[eb] at el;refine lS el ?_
   have ea:(List.replicate (ms.map V.int).length true).all id=true:=by
    rw[MC];intro b hb;exact(OJ.mp hb).2
   rw[ea];exact q _ s1
theorem Ap(h:mK K c d vs H Q E):mL K c d (eD9 Q) (start ["puzzle","thought","floor"] vs) H:=by
 obtain⟨t,P,L,G,T,M,h,w,g,r,z,s,Mf,cl,ms,rfl,x,y,q⟩:=h;obtain⟨dx,p,rs,h1,h2,h3⟩:=x.ex;show mL K c d _ [some (.ref P),some (.ref T),none] H;unfold mL;rw[aE,aA];symm;refine Aa y.T ?_;symm;rw[zY y.T,show(([.str (tx (tkC t)),.int r,.int z,.int s,.ref M]:List V).length:Int)=5 from rfl];symm;refine ixT y.T (v:=V.str (tx (tkC t))) rfl ?_;symm;rw[FJ];symm;refine methE (k:=.Puzzle) rfl x.ok h1 (by rfl) ?_;symm;refine⟨P,L,G,h,w,g,Mf,cl,rfl,x,fun p1 hp1=>?_⟩;symm;rw[aA];symm;refine ixT y.T (v:=V.int z) rfl ?_;symm;refine⟨p1,h,w,g,z,rfl,hp1,x.R.F,?_⟩;unfold formB at q
 cases hb:(decide (0<=z)&&decide (z<h*w)) with
 | false=>
  rw[hb,MQ] at q;exact⟨false,rfl,iteT (q _ (Mw _))⟩
 | true=>
  rw[hb,MR] at q;refine⟨true,rfl,iteF ?_⟩;refine ixT y.T (v:=V.int s) rfl ?_;symm;refine⟨p1,h,w,g,s,rfl,hp1,?_⟩
  cases hb2:(decide (1<=s)&&decide (s<=g)) with
  | false=>
   rw[hb2,MQ] at q;exact⟨false,rfl,iteT (q _ (Mw _))⟩
  | true=>
   rw[hb2,MR] at q;refine⟨true,rfl,iteF ?_⟩;rw[aA];symm;refine ixT y.T (v:=V.str (tx (tkC t))) rfl ?_;symm;refine ixT y.T (v:=V.int r) rfl ?_;symm;refine ixT y.T (v:=V.int z) rfl ?_;symm;refine⟨t,P,L,G,h,w,g,r,z,Mf,cl,rfl,x,fun H1 s1=>?_⟩
   cases hb3:hitB t Mf r z with
   | false=>
    rw[hb3] at q;exact⟨false,rfl,iteT (q _ s1)⟩
   | true=>
    rw[hb3] at q;refine⟨true,rfl,iteF ?_⟩;exact vK (y.same s1) fun H' s2=>q H' (s1.trans s2)
theorem EJ{k:RK}{h w g:Int}{m:Nat}(hk:allK k=true)(k0:k≠.Rule)(hn:numK k=false)(hs:sgnK k=true)(m0:1<=(m:Int))(m1:(m:Int)<=g):RR.Ok ⟨k,0,m,[],rngL 0 (h*w)⟩ h w g:=by
 refine⟨k0,Nu _,fun _=>rfl,fun _=>⟨m0,m1⟩,fun e=>?_,⟨fun e=>?_,fun _=>⟨rfl,rfl⟩⟩,fun x hx=>(by cases hx),Nu _⟩
 . rw[show sgnK k=false from e] at hs;cases hs
 . rw[show allK k=false from e] at hk;cases hk
theorem EK{p:Addr}{i:Int}{ns:List Int}(h:H p=some (.tup (ns.map V.int))):cIn K false (.int i) (.ref p) H Q=Q (.bl (decide (i∈ns))) H:=by
 unfold cIn;dsimp only;rw[h];dsimp only[unD,unS,bnd];rw[p5,ni];simp[flatV]
def clueB(cl:List Int)(z s:Int)(ms:List Int):Bool:=decide (ms=[])&&(!decide (cl.getD z.toNat 0=0)&&!decide (cl.getD z.toNat 0=s))
def js(K:Frag):Sp:=fun vs H Q _=>∃(C M:Addr) (z s:Int) (cl ms:List Int),vs=[.ref C,.int z,.int s,.ref M]/\H C=some (.lst (cl.map V.int))/\0<=z/\z<cl.length/\H M=some (.lst (ms.map V.int))/\∀ H',Same H H'->Q (.bl (clueB cl z s ms)) H'
def jt(K:Frag):TS:=
 (tRet (tAndV (tOp (cEq K) (tVar 3) (tLst tNil)) (tAndV (tOp (cNe K) (tOp cIx (tVar 0) (tVar 1)) (tC (.int 0))) (tOp (cNe K) (tOp cIx (tVar 0) (tVar 1)) (tVar 2)))))
theorem vL(h:js K vs H Q E):jt K (eD9 Q) (start ["clues","cell","sign","more"] vs) H:=by
 obtain⟨C,M,z,s,cl,ms,rfl,hC,z0,z1,hM,q⟩:=h;show jt K _ [some (.ref C),some (.int z),some (.int s),some (.ref M)] H;unfold jt;symm;refine⟨aR (by decide),fun l hl=>?_⟩;obtain⟨H1,z9,s1,el⟩:∃ z,upd H l (.lst [])=z/\Same H z/\z l=some (.lst (([]:List Int).map V.int)):=aY _ hl;rw[z9];refine vm (s1 _ _ hM) el ?_;have q1:=q _ s1;unfold clueB at q1
 cases hb:decide (ms=[]) with
 | false=>
  rw[hb,MQ] at q1;exact⟨false,rfl,iteF q1⟩
 | true=>
  rw[hb,MR] at q1;refine⟨true,rfl,iteT ?_⟩;symm;refine ixI (s1 _ _ hC) z0 z1 ?_;symm
  cases hb2:decide (cl.getD z.toNat 0=0) with
  | true=>
   rw[hb2,Oa,MQ] at q1;exact iteF q1
  | false=>
   rw[hb2,Oc,MR] at q1;refine iteT ?_;refine ixI (s1 _ _ hC) z0 z1 ?_;symm;exact q1
def onlyB(cs Mc:List Int)(z s:Int)(ms:List Int):Bool:=decide (ms.length=1)&&(decide (ms.getD 0 0∈cs.filter fun x=>!decide (x=z))&&decide (woI (Mc.getD (ms.getD 0 0).toNat 0) s=0))
def ju(K:Frag)(c:RCl RK):Sp:=fun vs H Q _=>∃(k:RK) (r p A M:Addr) (ws:List (List Nat)) (cs Mc ms:List Int) (n m z s:Int),vs=[.ref r,.ref A,.int z,.int s,.ref M]/\IsRule H c k r p ws cs n m/\aN cs Mc.length/\H A=some (.lst (Mc.map V.int))/\H M=some (.lst (ms.map V.int))/\s<=1000/\∀ H',Same H H'->Q (.bl (onlyB cs Mc z s ms)) H'
def jv(K:Frag)(c:RCl RK):TS:=
 (tRet (tAndV (tOp (cEq K) (tCB kLen (tCons (tVar 4) tNil)) (tC (.int 1))) (tAndV (tOp (cIn K false) (tOp cIx (tVar 4) (tC (.int 0))) (tCall (bE K c) [] E0 (tCons (tVar 0) (tCons (tVar 2) tNil)))) (tCall (cj K) [] E0 (tCons (tOp cIx (tVar 1) (tOp cIx (tVar 4) (tC (.int 0)))) (tCons (tVar 3) tNil))))))
theorem vM(h:ju K c vs H Q E):jv K c (eD9 Q) (start ["rule","masks","cell","sign","more"] vs) H:=by
 obtain⟨k,r,p,A,M,ws,cs,Mc,ms,n,m,z,s,rfl,x,hC,hA,hM,hs,q⟩:=h;show jv K c _ [some (.ref r),some (.ref A),some (.int z),some (.int s),some (.ref M)] H;unfold jv;symm;rw[bc hM,Mr];symm;unfold onlyB at q
 have e1:decide ((ms.length:Int)=1)=decide (ms.length=1):=by
  rw[MZ,Mx,Mx];omega
 rw[e1]
 cases hb:decide (ms.length=1) with
 | false=>
  rw[hb,MQ] at q;exact iteF (q _ (Mw _))
 | true=>
  rw[hb,MR] at q;have hl:=MG hb;refine iteT ?_;refine ixI hM (by decide) (by omega) ?_;rw[show(0:Int).toNat=0 from rfl];symm;refine⟨k,r,p,ws,cs,n,m,z,rfl,x,hC.1,fun l H1 s1 hl1 el=>?_⟩;dsimp only;rw[rd el]
  cases hb2:decide (ms.getD 0 0∈cs.filter fun x=>!decide (x=z)) with
  | false=>
   rw[hb2,MQ] at q;exact⟨false,rfl,iteF (q _ s1)⟩
  | true=>
   rw[hb2,MR] at q;have hm:=MK.mp (MG hb2);have hc:=hC.2 _ hm.1;refine⟨true,rfl,iteT ?_⟩;symm;refine ixI (s1 _ _ hM) (by decide) (by omega) ?_;rw[show(0:Int).toNat=0 from rfl];symm;refine ixI (s1 _ _ hA) hc.1 hc.2 ?_;symm;exact⟨_,s,rfl,by omega,q _ s1⟩
theorem RR.cin22{r:RR}{h w g:Int}(O:r.Ok h w g)(F:FlOk h w g):aN r.cs (h*w).toNat:=by
 obtain⟨h0,h1,w0,w1,m16,g0,g1⟩:=id F;have mpos:0<=h*w:=OA (by omega) (by omega)
 cases hk:allK r.k with
 | false=>
  obtain⟨c1,c2,c3,c4,e⟩:=O.cl.told hk;rw[e];refine⟨by rw[Mr];omega,fun c hc=>?_⟩;obtain⟨n,hn,rfl⟩:=MJ.mp hc;have:=c3 n hn;omega
 | true=>
  obtain⟨_,e⟩:=O.cl.all hk;rw[e];refine⟨by rw[j9];omega,fun c hc=>?_⟩;have:=xp hc;omega
abbrev O7:=@RR.cin22
structure Asks(H:Hp)(c:RCl RK)(d:RCl PzK)(P L G A T M:Addr)(h w g:Int)(Mf:List RR)(cl Mc:List Int)(t:TK)(r z s:Int)(ms:List Int):Prop where
 P:IsPz H c d P L G h w g Mf cl
 T:IsTh H T M t r z s ms
 A:H A=some (.lst (Mc.map V.int))
 n:Mc.length=(h*w).toNat
variable{Mf:List RR}
theorem Asks.same{H':Hp}{P L G A T M:Addr}{h w g:Int}{cl Mc:List Int}(x:Asks H c d P L G A T M h w g Mf cl Mc t r z s ms)(s':Same H H'):Asks H' c d P L G A T M h w g Mf cl Mc t r z s ms:=⟨x.P.same s',x.T.same s',s' _ _ x.A,x.n⟩
theorem dY{h w g:Int}(f:formB h w g Mf t r z s=true):0<=z/\z<h*w/\1<=s/\s<=g/\hitB t Mf r z=true:=by
 unfold formB at f;simp only[MH,Mx] at f;exact⟨f.1.1,f.1.2,f.2.1.1,f.2.1.2,f.2.2⟩
theorem oY(ht:t≠.clue)(f:hitB t Mf r z=true):0<=r/\∃ x,Mf[r.toNat]? =some x/\goesB t x.k=true/\z∈x.cs:=by
 unfold hitB at f;by_cases hr:r<0
 . rw[MU hr] at f;cases f
 rw[MP hr,MP ht] at f
 cases e:Mf[r.toNat]? with
 | none=>rw[e] at f;cases f
 | some x=>
  rw[e] at f;simp only[MH,Mx] at f;exact⟨by omega,x,rfl,f.1,f.2⟩
def bU(K:Frag):Sp:=fun vs H Q _=>∃(A C:Addr) (Mc cs:List Int),vs=[.ref A,.ref C]/\H A=some (.lst (Mc.map V.int))/\H C=some (.lst (cs.map V.int))/\aN cs Mc.length/\∀ l H',Same H H'->H l=none->H' l=some (.lst ((sgAt Mc cs).map V.int))->Q (.ref l) H'
def ow(K:Frag):TS:=
 (tRet (tComp [none,none,some 0] (iList K (tVar 1)) (gName 1) tTrue (tOp cIx (tVar 2) (tVar 1))))
theorem BP(h:bU K vs H Q E):ow K (eD9 Q) (start ["masks","cells"] vs) H:=by
 obtain⟨A,C,Mc,cs,rfl,hA,hC,⟨hn,hc⟩,q⟩:=h;show ow K _ [some (.ref A),some (.ref C)] H;unfold ow;symm;refine⟨⟨_,MO hC⟩,?_⟩;refine aX (xs:=cs) (fun _=>true) (fun c=>Mc.getD c.toNat 0) (by omega) (MO hC) ?_ ?_ ?_
 . intro x H1 R hx s1 k1;exact k1 _ (Mw _)
 . intro z H1 Q1 hz hb s1 k1;show tOp cIx _ _ [none,some (.int z),some (.ref A)] H1 Q1;symm;have:=hc z hz;exact ixI (s1 _ _ hA) this.1 (by omega) (k1 _ (Mw _))
 . intro l H1 hl s1 el;rw[aZ] at el;exact q l H1 s1 hl el
def eX(K:Frag):Sp:=fun vs H Q _=>∃(C:Addr) (ms:List Int) (s:Int),vs=[.ref C,.int s]/\H C=some (.lst (ms.map V.int))/\ms.length<=63/\∀ H',Same H H'->Q (.int ((ms.filter fun m=>stB m s).length:Nat)) H'
def ox(K:Frag):TS:=
 (tRet (tCB kLen (tCons (tComp [none,none,some 1] (iList K (tVar 0)) (gName 1) (tB (tCall (dX K) [] E0 (tCons (tVar 1) (tCons (tVar 2) tNil)))) (tVar 1)) tNil)))
theorem BQ(h:eX K vs H Q E):ox K (eD9 Q) (start ["some","sign"] vs) H:=by
 obtain⟨C,ms,s,rfl,hC,hn,q⟩:=h;show ox K _ [some (.ref C),some (.int s)] H;unfold ox;symm;refine⟨⟨_,MO hC⟩,?_⟩;refine aX (xs:=ms) (fun m=>stB m s) (fun m=>m) (by omega) (MO hC) ?_ ?_ ?_
 . intro x H1 R hx s1 k1;show tB _ [none,some (.int x),some (.int s)] H1 R;symm;exact⟨x,s,rfl,_,rfl,k1 _ (Mw _)⟩
 . intro z H1 Q1 hz hb s1 k1;show tVar 1 [none,some (.int z),some (.int s)] H1 Q1;symm;exact k1 _ (Mw _)
 . intro l H1 hl s1 el;rw[NN] at el;rw[bc el,Mr];exact q _ s1
def vN(g:Int)(cs Mc:List Int)(z s:Int)(ms:List Int):Bool:=decide ((cs.length:Int)=g)&&(decide (ms.length=1)&&(!decide (ms.getD 0 0=s)&&((decide (1<=ms.getD 0 0)&&decide (ms.getD 0 0<=g))&&decide (((sgAt Mc (cs.filter fun x=>!decide (x=z))).filter fun m=>stB m (ms.getD 0 0)).length=0))))
def iu(K:Frag)(c:RCl RK):Sp:=fun vs H Q _=>∃(k:RK) (f r p A M:Addr) (ws:List (List Nat)) (cs Mc ms:List Int) (n m z s h w g:Int),vs=[.ref f,.ref r,.ref A,.int z,.int s,.ref M]/\IsFl H f h w g/\IsRule H c k r p ws cs n m/\aN cs Mc.length/\H A=some (.lst (Mc.map V.int))/\H M=some (.lst (ms.map V.int))/\∀ H',Same H H'->Q (.bl (vN g cs Mc z s ms)) H'
def e5(K:Frag)(c:RCl RK):TS:=
 (tRet (tOp (cEq K) (tCall (eX K) [] E0 (tCons (tCall (bU K) [] E0 (tCons (tVar 2) (tCons (tCall (bE K c) [] E0 (tCons (tVar 1) (tCons (tVar 3) tNil))) tNil))) (tCons (tOp cIx (tVar 5) (tC (.int 0))) tNil))) (tC (.int 0))))
def jV(K:Frag)(c:RCl RK):TS:=
 (tSeq (tIfS (tOr (tTest (tOp (cEq K) (tOp cIx (tVar 5) (tC (.int 0))) (tVar 4))) (tNot (tB (tCall (lY K) [] E0 (tCons (tVar 0) (tCons (tOp cIx (tVar 5) (tC (.int 0))) tNil)))))) (tRet (tC (.bl false))) tNext)
  (e5 K c))
def iw(K:Frag)(c:RCl RK):TS:=
 (tSeq (tIfS (tOr (tTest (tOp (cNe K) (tCB kLen (tCons (aD c c.ok "spots" (d0 K c) (tVar 1) tNil) tNil)) (tOp cIx (tVar 0) (tC (.int 2))))) (tTest (tOp (cNe K) (tCB kLen (tCons (tVar 5) tNil)) (tC (.int 1))))) (tRet (tC (.bl false))) tNext)
  (jV K c))
theorem qM {k:RK} {f r p A M:Addr} {ws:List (List Nat)} {cs Mc:List Int} {n m:Int} (x:IsRule H c k r p ws cs n m) (hC:aN cs Mc.length) (hA:H A=some (.lst (Mc.map V.int))) (hM:H M=some (.lst (ms.map V.int))) (hl:ms.length=1)
  (q:∀ H',Same H H'->Q (.bl (decide (((sgAt Mc (cs.filter fun x=>!decide (x=z))).filter fun m=>stB m (ms.getD 0 0)).length=0))) H'):
  e5 K c (eD9 Q) [some (.ref f),some (.ref r),some (.ref A),some (.int z),some (.int s),some (.ref M)] H:=by
 unfold e5;symm;refine⟨k,r,p,ws,cs,n,m,z,rfl,x,hC.1,fun O H1 s1 hO eO=>?_⟩;symm;have hC2:aN (cs.filter fun x=>!decide (x=z)) Mc.length:=⟨ML (MM _ _) hC.1,fun y hy=>hC.2 y (MK.mp hy).1⟩;refine⟨A,O,Mc,_,rfl,s1 _ _ hA,eO,hC2,fun B H2 s2 hB eB=>?_⟩;dsimp only;refine ixI ((s1.trans s2) _ _ hM) (by decide) (by omega) ?_;rw[show(0:Int).toNat=0 from rfl];symm;refine⟨B,_,_,rfl,eB,by unfold sgAt;rw[Mr];exact hC2.1,fun H3 s3=>?_⟩;symm;have q1:=q H3 ((s1.trans s2).trans s3)
 have e:decide ((((sgAt Mc (cs.filter fun x=>!decide (x=z))).filter fun m=>stB m (ms.getD 0 0)).length:Int)=0)=decide (((sgAt Mc (cs.filter fun x=>!decide (x=z))).filter fun m=>stB m (ms.getD 0 0)).length=0):=by
  rw[MZ,Mx,Mx];omega
 rw[e];exact q1
theorem uH(h:iu K c vs H Q E):iw K c (eD9 Q) (start ["floor","rule","masks","cell","sign","more"] vs) H:=by
 obtain⟨k,f,r,p,A,M,ws,cs,Mc,ms,n,m,z,s,h,w,g,rfl,hf,x,hC,hA,hM,q⟩:=h;obtain⟨dx,W,C,h1,h2,h3⟩:=x.ex;show iw K c _ [some (.ref f),some (.ref r),some (.ref A),some (.int z),some (.int s),some (.ref M)] H;unfold iw;rw[aE,aA];symm;refine methE (k:=k) rfl x.ok h1 (by rfl) ?_;symm;refine⟨r,p,ws,cs,n,m,rfl,x,fun l hl=>?_⟩;obtain⟨H1,z9,s1,el⟩:=aY (.lst (cs.map V.int)) hl;rw[z9]
 try dsimp only
 rw[bc el,Mr];refine ixT (s1 _ _ hf) (v:=V.int g) rfl ?_;symm;unfold vN at q
 cases hb:decide ((cs.length:Int)=g) with
 | false=>
  rw[hb,MQ] at q;symm;exact q _ s1
 | true=>
  rw[hb,MR] at q;symm;rw[bc (s1 _ _ hM),Mr];symm
  have e1:decide ((ms.length:Int)=1)=decide (ms.length=1):=by
   rw[MZ,Mx,Mx];omega
  rw[e1]
  cases hb2:decide (ms.length=1) with
  | false=>
   rw[hb2,MQ] at q;symm;exact q _ s1
  | true=>
   rw[hb2,MR] at q;have hl1:=MG hb2;symm;unfold jV;rw[aE,aA];symm;refine ixI (s1 _ _ hM) (by decide) (by omega) ?_;rw[show(0:Int).toNat=0 from rfl];symm
   cases hb3:decide (ms.getD 0 0=s) with
   | true=>
    rw[hb3,Oa,MQ] at q;refine iteT ?_;symm;exact q _ s1
   | false=>
    rw[hb3,Oc,MR] at q;refine iteF ?_;refine ixI (s1 _ _ hM) (by decide) (by omega) ?_;rw[show(0:Int).toNat=0 from rfl];symm;refine⟨f,h,w,g,_,rfl,s1 _ _ hf,?_⟩
    cases hb4:(decide (1<=ms.getD 0 0)&&decide (ms.getD 0 0<=g)) with
    | false=>
     rw[hb4,MQ] at q;refine⟨false,rfl,iteT ?_⟩;symm;exact q _ s1
    | true=>
     rw[hb4,MR] at q;refine⟨true,rfl,iteF ?_⟩;exact qM (x.same s1) hC (s1 _ _ hA) (s1 _ _ hM) hl1 fun H' s2=>q H' (s1.trans s2)
theorem Aq(t:TK):decide (tkC t=[112,108,97,99,101])=decide (t=.place):=by cases t <;> decide
def dQ(K:Frag):Sp:=fun vs H Q _=>∃(C:Addr) (ms:List Int) (s:Int),vs=[.ref C,.int s]/\H C=some (.lst (ms.map V.int))/\ms.length<=63/\s<=100000/\∀ H',Same H H'->Q (.int ((ms.filter fun m=>decide (woI m s=0)).length:Nat)) H'
def mM(K:Frag):TS:=
 (tRet (tCB kLen (tCons (tComp [none,none,some 1] (iList K (tVar 0)) (gName 1) (tB (tCall (cj K) [] E0 (tCons (tVar 1) (tCons (tVar 2) tNil)))) (tVar 1)) tNil)))
variable{K:Frag}{vs:List V}{H:Hp}{Q:VK}{E:XK}
theorem Ar(h:dQ K vs H Q E):mM K (eD9 Q) (start ["some","sign"] vs) H:=by
 obtain⟨C,ms,s,rfl,hC,hn,hs,q⟩:=h;show mM K _ [some (.ref C),some (.int s)] H;unfold mM;symm;refine⟨⟨_,MO hC⟩,?_⟩;refine aX (xs:=ms) (fun m=>decide (woI m s=0)) (fun m=>m) (by omega) (MO hC) ?_ ?_ ?_
 . intro x H1 R hx s1 k1;show tB _ [none,some (.int x),some (.int s)] H1 R;symm;exact⟨x,s,rfl,hs,_,rfl,k1 _ (Mw _)⟩
 . intro z H1 Q1 hz hb s1 k1;show tVar 1 [none,some (.int z),some (.int s)] H1 Q1;symm;exact k1 _ (Mw _)
 . intro l H1 hl s1 el;rw[NN] at el;rw[bc el,Mr];exact q _ s1
def rosP(c z:Int)(q:List Int):Bool:=decide (q.getD 0 0=c)&&decide (z∈q)
def rosL(h w c z:Int):List Int:=match (squL h w).find? (rosP c z) with
 | none=>[]
 | some q=>q.filter fun x=>!decide (x=z)
variable{h w:Int}
theorem oZ{q:List Int}(hq:q∈squL h w):∃ i:Nat,i < (h*w).toNat/\cornB h w i=true/\q=sqL w i:=by
 unfold squL at hq;obtain⟨i,hi,rfl⟩:=MJ.mp hq;obtain⟨hi,hc⟩:=MK.mp hi;exact⟨i,MF.mp hi,hc,rfl⟩
theorem Cq{c:Int}(w0:1<=w)(c0:0<=c)(hc:cornB h w c=true):c+w+1<h*w:=by
 unfold cornB at hc;rw[MH,Mx,Mx] at hc;have e:=P6 c w;have m:=Int.mul_le_mul_of_nonneg_left (show c/w+2<=h by omega) (show 0<=w by omega);rw[Int.mul_add] at m;rw[Int.mul_comm h w];omega
theorem Jb{c x:Int}(w0:1<=w)(c0:0<=c)(hc:cornB h w c=true)(hx:x∈sqL w c):0<=x/\x<h*w:=by
 have:=Cq w0 c0 hc;simp[sqL] at hx;omega
variable{z:Int}
theorem EL{g c:Int}{n:Nat}(F:FlOk h w g)(hn:n=(h*w).toNat):aN (rosL h w c z) n:=by
 have w0:=F.w0;unfold rosL
 cases e:(squL h w).find? (rosP c z) with
 | none=>exact⟨by show(0:Nat)<=63;omega,fun x hx=>by cases hx⟩
 | some q=>
  obtain⟨i,hi,hc,rfl⟩:=oZ (Pu e);refine⟨ML (MM _ _) (by show(4:Nat)<=63;omega),fun x hx=>?_⟩;have:=Jb w0 (by omega) hc (MK.mp hx).1;omega
def gt(K:Frag):Sp:=fun vs H Q _=>∃(f:Addr) (h w g c z:Int),vs=[.ref f,.int c,.int z]/\IsFl H f h w g/\FlOk h w g/\∀ l H',Same H H'->H l=none->H' l=some (.lst ((rosL h w c z).map V.int))->Q (.ref l) H'
def gu(K:Frag):TS:=
 (tSeq (tFor (iList K (tCall (jf K) [] E0 (tCons (tVar 0) tNil))) (gName 3)
  (tIfS (tAnd (tTest (tOp (cEq K) (tOp cIx (tVar 3) (tC (.int 0))) (tVar 1))) (tTest (tOp (cIn K false) (tVar 2) (tVar 3)))) (tRet (tComp [none,none,some 2] (iList K (tVar 3)) (gName 1) (tTest (tOp (cNe K) (tVar 1) (tVar 2))) (tVar 1))) tNext))
  (tRet (tLst tNil)))
theorem tu(h:gt K vs H Q E):gu K (eD9 Q) (start ["floor","corner","cell","square"] vs) H:=by
 obtain⟨f,h,w,g,c,z,rfl,hf,F,q⟩:=h;show gu K _ [some (.ref f),some (.int c),some (.int z),none] H;unfold gu;rw[aE];symm;refine⟨f,h,w,g,rfl,hf,F,fun l as H1 s1 hl x nd nl hn=>?_⟩;refine⟨l,rfl,⟨_,MO x.top⟩,?_⟩;refine bp (K:=K) (xs:=as.map V.ref) (fun i σ H'=>∃ sv:Option V,σ=[some (.ref f),some (.int c),some (.int z),sv]/\Same H1 H'/\∀(j:Nat) (q:List Int),j<i->(squL h w)[j]? =some q->rosP c z q=false) ⟨none,rfl,Mw _,fun j q hj=>by omega⟩ (fun i σ H' _ ⟨_,_,s,_⟩=>s.seq (MO x.top)) ?_ ?_
 . rintro i v σ H2 hv ⟨sv,rfl,s2,hno⟩;rw[MA] at hv
   cases ha:as[i]? with
   | none=>rw[ha] at hv;cases hv
   | some a=>
   rw[ha] at hv;cases hv;have hlt:i < (squL h w).length:=by rw[← x.len];exact(My.mp ha).1
   have eq:(squL h w)[i]? =some (squL h w)[i]:=Mt hlt;have ea:=(x.same s2).at_ i a _ ha eq
   have q4:((squL h w)[i]).length=4:=by
    obtain⟨k,_,_,e⟩:=oZ (MT hlt);rw[e];rfl
   have nx:rosP c z (squL h w)[i]=false->∀(j:Nat) (q:List Int),j<i+1->(squL h w)[j]? =some q->rosP c z q=false:=fun hf j q hj hq=>by
    by_cases hji:j=i
    . subst hji;rw[eq] at hq;cases hq;exact hf
    . exact hno j q (by omega) hq
   have fo:rosP c z (squL h w)[i]=true->rosL h w c z=(squL h w)[i].filter fun x=>!decide (x=z):=fun ht=>by
    have e:(squL h w).find? (rosP c z)=some (squL h w)[i]:=by
     rw[OY];refine⟨ht,i,hlt,rfl,fun j hj=>?_⟩;rw[hno j _ hj (Mt (by omega))];rfl
    unfold rosL;rw[e]
   generalize (squL h w)[i]=sq at*;unfold rosP at nx fo;symm;rw[aA];symm;refine ixI ea (by decide) (by omega) ?_;rw[show(0:Int).toNat=0 from rfl];symm
   cases hb:decide (sq.getD 0 0=c) with
   | false=>
    rw[hb,MQ] at nx;refine iteF ?_;symm;exact⟨_,rfl,s2,nx rfl⟩
   | true=>
    rw[hb,MR] at nx fo;refine iteT ?_;rw[rd ea]
    cases hb2:decide (z∈sq) with
    | false=>
     rw[hb2] at nx;refine⟨false,rfl,?_⟩;symm;exact⟨_,rfl,s2,nx rfl⟩
    | true=>
     rw[hb2] at fo;refine⟨true,rfl,?_⟩;symm;refine⟨⟨_,MO ea⟩,?_⟩;refine aX (xs:=sq) (fun x=>!decide (x=z)) (fun x=>x) (by omega) (MO ea) ?_ ?_ ?_
     . intro y H3 R hy s3 k3;show tTest _ [none,some (.int y),some (.int z)] H3 R;symm;exact k3 _ (Mw _)
     . intro y H3 Q3 hy hb s3 k3;show tVar 1 [none,some (.int y),some (.int z)] H3 Q3;symm;exact k3 _ (Mw _)
     . intro T H3 hT s3 eT;rw[NN,← fo rfl] at eT;exact q T H3 ((s1.trans s2).trans s3) ((s1.trans s2).free hT) eT
 . rintro σ H2 ⟨sv,rfl,s2,hno⟩
   have e:rosL h w c z=[]:=by
    have e:(squL h w).find? (rosP c z)=none:=by
     rw[List.find?_eq_none];intro q hq;obtain⟨i,hi⟩:=List.getElem?_of_mem hq;rw[hno i q (by rw[Mr,x.len];exact(My.mp hi).1) hi];decide
    unfold rosL;rw[e]
   symm;refine⟨aR (by decide),fun T hT=>?_⟩;exact q T _ ((s1.trans s2).trans ((Mw H2).laid hT)) ((s1.trans s2).free hT) (by rw[ak,e];rfl)
def squB(h w m:Int)(Mc:List Int)(z s:Int)(ms:List Int):Bool:=decide (s=m)&&(decide (ms.length=1)&&(!decide (rosL h w (ms.getD 0 0) z=[])&&decide (((sgAt Mc (rosL h w (ms.getD 0 0) z)).filter fun k=>decide (woI k s=0)).length=(rosL h w (ms.getD 0 0) z).length)))
def gw(K:Frag)(c:RCl RK):Sp:=fun vs H Q _=>∃(k:RK) (f r p A M:Addr) (ws:List (List Nat)) (cs Mc ms:List Int) (n m z s h w g:Int),vs=[.ref f,.ref r,.ref A,.int z,.int s,.ref M]/\IsFl H f h w g/\FlOk h w g/\IsRule H c k r p ws cs n m/\Mc.length=(h*w).toNat/\H A=some (.lst (Mc.map V.int))/\H M=some (.lst (ms.map V.int))/\s<=1000/\∀ H',Same H H'->Q (.bl (squB h w m Mc z s ms)) H'
def d4(K:Frag)(c:RCl RK):TS:=
 (tSeq (tAsg (tCall (gt K) [] E0 (tCons (tVar 0) (tCons (tOp cIx (tVar 5) (tC (.int 0))) (tCons (tVar 3) tNil)))) (gName 6))
  (tRet (tAndV (tOp (cNe K) (tVar 6) (tLst tNil)) (tOp (cEq K) (tCall (dQ K) [] E0 (tCons (tCall (bU K) [] E0 (tCons (tVar 2) (tCons (tVar 6) tNil))) (tCons (tVar 4) tNil))) (tCB kLen (tCons (tVar 6) tNil))))))
def gx(K:Frag)(c:RCl RK):TS:=
 (tSeq (tIfS (tOr (tTest (tOp (cNe K) (tVar 4) (aD c c.ok "sign" (iQ K c) (tVar 1) tNil))) (tTest (tOp (cNe K) (tCB kLen (tCons (tVar 5) tNil)) (tC (.int 1))))) (tRet (tC (.bl false))) tNext)
  (d4 K c))
variable{c:RCl RK}{Mc:List Int}
theorem qk {f A M:Addr} {v1:V} {ms:List Int} {s g:Int} (hf:IsFl H f h w g) (F:FlOk h w g) (hml:Mc.length=(h*w).toNat) (hA:H A=some (.lst (Mc.map V.int))) (hM:H M=some (.lst (ms.map V.int))) (hl:ms.length=1) (hs:s<=1000)
  (q:∀ H',Same H H'->Q (.bl (!decide (rosL h w (ms.getD 0 0) z=[])&&decide (((sgAt Mc (rosL h w (ms.getD 0 0) z)).filter fun k=>decide (woI k s=0)).length=(rosL h w (ms.getD 0 0) z).length))) H'):
  d4 K c (eD9 Q) [some (.ref f),some v1,some (.ref A),some (.int z),some (.int s),some (.ref M),none] H:=by
 have hin:=EL (c:=ms.getD 0 0) (z:=z) F hml;unfold d4;symm;refine ixI hM (by decide) (by omega) ?_;rw[show(0:Int).toNat=0 from rfl];symm;refine⟨f,h,w,g,_,z,rfl,hf,F,fun R H1 s1 hR eR=>?_⟩;symm;refine⟨aR (by decide),fun Z hZ=>?_⟩;obtain⟨H2,z9,s2,eZ⟩:∃ z,upd H1 Z (.lst [])=z/\Same H1 z/\z Z=some (.lst (([]:List Int).map V.int)):=aY _ hZ;rw[z9];have s12:=s1.trans s2;refine nk (s2 _ _ eR) eZ ?_;generalize hros:rosL h w (ms.getD 0 0) z=ros at*
 cases hb:decide (ros=[]) with
 | true=>
  rw[hb,Oa] at q;refine⟨false,rfl,iteF ?_⟩;exact q _ s12
 | false=>
  rw[hb,Oc] at q;refine⟨true,rfl,iteT ?_⟩;symm;refine⟨A,R,Mc,ros,rfl,s12 _ _ hA,s2 _ _ eR,hin,fun B H3 s3 hB eB=>?_⟩;dsimp only;refine⟨B,_,s,rfl,eB,by unfold sgAt;rw[Mr];exact hin.1,by omega,fun H4 s4=>?_⟩;symm;rw[bc (((s2.trans s3).trans s4) _ _ eR),Mr];symm;have q1:=q H4 ((s12.trans s3).trans s4)
  have e:decide ((((sgAt Mc ros).filter fun k=>decide (woI k s=0)).length:Int)=(ros.length:Int))=decide (((sgAt Mc ros).filter fun k=>decide (woI k s=0)).length=ros.length):=by
   rw[MZ,Mx,Mx];omega
  rw[e];exact q1
theorem tw(h:gw K c vs H Q E):gx K c (eD9 Q) (start ["floor","rule","masks","cell","sign","more","rest"] vs) H:=by
 obtain⟨k,f,r,p,A,M,ws,cs,Mc,ms,n,m,z,s,h,w,g,rfl,hf,F,x,hml,hA,hM,hs,q⟩:=h;obtain⟨dx,W,C,h1,h2,h3⟩:=x.ex;show gx K c _ [some (.ref f),some (.ref r),some (.ref A),some (.int z),some (.int s),some (.ref M),none] H;unfold gx;rw[aE,aA];symm;refine methE (k:=k) rfl x.ok h1 (by rfl) ?_;symm;refine⟨r,p,ws,cs,n,m,rfl,x,?_⟩;symm;unfold squB at q
 cases hb:decide (s=m) with
 | false=>
  rw[hb,MQ] at q;symm;exact q _ (Mw _)
 | true=>
  rw[hb,MR] at q;symm;rw[bc hM,Mr];symm
  have e1:decide ((ms.length:Int)=1)=decide (ms.length=1):=by
   rw[MZ,Mx,Mx];omega
  rw[e1]
  cases hb2:decide (ms.length=1) with
  | false=>
   rw[hb2,MQ] at q;symm;exact q _ (Mw _)
  | true=>
   rw[hb2,MR] at q;symm;exact qk hf F hml hA hM (MG hb2) hs q
theorem yu(t:TK):decide (tkC t=[115,113,117,97,114,101])=decide (t=.square):=by cases t <;> decide
def othL(cs:List Int)(z:Int):List Int:=cs.filter fun x=>!decide (x=z)
def cntB(cs:List Int)(n m:Int)(Mc:List Int)(z s:Int)(ms:List Int):Bool:=
 decide (ms=[])&&(if s=m then decide (n<=(((sgAt Mc (othL cs z)).filter fun k=>decide (woI k s=0)).length:Int)) else decide ((((sgAt Mc (othL cs z)).filter fun k=>stB k m).length:Int)<n))
def iy(K:Frag)(c:RCl RK):Sp:=fun vs H Q _=>∃(k:RK) (r p A M:Addr) (ws:List (List Nat)) (cs Mc ms:List Int) (n m z s:Int),vs=[.ref r,.ref A,.int z,.int s,.ref M]/\IsRule H c k r p ws cs n m/\aN cs Mc.length/\H A=some (.lst (Mc.map V.int))/\H M=some (.lst (ms.map V.int))/\s<=1000/\∀ H',Same H H'->Q (.bl (cntB cs n m Mc z s ms)) H'
def e6(K:Frag)(c:RCl RK):TS:=
 (tSeq (tAsg (tCall (bU K) [] E0 (tCons (tVar 1) (tCons (tCall (bE K c) [] E0 (tCons (tVar 0) (tCons (tVar 2) tNil))) tNil))) (gName 5))
  (tSeq (tIfS (tTest (tOp (cEq K) (tVar 3) (aD c c.ok "sign" (iQ K c) (tVar 0) tNil))) (tRet (tOp (cCmp fun i j=>decide (j<=i)) (tCall (dQ K) [] E0 (tCons (tVar 5) (tCons (tVar 3) tNil))) (aD c c.ok "number" (iP K c) (tVar 0) tNil))) tNext)
  (tRet (tOp (cCmp fun i j=>decide (i<j)) (tCall (eX K) [] E0 (tCons (tVar 5) (tCons (aD c c.ok "sign" (iQ K c) (tVar 0) tNil) tNil))) (aD c c.ok "number" (iP K c) (tVar 0) tNil)))))
def iA(K:Frag)(c:RCl RK):TS:=
 (tSeq (tIfS (tTest (tOp (cNe K) (tVar 4) (tLst tNil))) (tRet (tC (.bl false))) tNext)
  (e6 K c))
variable{cs:List Int}{m:Int}
theorem qN {k:RK} {r p A M:Addr} {ws:List (List Nat)} {n s:Int} (x:IsRule H c k r p ws cs n m) (hC:aN cs Mc.length) (hA:H A=some (.lst (Mc.map V.int))) (hs0:s<=1000)
  (q:∀ H',Same H H'->Q (.bl (if s=m then decide (n<=(((sgAt Mc (othL cs z)).filter fun k=>decide (woI k s=0)).length:Int)) else decide ((((sgAt Mc (othL cs z)).filter fun k=>stB k m).length:Int)<n))) H'):
  e6 K c (eD9 Q) [some (.ref r),some (.ref A),some (.int z),some (.int s),some (.ref M),none] H:=by
 have hC2:aN (othL cs z) Mc.length:=⟨ML (MM _ _) hC.1,fun y hy=>hC.2 y (MK.mp hy).1⟩;have Mn:(sgAt Mc (othL cs z)).length<=63:=by unfold sgAt;rw[Mr];exact hC2.1
 unfold e6;symm;refine⟨k,r,p,ws,cs,n,m,z,rfl,x,hC.1,fun O H1 s1 hO eO=>?_⟩;symm;refine⟨A,O,Mc,othL cs z,rfl,s1 _ _ hA,eO,hC2,fun B H2 s2 hB eB=>?_⟩;have s12:=s1.trans s2;have x2:=x.same s12;obtain⟨dx,W,C,h1,h2,h3⟩:=x2.ex;symm;rw[aA];symm;refine methE (k:=k) rfl x2.ok h1 (by rfl) ?_;symm;refine⟨r,p,ws,cs,n,m,rfl,x2,?_⟩;symm;by_cases hs:s=m
 . rw[MU hs] at q;rw[Mv hs];symm;refine⟨B,_,_,rfl,eB,Mn,by omega,fun H3 s3=>?_⟩;have x3:=x2.same s3;obtain⟨dx3,W3,C3,g1,g2,g3⟩:=x3.ex;refine methE (k:=k) rfl x3.ok g1 (by rfl) ?_;symm;refine⟨r,p,ws,cs,n,m,rfl,x3,?_⟩;symm;exact q _ (s12.trans s3)
 . rw[MP hs] at q;rw[Mu hs];symm;refine methE (k:=k) rfl x2.ok h1 (by rfl) ?_;symm;refine⟨r,p,ws,cs,n,m,rfl,x2,?_⟩;symm;refine⟨B,_,_,rfl,eB,Mn,fun H3 s3=>?_⟩;have x3:=x2.same s3;obtain⟨dx3,W3,C3,g1,g2,g3⟩:=x3.ex;refine methE (k:=k) rfl x3.ok g1 (by rfl) ?_;symm;refine⟨r,p,ws,cs,n,m,rfl,x3,?_⟩;symm;exact q _ (s12.trans s3)
theorem uI(h:iy K c vs H Q E):iA K c (eD9 Q) (start ["rule","masks","cell","sign","more","some"] vs) H:=by
 obtain⟨k,r,p,A,M,ws,cs,Mc,ms,n,m,z,s,rfl,x,hC,hA,hM,hs,q⟩:=h;show iA K c _ [some (.ref r),some (.ref A),some (.int z),some (.int s),some (.ref M),none] H;unfold iA;rw[aE,aA];symm;refine⟨aR (by decide),fun Z hZ=>?_⟩;obtain⟨H1,z9,s1,eZ⟩:∃ z,upd H Z (.lst [])=z/\Same H z/\z Z=some (.lst (([]:List Int).map V.int)):=aY _ hZ;rw[z9];refine nk (s1 _ _ hM) eZ ?_;unfold cntB at q
 cases hb:decide (ms=[]) with
 | false=>
  rw[hb,MQ] at q;refine⟨true,rfl,?_⟩;symm;exact q _ s1
 | true=>
  rw[hb,MR] at q;refine⟨false,rfl,?_⟩;symm;exact qN (x.same s1) hC (s1 _ _ hA) hs fun H' s2=>q H' (s1.trans s2)
theorem FK(t:TK):decide (tkC t=[99,111,117,110,116])=decide (t=.count):=by cases t <;> decide
variable{xs:List Int}
theorem ke{q:Addr}{x:Int}(hq:H q=some (.lst (xs.map V.int)))(hm:x∈xs)(hn:xs.length<=900)(h:Q (.int (xs.findIdx (· ==x):Nat)) H):i6 K (.ref q) [.int x] H Q:=by
 have hlt:xs.findIdx (· ==x)<xs.length:=OP ⟨x,hm,by simp⟩
 have ev:∀ a b:Int,PyData.eqv (.int a) (.int b)=decide (a=b):=fun a b=>by
  rw[PyData.eqv];by_cases h:a=b
  . subst h;simp
  . simp[h]
 refine⟨xs.map PyData.int,.int x,xs.findIdx (· ==x),.lst (MO hq) (.ints xs),.int x,mf xs,rfl,?_,by omega,⟨PyData.int xs[xs.findIdx (· ==x)],?_,?_⟩,fun m e hm2 he=>?_,h⟩
 . rw[iY];omega
 . rw[MA,Mt hlt];rfl
 . have:=List.findIdx_getElem (w:=hlt);rw[ev,Mx]
   simpa using this
 . have hml:m<xs.length:=by omega
   rw[MA,Mt hml] at he;cases he;have:=List.not_of_lt_findIdx hm2;rw[ev,NE]
   simpa using this
def dA(xs:List Int)(x:Int):Nat:=xs.findIdx (· ==x)
def ordB(cs ms:List Int):Bool:=decide (ms.length=2)&&(decide (ms.getD 0 0∈cs)&&(decide (ms.getD 1 0∈cs)&&decide (dA cs (ms.getD 0 0)<dA cs (ms.getD 1 0))))
def d5(K:Frag):Sp:=fun vs H Q _=>∃(C M:Addr) (cs ms:List Int),vs=[.ref C,.ref M]/\H C=some (.lst (cs.map V.int))/\cs.length<=63/\H M=some (.lst (ms.map V.int))/\Q (.bl (ordB cs ms)) H
def d6(K:Frag):TS:=
 (tSeq (tIfS (tOr (tTest (tOp (cNe K) (tCB kLen (tCons (tVar 1) tNil)) (tC (.int 2)))) (tOr (tTest (tOp (cIn K true) (tOp cIx (tVar 1) (tC (.int 0))) (tVar 0))) (tTest (tOp (cIn K true) (tOp cIx (tVar 1) (tC (.int 1))) (tVar 0))))) (tRet (tC (.bl false))) tNext)
  (tRet (tOp (cCmp fun i j=>decide (i<j)) (tBM K "list" (i6 K) (tVar 0) (tCons (tOp cIx (tVar 1) (tC (.int 0))) tNil)) (tBM K "list" (i6 K) (tVar 0) (tCons (tOp cIx (tVar 1) (tC (.int 1))) tNil)))))
theorem ql(h:d5 K vs H Q E):d6 K (eD9 Q) (start ["cells","more"] vs) H:=by
 obtain⟨C,M,cs,ms,rfl,hC,hn,hM,q⟩:=h;show d6 K _ [some (.ref C),some (.ref M)] H;unfold d6;rw[aE,aA];symm;rw[bc hM,Mr];symm;unfold ordB at q
 have e1:decide ((ms.length:Int)=2)=decide (ms.length=2):=by
  rw[MZ,Mx,Mx];omega
 rw[e1]
 cases hb:decide (ms.length=2) with
 | false=>
  rw[hb,MQ] at q;symm;exact q
 | true=>
  rw[hb,MR] at q;have hl:=MG hb;symm;refine ixI hM (by decide) (by omega) ?_;rw[show(0:Int).toNat=0 from rfl];symm;rw[lR hC]
  cases hb2:decide (ms.getD 0 0∈cs) with
  | false=>
   rw[hb2,MQ] at q;refine⟨true,rfl,iteT ?_⟩;symm;exact q
  | true=>
   rw[hb2,MR] at q;refine⟨false,rfl,iteF ?_⟩;symm;refine ixI hM (by decide) (by omega) ?_;rw[show(1:Int).toNat=1 from rfl];symm;rw[lR hC]
   cases hb3:decide (ms.getD 1 0∈cs) with
   | false=>
    rw[hb3,MQ] at q;refine⟨true,rfl,iteT ?_⟩;symm;exact q
   | true=>
    rw[hb3,MR] at q;refine⟨false,rfl,iteF ?_⟩;symm;refine⟨bq hC,?_⟩;refine ixI hM (by decide) (by omega) ?_;rw[show(0:Int).toNat=0 from rfl];symm;refine ke hC (MG hb2) (by omega) ?_;symm;refine⟨bq hC,?_⟩;refine ixI hM (by decide) (by omega) ?_;rw[show(1:Int).toNat=1 from rfl];symm;refine ke hC (MG hb3) (by omega) ?_;symm
    have e2:decide (((cs.findIdx (· ==ms.getD 0 0):Nat):Int) < ((cs.findIdx (· ==ms.getD 1 0):Nat):Int))=decide (dA cs (ms.getD 0 0)<dA cs (ms.getD 1 0)):=by
     rw[MZ,Mx,Mx];unfold dA;omega
    rw[e2];exact q
def orM(Mc:List Int)(ms:List Int):Int:=Builtin.bitOr (Mc.getD (ms.getD 0 0).toNat 0) (Mc.getD (ms.getD 1 0).toNat 0)
def pairB(cs Mc:List Int)(z s:Int)(ms:List Int):Bool:=ordB (cs.filter fun x=>!decide (x=z)) ms&&decide (((sgL (orM Mc ms)).filter fun x=>!decide (x=s)).length<=1)
theorem Id:((List.range 64).all fun a=>(List.range 64).all fun b=>decide (0<=Builtin.bitOr (a:Int) (b:Int))&&decide (Builtin.bitOr (a:Int) (b:Int)<64))=true:=by decide+kernel
theorem Jc{a b:Int}(a0:0<=a)(a1:a<64)(b0:0<=b)(b1:b<64):0<=Builtin.bitOr a b/\Builtin.bitOr a b<64:=by
 have t:=MC.mp (MC.mp Id a.toNat (MF.mpr (by omega))) b.toNat (MF.mpr (by omega));have e1:((a.toNat:Nat):Int)=a:=by omega
 have e2:((b.toNat:Nat):Int)=b:=by omega
 rw[e1,e2] at t
 simpa using t
theorem Ie:((List.range 64).all fun m=>decide (Builtin.Int.intBits (m:Int)<=6)&&decide (sgL (m:Int)=(([0,1,2,3,4,5]:List Nat).filter fun(i:Nat)=>stB (m:Int) (1+(i:Int))).map fun(i:Nat)=>1+(i:Int)))=true:=by decide+kernel
theorem g8(m0:0<=m)(m1:m<64):Builtin.Int.intBits m<=6/\sgL m=(([0,1,2,3,4,5]:List Nat).filter fun(i:Nat)=>stB m (1+(i:Int))).map fun(i:Nat)=>1+(i:Int):=by
 have t:=MC.mp Ie m.toNat (MF.mpr (by omega));have e1:((m.toNat:Nat):Int)=m:=by omega
 rw[e1,MH,Mx,Mx] at t;exact t
theorem vO{i:Int}(mm:∀ m∈Mc,0<=m/\m<64)(i0:0<=i)(i1:i<Mc.length):0<=Mc.getD i.toNat 0/\Mc.getD i.toNat 0<64:=by
 have hlt:i.toNat<Mc.length:=by omega
 rw[List.getD,Mt hlt];exact mm _ (MT hlt)
def jw(K:Frag)(c:RCl RK):Sp:=fun vs H Q _=>∃(k:RK) (r p A M:Addr) (ws:List (List Nat)) (cs Mc ms:List Int) (n m z s:Int),vs=[.ref r,.ref A,.int z,.int s,.ref M]/\IsRule H c k r p ws cs n m/\aN cs Mc.length/\(∀ m∈Mc,0<=m/\m<64)/\H A=some (.lst (Mc.map V.int))/\H M=some (.lst (ms.map V.int))/\∀ H',Same H H'->Q (.bl (pairB cs Mc z s ms)) H'
def f6(K:Frag)(c:RCl RK):TS:=
 (tSeq (tAsg (tCall (bz K) [] E0 (tCons (tOp cOr (tOp cIx (tVar 1) (tOp cIx (tVar 4) (tC (.int 0)))) (tOp cIx (tVar 1) (tOp cIx (tVar 4) (tC (.int 1))))) tNil)) (gName 5))
  (tRet (tOp (cCmp fun i j=>decide (i<=j)) (tCB kLen (tCons (tComp [none,none,some 3] (iList K (tVar 5)) (gName 1) (tTest (tOp (cNe K) (tVar 1) (tVar 2))) (tVar 1)) tNil)) (tC (.int 1)))))
def jx(K:Frag)(c:RCl RK):TS:=
 (tSeq (tIfS (tNot (tB (tCall (d5 K) [] E0 (tCons (tCall (bE K c) [] E0 (tCons (tVar 0) (tCons (tVar 2) tNil))) (tCons (tVar 4) tNil))))) (tRet (tC (.bl false))) tNext)
  (f6 K c))
theorem rE {A M:Addr} {ms:List Int} {s:Int} {v0:V} (hC:aN cs Mc.length) (mm:∀ m∈Mc,0<=m/\m<64) (hA:H A=some (.lst (Mc.map V.int))) (hM:H M=some (.lst (ms.map V.int))) (ho:ordB (cs.filter fun x=>!decide (x=z)) ms=true)
  (q:∀ H',Same H H'->Q (.bl (decide (((sgL (orM Mc ms)).filter fun x=>!decide (x=s)).length<=1))) H'):
  f6 K c (eD9 Q) [some v0,some (.ref A),some (.int z),some (.int s),some (.ref M),none] H:=by
 unfold ordB at ho;simp only[MH,Mx] at ho;obtain⟨hl,m0,m1,_⟩:=ho;have c0:=hC.2 _ (MK.mp m0).1;have c1:=hC.2 _ (MK.mp m1).1;have k0:=vO mm c0.1 c0.2;have k1:=vO mm c1.1 c1.2;have ol:=Jc k0.1 k0.2 k1.1 k1.2;have sb:=(g8 ol.1 ol.2).1;unfold f6;symm;refine ixI hM (by decide) (by omega) ?_;rw[show(0:Int).toNat=0 from rfl];symm;refine ixI hA c0.1 c0.2 ?_;symm;refine ixI hM (by decide) (by omega) ?_;rw[show(1:Int).toNat=1 from rfl];symm;refine ixI hA c1.1 c1.2 ?_;symm;refine⟨_,rfl,by omega,fun l H1 s1 hl1 el=>?_⟩;have el2:H1 l=some (.lst ((sgL (orM Mc ms)).map V.int)):=el
 have hsl:(sgL (orM Mc ms)).length<=6:=by
  unfold orM;rw[(g8 ol.1 ol.2).2,Mr];exact MM _ _
 symm;refine⟨⟨_,MO el2⟩,?_⟩;refine aX (xs:=sgL (orM Mc ms)) (fun x=>!decide (x=s)) (fun x=>x) (by omega) (MO el2) ?_ ?_ ?_
 . intro x H2 R hx s2 k2;show tTest _ [none,some (.int x),some (.int s)] H2 R;symm;exact k2 _ (Mw _)
 . intro x H2 Q2 hx hb s2 k2;show tVar 1 [none,some (.int x),some (.int s)] H2 Q2;symm;exact k2 _ (Mw _)
 . intro T H2 hT s2 eT;rw[NN] at eT;symm;rw[bc eT,Mr];symm
   have e2:decide ((((sgL (orM Mc ms)).filter fun x=>!decide (x=s)).length:Int)<=1)=decide (((sgL (orM Mc ms)).filter fun x=>!decide (x=s)).length<=1):=by
    rw[MZ,Mx,Mx];omega
   rw[e2];exact q _ (s1.trans s2)
theorem vP(h:jw K c vs H Q E):jx K c (eD9 Q) (start ["rule","masks","cell","sign","more","together"] vs) H:=by
 obtain⟨k,r,p,A,M,ws,cs,Mc,ms,n,m,z,s,rfl,x,hC,mm,hA,hM,q⟩:=h;show jx K c _ [some (.ref r),some (.ref A),some (.int z),some (.int s),some (.ref M),none] H;unfold jx;rw[aE,aA];symm;refine⟨k,r,p,ws,cs,n,m,z,rfl,x,hC.1,fun O H1 s1 hO eO=>?_⟩;symm;refine⟨O,M,_,ms,rfl,eO,ML (MM _ _) hC.1,s1 _ _ hM,?_⟩;unfold pairB at q
 cases hb:ordB (cs.filter fun x=>!decide (x=z)) ms with
 | false=>
  rw[hb,MQ] at q;refine⟨false,rfl,iteT ?_⟩;symm;exact q _ s1
 | true=>
  rw[hb,MR] at q;refine⟨true,rfl,iteF ?_⟩;exact rE hC mm (s1 _ _ hA) (s1 _ _ hM) hb fun H' s2=>q H' (s1.trans s2)
theorem GO(t:TK):decide (tkC t=[115,116,101,112])=decide (t=.step):=by cases t <;> decide
theorem Cr(xs:List V){a b:Nat}(hab:a<=b):cutV xs (some (a:Int)) (some (b:Int))=(xs.drop a).take (b-a):=by
 have h1:HT.sIx xs.length 0 (some (a:Int))=min a xs.length:=by rw[HT.sIx_nat]
 have h2:HT.sIx xs.length xs.length (some (b:Int))=min b xs.length:=by rw[HT.sIx_nat]
 unfold cutV;rw[h1,h2];by_cases ha:a<=xs.length
 . rw[Nat.min_eq_left ha];by_cases hb:b<=xs.length
   . rw[Nat.min_eq_left hb]
   . rw[PL (by omega),NK (by simp),NK (by simp;omega)]
 . rw[PL (by omega),PL (by omega),OZ,PZ (by omega)];simp
theorem kL {k:Nat} {a:Addr} {te:TE} {fin:Addr->Hp->Prop} {σ0:St} {H1:Hp} (f:Int->Bool) (hn:xs.length<=900) (hq:SqL K H1 a (xs.map V.int))
  (he:∀ x H Q,x∈xs->Same H1 H->(∀ H',Same H H'->Q (.bl (f x)) H')->te (σ0.set k (some (.int x))) H Q)
  (hd:∀ l H,H1 l=none->Same H1 H->H l=some (.lst ((xs.map f).map V.bl))->fin l H):
  CompR (Itl K a) (gName k) tTrue te fin σ0 H1:=by
 refine bT (xs:=xs.map V.int) (fun _=>true) (fun i=>.bl (f (xs.getD i 0))) (by rw[Mr];exact hn) hq ?_ ?_ ?_
 . intro i x H R hx s1 k1;exact k1 _ (Mw _)
 . intro i x H Q hx hb s1 h;obtain⟨z,hz,rfl⟩:=aQ hx;have h2:=h;simp only[eJ hz] at h2;exact he z H Q (Mz hz) s1 h2
 . intro l H hl s1 el;refine hd l H hl s1 ?_;rw[el,aZ,Mr,Na]
   congr 2
   exact qx xs fun x=>V.bl (f x)
def ahdL(cs:List Int)(z:Int):List Int:=if 0<dA cs z then [cs.getD (dA cs z-1) 0] else []
def behL(cs:List Int)(z:Int):List Int:=if dA cs z+1<cs.length then [cs.getD (dA cs z+1) 0] else []
theorem zE(h:z∈cs):dA cs z<cs.length:=OP ⟨z,h,by simp⟩
theorem Cs{o:Int}(h:z∈cs)(ho:o∈ahdL cs z):o∈cs:=by
 have:=zE h;unfold ahdL at ho
 split at ho
 . rw[MN.mp ho,List.getD,Mt (by omega)];exact MT _
 . cases ho
theorem Ct{o:Int}(ho:o∈behL cs z):o∈cs:=by
 unfold behL at ho
 split at ho
 . rename_i h
   rw[MN.mp ho,List.getD,Mt h];exact MT _
 . cases ho
theorem As(cs:List Int)(k:Nat):(cs.drop k).take 1=if k<cs.length then [cs.getD k 0] else []:=by
 by_cases h:k<cs.length
 . rw[MU h,NW h,List.getD,Mt h];rfl
 . rw[MP h,PZ (by omega)];rfl
def oy(K:Frag)(c:RCl RK):Sp:=fun vs H Q _=>∃(k:RK) (r p:Addr) (ws:List (List Nat)) (cs:List Int) (n m z:Int),vs=[.ref r,.int z]/\IsRule H c k r p ws cs n m/\cs.length<=63/\z∈cs/\∀ l H',Same H H'->H l=none->H' l=some (.lst ((ahdL cs z).map V.int))->Q (.ref l) H'
def oz(K:Frag)(c:RCl RK):TS:=
 (tSeq (tAsg (aD c c.ok "spots" (d0 K c) (tVar 0) tNil) (gName 2))
  (tSeq (tAsg (tBM K "list" (i6 K) (tVar 2) (tCons (tVar 1) tNil)) (gName 3))
  (tRet (tIf (tTest (tOp (cCmp fun i j=>decide (j<i)) (tVar 3) (tC (.int 0)))) (tSl p7 (tVar 2) (tPart (tOp cSub (tVar 3) (tC (.int 1)))) (tPart (tVar 3))) (tLst tNil)))))
theorem BR(h:oy K c vs H Q E):oz K c (eD9 Q) (start ["rule","cell","spots","place"] vs) H:=by
 obtain⟨k,r,p,ws,cs,n,m,z,rfl,x,hn,hz,q⟩:=h;obtain⟨dx,W,C,h1,h2,h3⟩:=x.ex;have hlt:=zE hz;show oz K c _ [some (.ref r),some (.int z),none,none] H;unfold oz;rw[aE,bI];refine methE (k:=k) rfl x.ok h1 (by rfl) ?_;symm;refine⟨r,p,ws,cs,n,m,rfl,x,fun S hS=>?_⟩;obtain⟨H1,z9,s1,eS⟩:=aY (.lst (cs.map V.int)) hS;rw[z9];symm;refine⟨bq eS,?_⟩;refine ke eS hz (by omega) ?_;have ei:(cs.findIdx (· ==z))=dA cs z:=rfl;rw[ei];unfold ahdL at q;generalize dA cs z=j at*;symm;by_cases hj:0<j
 . rw[MU hj] at q;rw[Mv (show(0:Int) < (j:Int) by omega)];refine iteT ?_;refine CZ eS fun l hl=>?_;have ej:(j:Int)-1=((j-1:Nat):Int):=by omega
   rw[ej,Cr _ (by omega),show j - (j-1)=1 by omega,← List.map_drop,← Qe,As,MU (by omega)];exact q l _ (s1.laid hl) (s1.free hl) ak
 . rw[MP hj] at q;rw[Mu (show ¬ (0:Int) < (j:Int) by omega)];refine iteF ?_;refine⟨aR (by decide),fun l hl=>?_⟩;exact q l _ (s1.laid hl) (s1.free hl) ak
def rF(K:Frag)(c:RCl RK):Sp:=fun vs H Q _=>∃(k:RK) (r p:Addr) (ws:List (List Nat)) (cs:List Int) (n m z:Int),vs=[.ref r,.int z]/\IsRule H c k r p ws cs n m/\cs.length<=63/\z∈cs/\∀ l H',Same H H'->H l=none->H' l=some (.lst ((behL cs z).map V.int))->Q (.ref l) H'
def rG(K:Frag)(c:RCl RK):TS:=
 (tSeq (tAsg (aD c c.ok "spots" (d0 K c) (tVar 0) tNil) (gName 2))
  (tSeq (tAsg (tBM K "list" (i6 K) (tVar 2) (tCons (tVar 1) tNil)) (gName 3))
  (tRet (tSl p7 (tVar 2) (tPart (tOp cAdd (tVar 3) (tC (.int 1)))) (tPart (tOp cAdd (tVar 3) (tC (.int 2))))))))
theorem EM(h:rF K c vs H Q E):rG K c (eD9 Q) (start ["rule","cell","spots","place"] vs) H:=by
 obtain⟨k,r,p,ws,cs,n,m,z,rfl,x,hn,hz,q⟩:=h;obtain⟨dx,W,C,h1,h2,h3⟩:=x.ex;show rG K c _ [some (.ref r),some (.int z),none,none] H;unfold rG;rw[aE,bI];refine methE (k:=k) rfl x.ok h1 (by rfl) ?_;symm;refine⟨r,p,ws,cs,n,m,rfl,x,fun S hS=>?_⟩;obtain⟨H1,z9,s1,eS⟩:=aY (.lst (cs.map V.int)) hS;rw[z9];symm;refine⟨bq eS,?_⟩;refine ke eS hz (by omega) ?_;have ei:(cs.findIdx (· ==z))=dA cs z:=rfl;rw[ei];unfold behL at q;generalize dA cs z=j at*;symm;refine CZ eS fun l hl=>?_;have ej:(j:Int)+1=((j+1:Nat):Int):=by omega
 have ek:(j:Int)+2=((j+2:Nat):Int):=by omega
 rw[ej,ek,Cr _ (by omega),show j+2 - (j+1)=1 by omega,← List.map_drop,← Qe,As];exact q l _ (s1.laid hl) (s1.free hl) ak
def nogB(s m:Int):Bool:=(sgL m).all fun x=>decide (s<=x)
def nolB(s m:Int):Bool:=(sgL m).all fun x=>decide (x<=s)
theorem F9(m0:0<=m)(m1:m<64):(sgL m).length<=6:=by
 rw[(g8 m0 m1).2,Mr];exact MM _ _
def iB(K:Frag):Sp:=fun vs H Q _=>∃ s m:Int,vs=[.int s,.int m]/\0<=m/\m<64/\∀ H',Same H H'->Q (.bl (nogB s m)) H'
def iC(K:Frag):TS:=
 (tRet (tCB kAll (tCons (tComp [none,none,some 0] (iList K (tCall (bz K) [] E0 (tCons (tVar 1) tNil))) (gName 1) tTrue (tOp (cCmp fun i j=>decide (i<=j)) (tVar 2) (tVar 1))) tNil)))
theorem uJ(h:iB K vs H Q E):iC K (eD9 Q) (start ["sign","mask"] vs) H:=by
 obtain⟨s,m,rfl,m0,m1,q⟩:=h;have sb:=(g8 m0 m1).1;have sl:=F9 m0 m1;show iC K _ [some (.int s),some (.int m)] H;unfold iC;symm;refine⟨m,rfl,by omega,fun l H1 s1 hl el=>?_⟩;refine⟨l,rfl,⟨_,MO el⟩,?_⟩;refine kL (xs:=sgL m) (fun x=>decide (s<=x)) (by omega) (MO el) ?_ ?_
 . intro x H2 Q2 hx s2 k2;show tOp _ _ _ [none,some (.int x),some (.int s)] H2 Q2;symm;exact k2 _ (Mw _)
 . intro l2 H2 hl2 s2 el2;symm;refine lS el2 ?_;rw[Op];exact q _ (s1.trans s2)
def ly(K:Frag):Sp:=fun vs H Q _=>∃ s m:Int,vs=[.int s,.int m]/\0<=m/\m<64/\∀ H',Same H H'->Q (.bl (nolB s m)) H'
def lz(K:Frag):TS:=
 (tRet (tCB kAll (tCons (tComp [none,none,some 0] (iList K (tCall (bz K) [] E0 (tCons (tVar 1) tNil))) (gName 1) tTrue (tOp (cCmp fun i j=>decide (j<=i)) (tVar 2) (tVar 1))) tNil)))
theorem yZ(h:ly K vs H Q E):lz K (eD9 Q) (start ["sign","mask"] vs) H:=by
 obtain⟨s,m,rfl,m0,m1,q⟩:=h;have sb:=(g8 m0 m1).1;have sl:=F9 m0 m1;show lz K _ [some (.int s),some (.int m)] H;unfold lz;symm;refine⟨m,rfl,by omega,fun l H1 s1 hl el=>?_⟩;refine⟨l,rfl,⟨_,MO el⟩,?_⟩;refine kL (xs:=sgL m) (fun x=>decide (x<=s)) (by omega) (MO el) ?_ ?_
 . intro x H2 Q2 hx s2 k2;show tOp _ _ _ [none,some (.int x),some (.int s)] H2 Q2;symm;exact k2 _ (Mw _)
 . intro l2 H2 hl2 s2 el2;symm;refine lS el2 ?_;rw[Op];exact q _ (s1.trans s2)
def stpB(cs Mc:List Int)(z s:Int):Bool:=((ahdL cs z).any fun o=>nogB s (Mc.getD o.toNat 0))||((behL cs z).any fun o=>nolB s (Mc.getD o.toNat 0))
def stepB(cs Mc:List Int)(z s:Int)(ms:List Int):Bool:=decide (ms=[])&&stpB cs Mc z s
def jy(K:Frag)(c:RCl RK):Sp:=fun vs H Q _=>∃(k:RK) (r p A M:Addr) (ws:List (List Nat)) (cs Mc ms:List Int) (n m z s:Int),vs=[.ref r,.ref A,.int z,.int s,.ref M]/\IsRule H c k r p ws cs n m/\aN cs Mc.length/\z∈cs/\(∀ m∈Mc,0<=m/\m<64)/\H A=some (.lst (Mc.map V.int))/\H M=some (.lst (ms.map V.int))/\∀ H',Same H H'->Q (.bl (stepB cs Mc z s ms)) H'
def f7(K:Frag)(c:RCl RK):TS:=
 (tSeq (tIfS (tB (tCB kAny (tCons (tComp [none,none,some 1,some 3] (iList K (tCall (oy K c) [] E0 (tCons (tVar 0) (tCons (tVar 2) tNil)))) (gName 1) tTrue (tCall (iB K) [] E0 (tCons (tVar 3) (tCons (tOp cIx (tVar 2) (tVar 1)) tNil)))) tNil))) (tRet (tC (.bl true))) tNext)
  (tRet (tCB kAny (tCons (tComp [none,none,some 1,some 3] (iList K (tCall (rF K c) [] E0 (tCons (tVar 0) (tCons (tVar 2) tNil)))) (gName 1) tTrue (tCall (ly K) [] E0 (tCons (tVar 3) (tCons (tOp cIx (tVar 2) (tVar 1)) tNil)))) tNil))))
def jz(K:Frag)(c:RCl RK):TS:=
 (tSeq (tIfS (tTest (tOp (cNe K) (tVar 4) (tLst tNil))) (tRet (tC (.bl false))) tNext)
  (f7 K c))
theorem rH {k:RK} {r p A M:Addr} {ws:List (List Nat)} {n s:Int} (x:IsRule H c k r p ws cs n m) (hC:aN cs Mc.length) (hz:z∈cs) (mm:∀ m∈Mc,0<=m/\m<64) (hA:H A=some (.lst (Mc.map V.int)))
  (q:∀ H',Same H H'->Q (.bl (stpB cs Mc z s)) H'):
  f7 K c (eD9 Q) [some (.ref r),some (.ref A),some (.int z),some (.int s),some (.ref M)] H:=by
 have la:(ahdL cs z).length<=1:=by unfold ahdL;split <;> simp
 have lb:(behL cs z).length<=1:=by unfold behL;split <;> simp
 unfold f7;rw[aE,aA];symm;refine⟨k,r,p,ws,cs,n,m,z,rfl,x,hC.1,hz,fun l H1 s1 hl el=>?_⟩;refine⟨l,rfl,⟨_,MO el⟩,?_⟩;refine kL (xs:=ahdL cs z) (fun o=>nogB s (Mc.getD o.toNat 0)) (by omega) (MO el) ?_ ?_
 . intro o H2 Q2 ho s2 k2;have ci:=hC.2 o (Cs hz ho);have mi:=vO mm ci.1 ci.2;show tCall _ _ _ _ [none,some (.int o),some (.ref A),some (.int s)] H2 Q2;symm;refine ixI ((s1.trans s2) _ _ hA) ci.1 ci.2 ?_;exact⟨s,_,rfl,mi.1,mi.2,k2⟩
 . intro l2 H2 hl2 s2 el2;symm;refine C5 el2 ?_;have s12:=s1.trans s2;rw[Qk];unfold stpB at q;have ea:(ahdL cs z).any (id ∘ fun o=>nogB s (Mc.getD o.toNat 0))=(ahdL cs z).any fun o=>nogB s (Mc.getD o.toNat 0):=rfl;rw[ea]
   cases hb:(ahdL cs z).any fun o=>nogB s (Mc.getD o.toNat 0) with
   | true=>
    rw[hb,ON] at q;refine⟨true,rfl,iteT ?_⟩;symm;exact q _ s12
   | false=>
    rw[hb,NC] at q;refine⟨false,rfl,iteF ?_⟩;symm;refine⟨k,r,p,ws,cs,n,m,z,rfl,x.same s12,hC.1,hz,fun l3 H3 s3 hl3 el3=>?_⟩;refine⟨l3,rfl,⟨_,MO el3⟩,?_⟩;refine kL (xs:=behL cs z) (fun o=>nolB s (Mc.getD o.toNat 0)) (by omega) (MO el3) ?_ ?_
    . intro o H4 Q4 ho s4 k4;have ci:=hC.2 o (Ct ho);have mi:=vO mm ci.1 ci.2;show tCall _ _ _ _ [none,some (.int o),some (.ref A),some (.int s)] H4 Q4;symm;refine ixI (((s12.trans s3).trans s4) _ _ hA) ci.1 ci.2 ?_;exact⟨s,_,rfl,mi.1,mi.2,k4⟩
    . intro l4 H4 hl4 s4 el4;symm;refine C5 el4 ?_;rw[Qk];exact q _ ((s12.trans s3).trans s4)
theorem vQ(h:jy K c vs H Q E):jz K c (eD9 Q) (start ["rule","masks","cell","sign","more"] vs) H:=by
 obtain⟨k,r,p,A,M,ws,cs,Mc,ms,n,m,z,s,rfl,x,hC,hz,mm,hA,hM,q⟩:=h;show jz K c _ [some (.ref r),some (.ref A),some (.int z),some (.int s),some (.ref M)] H;unfold jz;rw[aE,aA];symm;refine⟨aR (by decide),fun Z hZ=>?_⟩;obtain⟨H1,z9,s1,eZ⟩:∃ z,upd H Z (.lst [])=z/\Same H z/\z Z=some (.lst (([]:List Int).map V.int)):=aY _ hZ;rw[z9];refine nk (s1 _ _ hM) eZ ?_;unfold stepB at q
 cases hb:decide (ms=[]) with
 | false=>
  rw[hb,MQ] at q;refine⟨true,rfl,?_⟩;symm;exact q _ s1
 | true=>
  rw[hb,MR] at q;refine⟨false,rfl,?_⟩;symm;exact rH (x.same s1) hC hz mm (s1 _ _ hA) fun H' s2=>q H' (s1.trans s2)
section
variable{X:Cx}
def minI(ns:List Int):Int:=ns.getD (argBest (fun i j=>decide (ns.getD i 0<ns.getD j 0)) (ns.length-1)) 0
def maxI(ns:List Int):Int:=ns.getD (argBest (fun i j=>decide (ns.getD i 0>ns.getD j 0)) (ns.length-1)) 0
end
theorem qz(xs:List Int):xs.filter (fun _=>true)=xs:=Oi.mpr fun _ _=>rfl
def loM(m:Int):Int:=(sgL m).getD 0 0
def hiM(m:Int):Int:=(sgL m).getD ((sgL m).length-1) 0
theorem Ig:((List.range 64).all fun m=>decide (m=0)||(decide (0 < (sgL (m:Int)).length/\(sgL (m:Int)).length<=6)&&(decide (minI (sgL (m:Int))=loM (m:Int)/\maxI (sgL (m:Int))=hiM (m:Int))&&decide ((1<=loM (m:Int)/\loM (m:Int)<=6)/\1<=hiM (m:Int)/\hiM (m:Int)<=6))))=true:=by decide+kernel
theorem Ga{m:Int}(m0:0<=m)(m1:m<64)(hm:m≠0):(0 < (sgL m).length/\(sgL m).length<=6)/\(minI (sgL m)=loM m/\maxI (sgL m)=hiM m)/\(1<=loM m/\loM m<=6)/\1<=hiM m/\hiM m<=6:=by
 have t:=MC.mp Ig m.toNat (MF.mpr (by omega));have e1:((m.toNat:Nat):Int)=m:=by omega
 rw[e1,Os,Mx,MH,MH,Mx,Mx,Mx] at t;rcases t with t | t
 . omega
 . exact t
theorem Ih:sgL 0=[]:=by decide+kernel
theorem vR{xs:List Int}(h:0<xs.length):atI (xs.map V.int) (-1)=some (V.int (xs.getD (xs.length-1) 0)):=by
 unfold atI ixN;rw[Mr,MP (by decide),MU (by omega)];show(xs.map V.int)[((xs.length:Int)+ -1).toNat]? =_;rw[show((xs.length:Int)+ -1).toNat=xs.length-1 by omega,MA,Mt (by omega),List.getD,Mt (by omega)];rfl
def smB(os:List Int)(n s:Int):Bool:=decide (0∈os)||(decide (n<s+(os.map loM).sum)||decide (s+(os.map hiM).sum<n))
def sumB(cs:List Int)(n:Int)(Mc:List Int)(z s:Int)(ms:List Int):Bool:=decide (ms=[])&&smB (sgAt Mc (othL cs z)) n s
def dq(K:Frag):Sp:=fun vs H Q _=>∃(A:Addr) (ms:List Int),vs=[.ref A]/\H A=some (.lst (ms.map V.int))/\Q (.bl (decide (0∈ms))) H
def qm(K:Frag):TS:=
 (tRet (tOp (cIn K false) (tC (.int 0)) (tVar 0)))
variable{K:Frag}{vs:List V}{H:Hp}{Q:VK}{E:XK}
theorem Dg(h:dq K vs H Q E):qm K (eD9 Q) (start ["masks"] vs) H:=by
 obtain⟨A,ms,rfl,hA,q⟩:=h;show qm K _ [some (.ref A)] H;unfold qm;symm;rw[rd hA];exact q
variable{cs:List Int}
theorem Jd{Mc:List Int}{z:Int}(hC:aN cs Mc.length)(mm:∀ m∈Mc,0<=m/\m<64):∀ m∈sgAt Mc (othL cs z),0<=m/\m<64:=fun m hm=>by
 unfold sgAt at hm;obtain⟨x,hx,rfl⟩:=MJ.mp hm;have ci:=hC.2 x (MK.mp hx).1;exact vO mm ci.1 ci.2
def kf(K:Frag)(c:RCl RK):Sp:=fun vs H Q _=>∃(k:RK) (r p A M:Addr) (ws:List (List Nat)) (cs Mc ms:List Int) (n m z s:Int),vs=[.ref r,.ref A,.int z,.int s,.ref M]/\IsRule H c k r p ws cs n m/\aN cs Mc.length/\(∀ m∈Mc,0<=m/\m<64)/\H A=some (.lst (Mc.map V.int))/\H M=some (.lst (ms.map V.int))/\∀ H',Same H H'->Q (.bl (sumB cs n Mc z s ms)) H'
def gy(K:Frag)(c:RCl RK):TS:=
 (tSeq (tAsg (tOp cAdd (tVar 3) (tCB kSum (tCons (tComp [none,none] (iList K (tVar 5)) (gName 1) tTrue (tOp cIx (tCall (bz K) [] E0 (tCons (tVar 1) tNil)) (tC (.int 0)))) tNil))) (gName 6))
  (tSeq (tAsg (tOp cAdd (tVar 3) (tCB kSum (tCons (tComp [none,none] (iList K (tVar 5)) (gName 1) tTrue (tOp cIx (tCall (bz K) [] E0 (tCons (tVar 1) tNil)) (tUn (rU fun i=>.int (-i)) (tC (.int 1))))) tNil))) (gName 7))
  (tRet (tOrV (tOp (cCmp fun i j=>decide (j<i)) (tVar 6) (aD c c.ok "number" (iP K c) (tVar 0) tNil)) (tOp (cCmp fun i j=>decide (i<j)) (tVar 7) (aD c c.ok "number" (iP K c) (tVar 0) tNil))))))
def gz(K:Frag)(c:RCl RK):TS:=
 (tSeq (tAsg (tCall (bU K) [] E0 (tCons (tVar 1) (tCons (tCall (bE K c) [] E0 (tCons (tVar 0) (tCons (tVar 2) tNil))) tNil))) (gName 5))
  (tSeq (tIfS (tB (tCall (dq K) [] E0 (tCons (tVar 5) tNil))) (tRet (tC (.bl true))) tNext)
  (gy K c)))
def kg(K:Frag)(c:RCl RK):TS:=
 (tSeq (tIfS (tTest (tOp (cNe K) (tVar 4) (tLst tNil))) (tRet (tC (.bl false))) tNext)
  (gz K c))
variable{c:RCl RK}
theorem tz {k:RK} {r p A M B:Addr} {ws:List (List Nat)} {os:List Int} {n m z s:Int} (x:IsRule H c k r p ws cs n m) (ol:os.length<=63) (om:∀ m∈os,0<=m/\m<64) (on:¬ 0∈os) (eB:H B=some (.lst (os.map V.int)))
  (q:∀ H',Same H H'->Q (.bl (decide (n<s+(os.map loM).sum)||decide (s+(os.map hiM).sum<n))) H'):
  gy K c (eD9 Q) [some (.ref r),some (.ref A),some (.int z),some (.int s),some (.ref M),some (.ref B),none,none] H:=by
 have lh:∀ y∈os,_:=fun y hy=>Ga (om y hy).1 (om y hy).2 (fun e=>on (e ▸ hy));unfold gy;symm;refine⟨⟨_,MO eB⟩,?_⟩;refine aX (xs:=os) (fun _=>true) loM (by omega) (MO eB) ?_ ?_ ?_
 . intro y H1 R hy s1 k1;exact k1 _ (Mw _)
 . intro y H1 Q1 hy hb s1 k1;have hl:=lh y hy;show tOp cIx _ _ [none,some (.int y)] H1 Q1;symm;refine⟨y,rfl,by have:=(g8 (om y hy).1 (om y hy).2);have:=this.1;omega,fun l H2 s2 hl2 el=>?_⟩;refine ixI el (by decide) (by omega) ?_;exact k1 _ s2
 . intro l1 H1 hl1 s1 el1;rw[qz] at el1;symm;refine zD el1 (fun y hy=>by obtain⟨z,hz,rfl⟩:=MJ.mp hy;have:=(lh z hz).2.2.1;omega) (by rw[Mr];omega) ?_;symm;refine⟨⟨_,MO (s1 _ _ eB)⟩,?_⟩;refine aX (xs:=os) (fun _=>true) hiM (by omega) (MO (s1 _ _ eB)) ?_ ?_ ?_
   . intro y H2 R hy s2 k2;exact k2 _ (Mw _)
   . intro y H2 Q2 hy hb s2 k2;have hl:=lh y hy;show tOp cIx _ _ [none,some (.int y)] H2 Q2;symm;refine⟨y,rfl,by have:=(g8 (om y hy).1 (om y hy).2);have:=this.1;omega,fun l H3 s3 hl3 el=>?_⟩;refine ixL el (vR hl.1.1) ?_;exact k2 _ s3
   . intro l2 H2 hl2 s2 el2;rw[qz] at el2;symm;refine zD el2 (fun y hy=>by obtain⟨z,hz,rfl⟩:=MJ.mp hy;have:=(lh z hz).2.2.2;omega) (by rw[Mr];omega) ?_;symm;have s12:=s1.trans s2;have x2:=x.same s12;obtain⟨dx,W,C,h1,h2,h3⟩:=x2.ex;refine methE (k:=k) rfl x2.ok h1 (by rfl) ?_;symm;refine⟨r,p,ws,cs,n,m,rfl,x2,?_⟩;symm;by_cases hb:n<s+(os.map loM).sum
     . rw[Mv hb,ON] at q;rw[Mv hb];symm;exact q _ s12
     . rw[Mu hb,NC] at q;rw[Mu hb];symm;refine methE (k:=k) rfl x2.ok h1 (by rfl) ?_;symm;refine⟨r,p,ws,cs,n,m,rfl,x2,?_⟩;symm;exact q _ s12
theorem tD {k:RK} {r p A M:Addr} {ws:List (List Nat)} {Mc:List Int} {n m z s:Int} (x:IsRule H c k r p ws cs n m) (hC:aN cs Mc.length) (mm:∀ m∈Mc,0<=m/\m<64) (hA:H A=some (.lst (Mc.map V.int)))
  (q:∀ H',Same H H'->Q (.bl (smB (sgAt Mc (othL cs z)) n s)) H'):
  gz K c (eD9 Q) [some (.ref r),some (.ref A),some (.int z),some (.int s),some (.ref M),none,none,none] H:=by
 have hC2:aN (othL cs z) Mc.length:=⟨ML (MM _ _) hC.1,fun y hy=>hC.2 y (MK.mp hy).1⟩;have ol:(sgAt Mc (othL cs z)).length<=63:=by unfold sgAt;rw[Mr];exact hC2.1
 have om:=Jd (z:=z) hC mm;unfold gz;symm;refine⟨k,r,p,ws,cs,n,m,z,rfl,x,hC.1,fun O H1 s1 hO eO=>?_⟩;symm;refine⟨A,O,Mc,othL cs z,rfl,s1 _ _ hA,eO,hC2,fun B H2 s2 hB eB=>?_⟩;have s12:=s1.trans s2;generalize sgAt Mc (othL cs z)=os at*;symm;rw[aA];symm;refine⟨B,os,rfl,eB,?_⟩;unfold smB at q;by_cases h0:0∈os
 . rw[Mv h0,ON] at q;rw[Mv h0];refine⟨true,rfl,?_⟩;symm;exact q _ s12
 . rw[Mu h0,NC] at q;rw[Mu h0];refine⟨false,rfl,?_⟩;symm;exact tz (x.same s12) ol om h0 eB fun H' s3=>q H' (s12.trans s3)
theorem xv(h:kf K c vs H Q E):kg K c (eD9 Q) (start ["rule","masks","cell","sign","more","some","least","greatest"] vs) H:=by
 obtain⟨k,r,p,A,M,ws,cs,Mc,ms,n,m,z,s,rfl,x,hC,mm,hA,hM,q⟩:=h;show kg K c _ [some (.ref r),some (.ref A),some (.int z),some (.int s),some (.ref M),none,none,none] H;unfold kg;rw[aE,aA];symm;refine⟨aR (by decide),fun Z hZ=>?_⟩;obtain⟨H1,z9,s1,eZ⟩:∃ z,upd H Z (.lst [])=z/\Same H z/\z Z=some (.lst (([]:List Int).map V.int)):=aY _ hZ;rw[z9];refine nk (s1 _ _ hM) eZ ?_;unfold sumB at q
 cases hb:decide (ms=[]) with
 | false=>
  rw[hb,MQ] at q;refine⟨true,rfl,?_⟩;symm;exact q _ s1
 | true=>
  rw[hb,MR] at q;refine⟨false,rfl,?_⟩;symm;exact tD (x.same s1) hC mm (s1 _ _ hA) fun H' s2=>q H' (s1.trans s2)
theorem EN(t:TK):decide (tkC t=[115,117,109])=decide (t=.sum):=by cases t <;> decide
theorem y0(xs:List Int):PyData.eqv (.list (xs.map PyData.int)) (.list (xs.map PyData.int))=true:=by
 rw[PyData.eqv,uv];simp
theorem xw(n:Int):PyData.eqv (.int n) (.int n)=true:=by
 rw[PyData.eqv];simp
def rJ(K:Frag)(c:RCl RK):Sp:=cN K c .Sum
def mN(K:Frag)(c:RCl RK):TS:=
 (tRet (tOp (cEq K) (tCB kSum (tCons (aD c c.ok "signs_at" (eV K c) (tVar 0) (tCons (tVar 1) tNil)) tNil)) (tFldK c (tVar 0) "amount")))
theorem Ii{xs:List Int}{n:Nat}(hC:aN cs n)(hn:n=xs.length)(hx:∀ x∈xs,0<=x/\x<=1000):∀ x∈sgAt xs cs,0<=x/\x<=1000:=fun x hm=>by
 unfold sgAt at hm;obtain⟨c,hc,rfl⟩:=MJ.mp hm;have:=hC.2 c hc;have hl:c.toNat<xs.length:=by omega
 rw[List.getD,Mt hl];exact hx _ (MT hl)
theorem At(h:rJ K c vs H Q E):mN K c (eD9 Q) (start ["self","filling"] vs) H:=by
 obtain⟨r,p,f,ws,cs,xs,n,m,h,w,g,rfl,x,ha,F,hf,hC,hx,q⟩:=h;obtain⟨dx,W,C,h1,h2,h3⟩:=x.ex;show mN K c _ [some (.ref r),some (.ref f)] H;unfold mN;symm;refine methE rfl x.ok h1 (by rfl) ?_;symm;refine⟨r,p,f,ws,cs,xs,n,m,rfl,x,hf,hC,fun l H1 s1 hl el=>?_⟩;have Mn:(sgAt xs cs).length<=100:=by unfold sgAt;rw[Mr];exact ML hC.1 (by decide)
 symm;refine zD el (fun y hy=>by have:=Ii hC rfl hx y hy;omega) (by omega) ?_;refine fldE rfl x.ok (s1 _ _ h1) (v:=.int n) (by rfl) ?_;symm;exact q _ s1
theorem Cu:∀ l:List Int,risB l=(List.range (l.length-1)).all fun i=>decide (l.getD i 0<l.getD (i+1) 0)
 | []=>rfl
 | [x]=>rfl
 | x::y::r=>by
  have ih:=Cu (y::r);show(decide (x<y)&&risB (y::r))=(List.range (r.length+1)).all fun i=>decide ((x::y::r).getD i 0 < (x::y::r).getD (i+1) 0);rw[ih,List.range_succ_eq_map,O0,Op];rfl
def nA(K:Frag)(c:RCl RK):Sp:=cN K c .Rising
def jA(K:Frag)(c:RCl RK):TS:=
 (tSeq (tAsg (aD c c.ok "signs_at" (eV K c) (tVar 0) (tCons (tVar 1) tNil)) (gName 2))
  (tRet (tCB kAll (tCons (tComp [none,none,some 2] (gi (tCons (tOp cSub (tCB kLen (tCons (tVar 2) tNil)) (tC (.int 1))) tNil)) (gName 1) tTrue (tOp (cCmp fun i j=>decide (i<j)) (tOp cIx (tVar 2) (tVar 1)) (tOp cIx (tVar 2) (tOp cAdd (tVar 1) (tC (.int 1)))))) tNil))))
theorem vS(h:nA K c vs H Q E):jA K c (eD9 Q) (start ["self","filling","signs"] vs) H:=by
 obtain⟨r,p,f,ws,cs,xs,n,m,h,w,g,rfl,x,ha,F,hf,hC,hx,q⟩:=h;obtain⟨dx,W,C,h1,h2,h3⟩:=x.ex;show jA K c _ [some (.ref r),some (.ref f),none] H;unfold jA;symm;refine methE rfl x.ok h1 (by rfl) ?_;symm;refine⟨r,p,f,ws,cs,xs,n,m,rfl,x,hf,hC,fun l H1 s1 hl el=>?_⟩;have Mn:(sgAt xs cs).length<=100:=by unfold sgAt;rw[Mr];exact ML hC.1 (by decide)
 have q1:∀ H',Same H H'->Q (.bl (risB (sgAt xs cs))) H':=q;generalize sgAt xs cs=sg at*;symm;rw[bc el,Mr];symm;refine⟨_,rfl,by omega,by omega,?_⟩;have en:((sg.length:Int)-1).toNat=sg.length-1:=by omega
 rw[en];refine tV (fun _=>true) (fun i=>.bl (decide (sg.getD i 0<sg.getD (i+1) 0))) (by omega) ?_ ?_ ?_
 . intro i H2 R hi s2 k2;exact k2 _ (Mw _)
 . intro i H2 Q2 hi hb s2 k2;show tOp _ _ _ [none,some (.int (0+(i:Int))),some (.ref l)] H2 Q2;rw[Og];symm;refine ixI (s2 _ _ el) (by omega) (by omega) ?_;refine ixI (s2 _ _ el) (by omega) (by omega) ?_;symm;have e1:(i:Int).toNat=i:=by omega
   have e2:((i:Int)+1).toNat=i+1:=by omega
   rw[e1,e2];exact k2 _ (Mw _)
 . intro l2 H2 hl2 s2 el2;rw[aZ] at el2;refine lS (bs:=(List.range (sg.length-1)).map fun i=>decide (sg.getD i 0<sg.getD (i+1) 0)) (by rw[el2,Na];rfl) ?_
   have e:((List.range (sg.length-1)).map fun i=>decide (sg.getD i 0<sg.getD (i+1) 0)).all id=risB sg:=by
    rw[Cu,Op];rfl
   rw[e];exact q1 _ (s1.trans s2)
theorem FL(l:List Int)(x:Int):seenN (l++[x])=if (seenN l).1<x then(x,(seenN l).2+1) else seenN l:=by
 unfold seenN;rw[Oh];rfl
def qA(K:Frag)(c:RCl RK):Sp:=cN K c .Seen
def lA(K:Frag)(c:RCl RK):TS:=
 (tSeq (tAsg (tC (.int 0)) (gName 2))
  (tSeq (tAsg (tC (.int 0)) (gName 3))
  (tSeq (tFor (iList K (aD c c.ok "signs_at" (eV K c) (tVar 0) (tCons (tVar 1) tNil))) (gName 4)
  (tIfS (tTest (tOp (cCmp fun i j=>decide (j<i)) (tVar 4) (tVar 2))) (tSeq (tAsg (tVar 4) (gName 2))
  (tAsg (tOp cAdd (tVar 3) (tC (.int 1))) (gName 3))) tNext))
  (tRet (tOp (cEq K) (tVar 3) (tFldK c (tVar 0) "amount"))))))
theorem y4(h:qA K c vs H Q E):lA K c (eD9 Q) (start ["self","filling","greatest","seen","sign"] vs) H:=by
 obtain⟨r,p,f,ws,cs,xs,n,m,h,w,g,rfl,x,ha,F,hf,hC,hx,q⟩:=h;obtain⟨dx,W,C,h1,h2,h3⟩:=x.ex;show lA K c _ [some (.ref r),some (.ref f),none,none,none] H;unfold lA;symm;refine methE rfl x.ok h1 (by rfl) ?_;symm;refine⟨r,p,f,ws,cs,xs,n,m,rfl,x,hf,hC,fun l H1 s1 hl el=>?_⟩;have q1:∀ H',Same H H'->Q (.bl (decide ((seenN (sgAt xs cs)).2=n))) H':=q;generalize sgAt xs cs=sg at*;symm;refine⟨⟨_,MO el⟩,bp (K:=K) (xs:=sg.map V.int) (fun i σ H'=>∃ cv:Option V,σ=[some (.ref r),some (.ref f),some (.int (seenN (sg.take i)).1),some (.int (seenN (sg.take i)).2),cv]/\H'=H1) ⟨none,rfl,rfl⟩ (fun i σ H' _ ⟨_,_,e⟩=>by rw[e];exact MO el) ?_ ?_⟩
 . rintro i y σ H2 hy ⟨cv,rfl,rfl⟩;rw[MA] at hy
   cases e:sg[i]? with
   | none=>rw[e] at hy;cases hy
   | some z=>
    rw[e] at hy;cases hy;have et:sg.take (i+1)=sg.take i++[z]:=by rw[OB,e];rfl
    have ea:=FL (sg.take i) z;rw[← et] at ea;symm;rw[aA];symm;by_cases hz:(seenN (sg.take i)).1<z
    . rw[Mv hz];rw[MU hz] at ea;refine iteT ?_;rw[ea];exact⟨_,rfl,by first | trivial | rfl⟩
    . rw[Mu hz];rw[MP hz] at ea;refine iteF ?_;rw[ea];exact⟨_,rfl,by first | trivial | rfl⟩
 . rintro σ H2 ⟨cv,rfl,rfl⟩;rw[Mr,Nt];symm;refine fldE rfl x.ok (s1 _ _ h1) (v:=.int n) (by rfl) ?_;symm;exact q1 _ s1
def o0(K:Frag)(c:RCl RK):Sp:=fun vs H Q E=>∃ k,iR K c k vs H Q E
def kh(K:Frag)(c:RCl RK):TS:=
 (tRet (tComp [none,none,some 1,some 0] (iTup K (tFldK c (tVar 0) "cells")) (gName 1) (tTest (tOp (cEq K) (tOp cIx (tVar 2) (tVar 1)) (tFldK c (tVar 3) "mark"))) (tVar 1)))
theorem xy(h:o0 K c vs H Q E):kh K c (eD9 Q) (start ["self","filling"] vs) H:=by
 obtain⟨k,r,p,f,ws,cs,xs,n,m,rfl,x,hf,⟨hn,hc⟩,q⟩:=h;obtain⟨dx,W,C,h1,h2,h3⟩:=x.ex;show kh K c _ [some (.ref r),some (.ref f)] H;unfold kh;rw[cR,xc];refine fldE rfl x.ok h1 (v:=.ref C) (by rfl) ?_;refine⟨C,rfl,⟨_,Qa h3⟩,?_⟩;refine yq (xs:=cs) (fun c=>decide (xs.getD c.toNat 0=m)) (fun c=>c) (by omega) h3 ?_ ?_ ?_
 . intro z H1 R hz s1 k1;show tTest _ [none,some (.int z),some (.ref f),some (.ref r)] H1 R;symm;have:=hc z hz;refine ixI (s1 _ _ hf) this.1 (by omega) ?_;refine fldE rfl x.ok (s1 _ _ h1) (v:=.int m) (by rfl) ?_;symm;exact k1 _ (Mw _)
 . intro z H1 Q1 hz hb s1 k1;exact k1 _ (Mw _)
 . intro l H1 hl s1 el;rw[NN] at el;exact q l H1 s1 hl el
def o4(K:Frag)(c:RCl RK):Sp:=cN K c .Count
def ki(K:Frag)(c:RCl RK):TS:=
 (tRet (tOp (cEq K) (tCB kLen (tCons (aD c c.ok "marked" (iR K c) (tVar 0) (tCons (tVar 1) tNil)) tNil)) (tFldK c (tVar 0) "amount")))
theorem xA(h:o4 K c vs H Q E):ki K c (eD9 Q) (start ["self","filling"] vs) H:=by
 obtain⟨r,p,f,ws,cs,xs,n,m,h,w,g,rfl,x,ha,F,hf,hC,hx,q⟩:=h;obtain⟨dx,W,C,h1,h2,h3⟩:=x.ex;show ki K c _ [some (.ref r),some (.ref f)] H;unfold ki;symm;refine methE rfl x.ok h1 (by rfl) ?_;symm;refine⟨r,p,f,ws,cs,xs,n,m,rfl,x,hf,hC,fun l H1 s1 hl el=>?_⟩;symm;rw[bc el,Mr];refine fldE rfl x.ok (s1 _ _ h1) (v:=.int n) (by rfl) ?_;symm;exact q _ s1
def mO(K:Frag):Sp:=fun vs H Q _=>∃(S M:Addr) (sq ms:List Int),vs=[.ref S,.ref M]/\H S=some (.lst (sq.map V.int))/\H M=some (.lst (ms.map V.int))/\sq.length<=100/\∀ H',Same H H'->Q (.bl (sq.all fun c=>decide (c∈ms))) H'
def mP(K:Frag):TS:=
 (tRet (tCB kAll (tCons (tComp [none,none,some 1] (iList K (tVar 0)) (gName 1) tTrue (tOp (cIn K false) (tVar 1) (tVar 2))) tNil)))
variable{vs:List V}
theorem Au{K:Frag}{H:Hp}{Q:VK}{E:XK}(h:mO K vs H Q E):mP K (eD9 Q) (start ["some","cells"] vs) H:=by
 obtain⟨S,M,sq,ms,rfl,hS,hM,hn,q⟩:=h;show mP K _ [some (.ref S),some (.ref M)] H;unfold mP;symm;refine⟨⟨_,MO hS⟩,?_⟩;refine bT (xs:=sq.map V.int) (fun _=>true) (fun i=>.bl (decide (sq.getD i 0∈ms))) (by rw[Mr];omega) (MO hS) ?_ ?_ ?_
 . intro i x H1 R hx s1 k1;exact k1 _ (Mw _)
 . intro i x H1 Q1 hx hb s1 k1;rw[MA] at hx
   cases e:sq[i]? with
   | none=>rw[e] at hx;cases hx
   | some z=>
    rw[e] at hx;cases hx;have k2:=k1 _ (Mw H1);rw[List.getD,e] at k2;show tOp (cIn K false) _ _ [none,some (.int z),some (.ref M)] H1 Q1;symm;rw[rd (s1 _ _ hM)];exact k2
 . intro l H1 hl s1 el;rw[aZ,Mr] at el;refine lS (bs:=(List.range sq.length).map fun i=>decide (sq.getD i 0∈ms)) (by rw[el,Na];rfl) ?_
   have e:((List.range sq.length).map fun i=>decide (sq.getD i 0∈ms)).all id=sq.all fun c=>decide (c∈ms):=by
    rw[Op,MZ,MC,MC];constructor
    . intro h c hc;obtain⟨i,hi,rfl⟩:=NY.mp hc;have:=h i (MF.mpr hi);dsimp only[Function.comp,id] at this;rw[List.getD,Mt hi] at this;exact this
    . intro h i hi;have hi:=MF.mp hi;have:=h _ (MT hi);dsimp only[Function.comp,id];rw[List.getD,Mt hi];exact this
   rw[e];exact q _ s1
def lJ(K:Frag)(c:RCl RK):Sp:=cN K c .NoSquare
theorem GP{h w g:Int}(F:FlOk h w g):(squL h w).length<=16:=by
 obtain⟨h0,h1,w0,w1,m16,g0,g1⟩:=F;unfold squL;rw[Mr];refine ML (MM _ _) ?_;rw[Nv];omega
def gA(K:Frag)(c:RCl RK):TS:=
 (tSeq (tAsg (aD c c.ok "marked" (iR K c) (tVar 0) (tCons (tVar 1) tNil)) (gName 2))
  (tRet (tNotV (tCB kAny (tCons (tComp [none,none,some 2] (iList K (tCall (jf K) [] E0 (tCons (tFldK c (tVar 0) "floor") tNil))) (gName 1) tTrue (tCall (mO K) [] E0 (tCons (tVar 1) (tCons (tVar 2) tNil)))) tNil)))))
theorem tE{K:Frag}{c:RCl RK}{H:Hp}{Q:VK}{E:XK}(h:lJ K c vs H Q E):gA K c (eD9 Q) (start ["self","filling","cells"] vs) H:=by
 obtain⟨r,p,f,ws,cs,xs,n,m,h,w,g,rfl,x,ha,F,hf,hC,hx,q⟩:=h;obtain⟨dx,W,C,h1,h2,h3⟩:=x.ex;show gA K c _ [some (.ref r),some (.ref f),none] H;unfold gA;symm;refine methE rfl x.ok h1 (by rfl) ?_;symm;refine⟨r,p,f,ws,cs,xs,n,m,rfl,x,hf,hC,fun l H1 s1 hl el=>?_⟩;symm;refine fldE rfl x.ok (s1 _ _ h1) (v:=.ref p) (by rfl) ?_;symm;refine⟨p,h,w,g,rfl,s1 _ _ ha,F,fun L as H2 s2 hL xL _ _ _=>?_⟩;have sl:=GP F;refine⟨L,rfl,⟨_,MO xL.top⟩,?_⟩;refine bT (xs:=as.map V.ref) (fun _=>true) (fun i=>.bl (((squL h w).getD i []).all fun c=>decide (c∈mkAt xs cs m))) (by rw[Mr,xL.len];omega) (MO xL.top) ?_ ?_ ?_
 . intro i x H3 R hx s3 k3;exact k3 _ (Mw _)
 . intro i y H3 Q3 hi hb s3 k3;obtain⟨b,hb,rfl⟩:=bx hi;have hlt:i < (squL h w).length:=by rw[← xL.len];exact(My.mp hb).1
   have e:=Mt hlt;have eg:(squL h w).getD i []=(squL h w)[i]:=by rw[List.getD,e];rfl
   have hq4:((squL h w)[i]).length<=100:=by
    have hm:=MT hlt;generalize (squL h w)[i]=z at hm;unfold squL at hm;obtain⟨j,_,rfl⟩:=MJ.mp hm;show 4<=100;decide
   show tCall _ _ _ _ [none,some (.ref b),some (.ref l)] H3 Q3;symm;refine⟨b,l,_,_,rfl,s3 _ _ (xL.at_ i b _ hb e),s3 _ _ (s2 _ _ el),hq4,fun H4 s4=>?_⟩;have:=k3 H4 s4;rw[eg] at this;exact this
 . intro D H3 hD s3 eD;rw[aZ,Mr,xL.len] at eD;refine C5 (bs:=(List.range (squL h w).length).map fun i=>((squL h w).getD i []).all fun c=>decide (c∈mkAt xs cs m)) (by rw[eD,Na];rfl) ?_
   have e:((List.range (squL h w).length).map fun i=>((squL h w).getD i []).all fun c=>decide (c∈mkAt xs cs m)).any id=(squL h w).any fun sq=>sq.all fun c=>decide (c∈mkAt xs cs m):=by
    rw[Qk,MZ,Ob,Ob];constructor
    . rintro⟨i,hi,hh⟩;have hi:=MF.mp hi;dsimp only[Function.comp,id] at hh;have eg:(squL h w).getD i []=(squL h w)[i]:=by rw[List.getD,Mt hi];rfl
      rw[eg] at hh;exact⟨_,MT hi,hh⟩
    . rintro⟨sq,hs,hh⟩;obtain⟨i,hi,rfl⟩:=NY.mp hs;refine⟨i,MF.mpr hi,?_⟩;dsimp only[Function.comp,id];have eg:(squL h w).getD i []=(squL h w)[i]:=by rw[List.getD,Mt hi];rfl
      rw[eg];exact hh
   rw[e];symm;exact q _ ((s1.trans s2).trans s3)
def d7(K:Frag):Sp:=fun vs H Q _=>∃(a l:Addr) (h w g st:Int) (cs:List Int),vs=[.ref a,.ref l,.int st]/\IsFl H a h w g/\0<w/\w<100/\H l=some (.lst (cs.map V.int))/\cs.length<=63/\
 ∀(p:Addr) (H':Hp) (rs:List Int),Same H H'->H p=none->H' p=some (.lst (rs.map V.int))->rs.Pairwise (· < ·)->(∀ x,x∈rs↔RC h w cs st x)->Q (.ref p) H'
def qo(K:Frag):TS:=
 (tSeq (tIfS (tTest (tOp (cIn K true) (tVar 2) (tVar 1))) (tRet (tLst tNil)) tNext)
  (tSeq (tAsg (tLst (tCons (tVar 2) tNil)) (gName 3))
  (tSeq (tAsg (tC (.int 0)) (gName 4))
  (tSeq (zL (tTest (tOp (cCmp fun i j=>decide (i<j)) (tVar 4) (tCB kLen (tCons (tVar 3) tNil))))
  (tSeq (tFor (iList K (tCall (dU K) [] E0 (tCons (tVar 0) (tCons (tOp cIx (tVar 3) (tVar 4)) tNil)))) (gName 5)
  (tIfS (tAnd (tTest (tOp (cIn K false) (tVar 5) (tVar 1))) (tTest (tOp (cIn K true) (tVar 5) (tVar 3)))) (tDrop (tBM K "list" bo (tVar 3) (tCons (tVar 5) tNil))) tNext))
  (tAsg (tOp cAdd (tVar 4) (tC (.int 1))) (gName 4))))
  (tRet (tCB eI (tCons (tVar 3) tNil)))))))
variable{K:Frag}{vs:List V}{H:Hp}{Q:VK}{E:XK}
theorem Dh(h:d7 K vs H Q E):qo K (eD9 Q) (start ["floor","cells","start","found","place","cell"] vs) H:=by
 obtain⟨a,l,h,w,g,st,cs,rfl,ha,w0,w1,hl,hn,k⟩:=h;show qo K _ [some (.ref a),some (.ref l),some (.int st),none,none,none] H;unfold qo;rw[aE,aA];symm;rw[lR hl];symm;by_cases hs:st∈cs
 . rw[MP (by simpa using hs)];symm;refine⟨lnR rfl,fun f hf=>?_⟩
   refine⟨fun m σ H'=>∃(fs:List Int) (pl:Nat) (cv:Option V),σ=[some (.ref a),some (.ref l),some (.int st),some (.ref f),some (.int pl),cv]/\Same H H'/\H' f=some (.lst (fs.map V.int))/\BI h w cs st fs pl/\m=cs.length-pl,
    ⟨_,[st],0,none,rfl,(Mw H).laid hf,ak,BI.start hs,rfl⟩,?_⟩
   rintro m σ H1 ⟨fs,pl,cv,rfl,s1,e1,B,rfl⟩;have hfl:=B.len;symm;rw[bc e1,Mr];symm;by_cases hp:pl<fs.length
   . rw[MU (by simpa using hp)];obtain⟨x,hx⟩:∃ x,fs[pl]? =some x:=⟨fs[pl],by simp[hp]⟩;have rx:RC h w cs st x:=B.rc x (Mz hx)
     refine⟨fun σ H'=>∃(fs:List Int) (cv:Option V),σ=[some (.ref a),some (.ref l),some (.int st),some (.ref f),some (.int ((pl:Int)+1)),cv]/\Same H H'/\H' f=some (.lst (fs.map V.int))/\BI h w cs st fs (pl+1),
      fun σ' H' ⟨fs',cv',e,s',e',B'⟩=>⟨_,by omega,fs',pl+1,cv',by rw[e];rfl,s',e',B',rfl⟩,?_⟩
     symm;rw[F8 e1];refine ba (ux (by omega) (by omega)) ?_;symm;rw[show((pl:Int)).toNat=pl from NU _,eJ hx];refine⟨a,h,w,g,x,rfl,s1 _ _ ha,w0,w1,fun b H2 s2 hb e2=>?_⟩;have s12:=s1.trans s2
     refine⟨b,rfl,⟨_,MO e2⟩,bp (K:=K) (xs:=(besL h w x).map V.int) (fun i σ H'=>∃(f2:List Int) (cv:Option V),σ=[some (.ref a),some (.ref l),some (.int st),some (.ref f),some (.int pl),cv]/\Same H H'/\H' b=some (.lst ((besL h w x).map V.int))/\H' f=some (.lst (f2.map V.int))/\BJ h w cs st fs pl ((besL h w x).take i) f2)
      ⟨fs,cv,rfl,s12,e2,s2 _ _ e1,BJ.zero B⟩ (fun i σ H' _ ⟨_,_,_,_,q,_⟩=>MO q) ?_ ?_⟩
     . rintro i y σ H3 hy ⟨f2,cv2,rfl,s3,eb,ef,J⟩;rw[MA] at hy
       cases hz:(besL h w x)[i]? with
       | none=>rw[hz] at hy;cases hy
       | some z=>
        rw[hz] at hy;cases hy;have hlen2:f2.length<=63:=ML (lT J.nd fun x hx=>(J.rc x hx).mem) hn;have hmem:z∈besL h w x:=Mz hz;have htake:(besL h w x).take (i+1)=(besL h w x).take i++[z]:=by rw[NM,hz];rfl
        have J2:=J.more rx hmem;rw[← htake] at J2;symm;rw[aA];symm;rw[rd (s3 _ _ hl)];symm
        have fin:∀ H4:Hp,H4 f=some (.lst ((addC cs f2 z).map V.int))->(∀ c,c≠f->H4 c=H3 c)->∃(f2:List Int) (cv:Option V),[some (V.ref a),some (.ref l),some (.int st),some (.ref f),some (.int pl),some (.int z)]=[some (.ref a),some (.ref l),some (.int st),some (.ref f),some (.int pl),cv]/\Same H H4/\H4 b=some (.lst ((besL h w x).map V.int))/\H4 f=some (.lst (f2.map V.int))/\BJ h w cs st fs pl ((besL h w x).take (i+1)) f2:=fun H4 q1 q2=>
         ⟨_,_,rfl,fun c o e=>by rw[q2 c (aC e hf)];exact s3 c o e,by rw[q2 b (fun e=>by rw[e] at hb;rw[e1] at hb;cases hb)];exact eb,q1,J2⟩
        by_cases c1:z∈cs
        . rw[MU (by simpa using c1)];rw[lR ef];by_cases c2:z∈f2
          . simp only[c2,decide_true,Oa,MP ME,V.bl.injEq,exists_eq_left'];refine fin H3 ?_ fun _ _=>rfl;rw[ef,addC,MP (fun q=>q.2 c2)]
          . simp only[c2,Ql,Oc,Qh,V.bl.injEq,exists_eq_left'];symm;refine⟨bq ef,?_⟩;rw[fP ef];refine⟨by rw[Mr];exact aK (by omega),fin _ ?_ fun c hc=>aq hc⟩;rw[ak,addC,MU ⟨c1,c2⟩];simp
        . rw[MP (by simpa using c1)]
          try simp only[MP ME]
          refine fin H3 ?_ fun _ _=>rfl;rw[ef,addC,MP (fun q=>c1 q.1)]
     . rintro σ H3 ⟨f2,cv2,rfl,s3,eb,ef,J⟩;rw[Mr,Nt] at J;symm;exact⟨f2,cv2,rfl,s3,ef,J.done B hx⟩
   . rw[MP (by simpa using hp)];symm;unfold eI;dsimp only;rw[e1];refine⟨fs,rfl,by omega,fun rs p hpn pm ps=>?_⟩;refine k p _ rs (s1.laid hpn) (s1.free hpn) ak (Ev pm ps B.nd) fun x=>?_;rw[pm.mem_iff];exact B.done hp x
 . rw[MU (by simpa using hs)];symm;refine⟨Nu _,fun p hp=>k p _ [] ((Mw H).laid hp) hp ak .nil fun x=>⟨(fun q=>nomatch q),fun r=>absurd (RC.st r) hs⟩⟩
variable{h w:Int}{ms:List Int}
theorem joinB_iff:joinB h w ms=true↔(ms=[]\/(ms.Pairwise (· < ·)/\∀ x∈ms,RC h w ms (ms.headD 0) x)):=by
 unfold joinB;exact @decide_eq_true_iff _ (Classical.propDecidable _)
def jW(K:Frag)(c:RCl RK):Sp:=fun vs H Q E=>∃ k,jg K c k vs H Q E
def e7(K:Frag)(c:RCl RK):TS:=
 (tRet (tOrV (tOp (cEq K) (tVar 1) (tLst tNil)) (tOp (cEq K) (tCall (d7 K) [] E0 (tCons (tFldK c (tVar 0) "floor") (tCons (tVar 1) (tCons (tOp cIx (tVar 1) (tC (.int 0))) tNil)))) (tVar 1))))
variable{c:RCl RK}
theorem qO(h:jW K c vs H Q E):e7 K c (eD9 Q) (start ["self","cells"] vs) H:=by
 obtain⟨k,r,p,C,ws,cs,ms,n,m,h,w,g,rfl,x,ha,F,hC,hn,q⟩:=h;obtain⟨h0,h1',w0,w1,m16,g0,g1⟩:=id F;obtain⟨dx,W,C',h1,h2,h3⟩:=x.ex;show e7 K c _ [some (.ref r),some (.ref C)] H;unfold e7;symm;refine⟨lnR rfl,fun l hl=>?_⟩;obtain⟨H1,z9,s1,el⟩:∃ z,upd H l (.lst [])=z/\Same H z/\z l=some (.lst (([]:List Int).map V.int)):=aY _ hl;rw[z9];refine vm (s1 _ _ hC) el ?_;symm
 cases ms with
 | nil=>
  have e:joinB h w []=true:=joinB_iff.mpr (.inl rfl);have:=q _ s1;rw[e] at this;rw[Mv rfl,MU rfl];exact this
 | cons z zs=>
  rw[Mu (by simp),MP (by decide)];refine fldE rfl x.ok (s1 _ _ h1) (v:=.ref p) (by rfl) ?_;symm;refine ixL (s1 _ _ hC) (v:=V.int z) (dJ (j:=0) rfl) ?_;symm;refine⟨p,C,h,w,g,z,z::zs,rfl,s1 _ _ ha,by omega,by omega,s1 _ _ hC,hn,fun u H2 rs s2 hu eu rise mem=>?_⟩;refine vm eu (s2 _ _ (s1 _ _ hC)) ?_
  have e:decide (rs=z::zs)=joinB h w (z::zs):=by
   rw[MZ,Mx,joinB_iff];constructor
   . intro e;subst e;exact .inr ⟨rise,fun x hx=>(mem x).mp hx⟩
   . rintro(e | ⟨rise2,all⟩)
     . cases e
     . exact vt rise rise2 fun y=>⟨fun hy=>((mem y).mp hy).mem,fun hy=>(mem y).mpr (all y hy)⟩
  rw[e];exact q _ (s1.trans s2)
def nD(K:Frag)(c:RCl RK):Sp:=cN K c .Joined
def jB(K:Frag)(c:RCl RK):TS:=
 (tRet (aD c c.ok "is_joined" (jg K c) (tVar 0) (tCons (aD c c.ok "marked" (iR K c) (tVar 0) (tCons (tVar 1) tNil)) tNil)))
variable{xs cs:List Int}{m:Int}
theorem EO(hn:cs.length<=63):(mkAt xs cs m).length<=63:=by
 unfold mkAt;exact ML (MM _ _) hn
theorem vT(h:nD K c vs H Q E):jB K c (eD9 Q) (start ["self","filling"] vs) H:=by
 obtain⟨r,p,f,ws,cs,xs,n,m,h,w,g,rfl,x,ha,F,hf,hC,hx,q⟩:=h;obtain⟨dx,W,C,h1,h2,h3⟩:=x.ex;show jB K c _ [some (.ref r),some (.ref f)] H;unfold jB;symm;refine methE rfl x.ok h1 (by rfl) ?_;symm;refine methE rfl x.ok h1 (by rfl) ?_;symm;refine⟨r,p,f,ws,cs,xs,n,m,rfl,x,hf,hC,fun l H1 s1 hl el=>?_⟩;exact⟨r,p,l,ws,cs,_,n,m,h,w,g,rfl,x.same s1,s1 _ _ ha,F,el,EO hC.1,fun H2 s2=>q _ (s1.trans s2)⟩
variable{i:Nat}
theorem Av{j l:Nat}{x y z:V}{σ:St}{k:St->Hp->Prop}:gCons (gName i) (gCons (gName j) (gCons (gName l) gNil)) [x,y,z] σ H k=k (((σ.set i (some x)).set j (some y)).set l (some z)) H:=by
 refine propext ⟨fun h=>?_,fun h=>⟨x,_,rfl,y,_,rfl,z,_,rfl,rfl,h⟩⟩;obtain⟨x',_,e1,y',_,e2,z',_,e3,e4,h⟩:=h;cases e1;cases e2;cases e3;exact h
def g9(K:Frag)(c:RCl RK):Sp:=gq K c .Ring
def dB(K:Frag)(c:RCl RK):TS:=
 (tRet (tOp (cEq K) (tCB kLen (tCons (tComp [none,none,some 1] (iList K (tCall (dU K) [] E0 (tCons (tFldK c (tVar 0) "floor") (tCons (tVar 2) tNil)))) (gName 1) (tTest (tOp (cIn K false) (tVar 1) (tVar 2))) (tVar 1)) tNil)) (tC (.int 2))))
theorem GQ(h w c:Int):(besL h w c).length<=4:=by
 unfold besL
 repeat rw[M6]
 split <;> split <;> split <;> split <;> simp
theorem oA(h:g9 K c vs H Q E):dB K c (eD9 Q) (start ["self","cells","cell"] vs) H:=by
 obtain⟨r,p,C,ws,cs,ms,n,m,h,w,g,z,rfl,x,ha,F,hC,hn,q⟩:=h;obtain⟨h0,h1',w0,w1,m16,g0,g1⟩:=id F;obtain⟨dx,W,C',h1,h2,h3⟩:=x.ex;show dB K c _ [some (.ref r),some (.ref C),some (.int z)] H;unfold dB;symm;refine fldE rfl x.ok h1 (v:=.ref p) (by rfl) ?_;symm;refine⟨p,h,w,g,z,rfl,ha,by omega,by omega,fun b H2 s2 hb e2=>?_⟩;have bl:=GQ h w z;refine⟨b,rfl,⟨_,MO e2⟩,?_⟩;refine aX (xs:=besL h w z) (fun y=>decide (y∈ms)) (fun y=>y) (by omega) (MO e2) ?_ ?_ ?_
 . intro y H3 R hy s3 k3;show tTest _ [none,some (.int y),some (.ref C)] H3 R;symm;rw[rd (s3 _ _ (s2 _ _ hC))];exact⟨_,rfl,k3 _ (Mw _)⟩
 . intro y H3 Q3 hy hb s3 k3;exact k3 _ (Mw _)
 . intro l H3 hl s3 el;rw[NN] at el;symm;rw[bc el,Mr];symm;have:=q _ (s2.trans s3);unfold twoB at this
   have e:decide ((((besL h w z).filter fun y=>decide (y∈ms)).length:Int)=2)=decide (((besL h w z).filter fun y=>decide (y∈ms)).length=2):=by
    rw[MZ,Mx,Mx];omega
   rw[e];exact this
def qB(K:Frag)(c:RCl RK):Sp:=cN K c .Ring
def lB(K:Frag)(c:RCl RK):TS:=
 (tSeq (tAsg (aD c c.ok "marked" (iR K c) (tVar 0) (tCons (tVar 1) tNil)) (gName 2))
  (tRet (tAndV (aD c c.ok "is_joined" (jg K c) (tVar 0) (tCons (tVar 2) tNil)) (tCB kAll (tCons (tComp [none,none,some 2,some 0] (iList K (tVar 2)) (gName 1) tTrue (aD c c.ok "has_two_beside" (gq K c) (tVar 3) (tCons (tVar 2) (tCons (tVar 1) tNil)))) tNil)))))
theorem y7(h:qB K c vs H Q E):lB K c (eD9 Q) (start ["self","filling","cells"] vs) H:=by
 obtain⟨r,p,f,ws,cs,xs,n,m,h,w,g,rfl,x,ha,F,hf,hC,hx,q⟩:=h;obtain⟨dx,W,C,h1,h2,h3⟩:=x.ex;show lB K c _ [some (.ref r),some (.ref f),none] H;unfold lB;symm;refine methE rfl x.ok h1 (by rfl) ?_;symm;refine⟨r,p,f,ws,cs,xs,n,m,rfl,x,hf,hC,fun l H1 s1 hl el=>?_⟩;have hml:=EO (xs:=xs) (m:=m) hC.1;have q1:∀ H',Same H H'->Q (.bl (joinB h w (mkAt xs cs m)&&(mkAt xs cs m).all (twoB h w (mkAt xs cs m)))) H':=q;generalize mkAt xs cs m=ms at*;symm;refine methE rfl x.ok (s1 _ _ h1) (by rfl) ?_;symm;refine⟨r,p,l,ws,cs,ms,n,m,h,w,g,rfl,x.same s1,s1 _ _ ha,F,el,hml,fun H2 s2=>?_⟩;have s12:=s1.trans s2;symm
 cases hj:joinB h w ms with
 | false=>
  rw[hj] at q1
  first | exact iteF (q1 _ s12) | exact q1 _ s12
 | true=>
  rw[hj] at q1;refine iteT ?_;refine⟨⟨_,MO (s2 _ _ el)⟩,?_⟩;refine bT (xs:=ms.map V.int) (fun _=>true) (fun i=>.bl (twoB h w ms (ms.getD i 0))) (by rw[Mr];omega) (MO (s2 _ _ el)) ?_ ?_ ?_
  . intro i y H3 R hy s3 k3;exact k3 _ (Mw _)
  . intro i y H3 Q3 hy hb s3 k3;rw[MA] at hy
    cases e:ms[i]? with
    | none=>rw[e] at hy;cases hy
    | some z=>
     rw[e] at hy;cases hy;have s13:=s12.trans s3;have eg:ms.getD i 0=z:=by rw[List.getD,e];rfl
     show aD _ _ _ _ _ _ [none,some (.int z),some (.ref l),some (.ref r)] H3 Q3;refine methE rfl x.ok (s13 _ _ h1) (by rfl) ?_;symm;refine⟨r,p,l,ws,cs,ms,n,m,h,w,g,z,rfl,x.same s13,s13 _ _ ha,F,s3 _ _ (s2 _ _ el),hml,fun H4 s4=>?_⟩;have:=k3 H4 s4;rw[eg] at this;exact this
  . intro l2 H3 hl2 s3 el2;rw[aZ,Mr] at el2;refine lS (bs:=(List.range ms.length).map fun i=>twoB h w ms (ms.getD i 0)) (by rw[el2,Na];rfl) ?_
    have e:((List.range ms.length).map fun i=>twoB h w ms (ms.getD i 0)).all id=ms.all (twoB h w ms):=by
     have em:(List.range ms.length).map (fun i=>ms.getD i 0)=ms:=by
      refine PM (by simp) fun i h1 h2=>?_;simp at h1;simp[List.getD,Mt h1]
     have e2:(List.range ms.length).map (fun i=>twoB h w ms (ms.getD i 0))=ms.map (twoB h w ms):=by
      rw[← em,Na,em];rfl
     rw[e2,Op];rfl
    rw[e];exact q1 _ (s12.trans s3)
theorem FM{α:Type}(F:Int->α)(ss:List Int):(List.range ss.length).map (fun i=>F (ss.getD i 0))=ss.map F:=by
 refine N1 fun i=>?_;rw[MA,MA];by_cases h:i<ss.length
 . rw[Ny h,Mt h];simp[List.getD,h]
 . rw[M7 (by simpa using h),M7 (by omega)];rfl
theorem yw{α:Type}{l:List α}{x:α}(h:l[i]? =some x):l.take (i+1)=l.take i++[x]:=by
 rw[OB,h];rfl
variable{l:Addr}{as:List Addr}{Ml:List (List Int)}
theorem IsLL.app{bs:List Addr}{yss:List (List Int)}(x:IsLL H l as Ml)(nl:l∉as)(nb:l∉bs)(len:bs.length=yss.length)(at2:∀(j:Nat) (a:Addr) (ys:List Int),bs[j]? =some a->yss[j]? =some ys->H a=some (.lst (ys.map V.int))):
  IsLL (upd H l (.lst (as.map V.ref++bs.map V.ref))) l (as++bs) (Ml++yss):=by
 have hx:=x.len;refine⟨by rw[ak,OG],by rw[M6,M6,x.len,len],fun j a ys h1 h2=>?_⟩;by_cases hj:j<as.length
 . rw[Nc hj] at h1;rw[Nc (by omega)] at h2;have ne:a≠l:=fun z=>nl (z ▸ Mz h1);rw[aq ne];exact x.at_ j a ys h1 h2
 . rw[Nk (by omega)] at h1;rw[Nk (by omega)] at h2;have ne:a≠l:=fun z=>nb (z ▸ Mz h1);rw[aq ne];exact at2 _ a ys h1 (by rw[hx];exact h2)
theorem IsLL.get{a:Addr}(x:IsLL H l as Ml)(h:as[i]? =some a):∃ xs,Ml[i]? =some xs/\H a=some (.lst (xs.map V.int)):=by
 have hi:=(My.mp h).1;have e:Ml[i]? =some (Ml[i]'(by have:=x.len;omega)):=Mt _;exact⟨_,e,x.at_ i a _ h e⟩
variable{n:Nat}
theorem EQ(h:n<=1100):n<sizeLine:=NG h (by decide)
variable{p:Addr}
theorem ER{q:Addr}{xs ys:List V}(hp:H p=some (.lst xs))(hq:H q=some (.lst ys))(hn:xs.length+ys.length<=1100)(h:Q .non (upd H p (.lst (xs++ys)))):ma (.ref p) [.ref q] H Q:=by
 show bnd (unM (H p)) _;rw[hp];show bnd (unM (H q)) _;rw[hq];exact⟨Nj (EQ hn),h⟩
theorem Cv(m:Int):(sgL m).length<=Builtin.Int.intBits m:=by
 unfold sgL;rw[Mr];refine ML (MM _ _) ?_;rw[Nv];exact MW _
def prodW(ms:List Int):Nat:=ms.foldl (fun p m=>p*(sgL m).length) 1
variable{x:Int}
theorem vU{α:Type}(f:α->Int->α)(a:α)(h:xs[i]? =some x):(xs.take (i+1)).foldl f a=f ((xs.take i).foldl f a) x:=by
 rw[OB,h,Oh];rfl
def xB(K:Frag):Sp:=fun vs H Q _=>∃(p:Addr) (ms:List Int),vs=[.ref p]/\H p=some (.lst (ms.map V.int))/\(∀ m∈ms,Builtin.Int.intBits m<=900)/\∀ H',Same H H'->Q (.int ((prodW ms:Nat):Int)) H'
def xC(K:Frag):TS:=
 (tSeq (tAsg (tC (.int 1)) (gName 1))
  (tSeq (tFor (iList K (tVar 0)) (gName 2)
  (tAsg (tOp cMul (tVar 1) (tCB kLen (tCons (tCall (bz K) [] E0 (tCons (tVar 2) tNil)) tNil))) (gName 1)))
  (tRet (tVar 1))))
theorem GR(h:xB K vs H Q E):xC K (eD9 Q) (start ["masks","product","mask"] vs) H:=by
 obtain⟨p,ms,rfl,hp,hb,k⟩:=h;show xC K _ [some (.ref p),none,none] H;unfold xC;symm;refine⟨⟨_,MO hp⟩,bp (K:=K) (xs:=ms.map V.int) (fun i σ H'=>∃ mv:Option V,σ=[some (.ref p),some (.int ((prodW (ms.take i):Nat):Int)),mv]/\Same H H') ⟨none,rfl,Mw H⟩ (fun i σ H' _ ⟨_,_,s⟩=>MO (s _ _ hp)) ?_ ?_⟩
 . rintro i x σ H1 hx ⟨mv,rfl,s1⟩;obtain⟨m,hm,rfl⟩:=aQ hx;have hbm:=hb m (Mz hm);symm;refine⟨m,rfl,hbm,fun l H2 s2 hl el=>?_⟩;symm;rw[bc el];symm;have h1:=Cv m;rw[Mr];refine⟨.inr ⟨by omega,by omega⟩,some (.int m),?_,s1.trans s2⟩;unfold prodW;rw[vU _ _ hm,Int.natCast_mul]
 . rintro σ H1 ⟨mv,rfl,s1⟩;symm;rw[NK (by rw[Mr];exact MW _)] at*;exact k _ s1
def setL(xs:List Int)(z s:Int):List Int:=(List.range xs.length).map fun(i:Nat)=>if (i:Int)=z then s else xs.getD i 0
variable{z s:Int}
theorem qp:(setL xs z s).length=xs.length:=by unfold setL;simp
theorem Cw(s0:0<=s)(s6:s<=6)(hx:∀ x∈xs,0<=x/\x<=6):∀ x∈setL xs z s,0<=x/\x<=6:=fun x h=>by
 unfold setL at h;obtain⟨i,hi,rfl⟩:=MJ.mp h;have hlt:=MF.mp hi;have hb:=hx _ (MT hlt);have eg:xs.getD i 0=xs[i]:=by rw[List.getD,Mt hlt];rfl
 rw[eg]
 split
 . exact⟨s0,s6⟩
 . exact hb
def jC(K:Frag):Sp:=fun vs H Q _=>∃(F:Addr) (xs:List Int) (z s:Int),vs=[.ref F,.int z,.int s]/\H F=some (.lst (xs.map V.int))/\xs.length<=100/\∀ l H',Same H H'->H l=none->H' l=some (.lst ((setL xs z s).map V.int))->Q (.ref l) H'
def mQ(K:Frag):TS:=
 (tRet (tComp [none,none,none,some 1,some 2] (iEnum K (tCons (tVar 0) tNil)) (gTup K 2 (gCons (gName 1) (gCons (gName 2) gNil))) tTrue (tIf (tTest (tOp (cEq K) (tVar 1) (tVar 3))) (tVar 4) (tVar 2))))
theorem Aw(h:jC K vs H Q E):mQ K (eD9 Q) (start ["filling","cell","sign"] vs) H:=by
 obtain⟨F,xs,z,s,rfl,hF,hl,q⟩:=h;show mQ K _ [some (.ref F),some (.int z),some (.int s)] H;unfold mQ;symm;refine⟨F,rfl,⟨_,MO hF⟩,?_⟩;refine p8 (xs:=xs.map V.int) (fun _=>true) (fun i=>.int (if (i:Int)=z then s else xs.getD i 0)) (by rw[Mr];omega) (by decide) (MO hF) ?_ ?_ ?_
 . intro i x H1 R hx s1 k1;exact k1 _ (Mw _)
 . intro i x H1 Q1 hx hb s1 k1;obtain⟨y,hy,rfl⟩:=aQ hx;have q1:=k1 _ (Mw H1);rw[eJ hy] at q1;show tIf _ _ _ [none,some (.int (i:Int)),some (.int y),some (.int z),some (.int s)] H1 Q1;unfold tIf;symm;by_cases h0:(i:Int)=z
   . rw[Mv h0];rw[MU h0] at q1;exact iteT q1
   . rw[Mu h0];rw[MP h0] at q1;exact iteF q1
 . intro l H1 hl1 s1 el;rw[aZ,Mr] at el;refine q l H1 s1 hl1 ?_;rw[el];unfold setL;rw[Na];rfl
def extS(fss:List (List Int))(z:Int)(ss:List Int):List (List Int):=fss.flatMap fun f=>ss.map fun s=>setL f z s
theorem uK(z:Int)(ss:List Int):∀ fss:List (List Int),(extS fss z ss).length=fss.length*ss.length
 | []=>by simp[extS]
 | f::r=>by
  have ih:=uK z ss r;unfold extS at ih ⊢;rw[List.flatMap_cons,M6,ih,Mr,M3,Qi,Nat.add_comm]
theorem FN(fs gs:List (List Int))(z:Int)(ss:List Int):extS (fs++gs) z ss=extS fs z ss++extS gs z ss:=by
 unfold extS;rw[Pe]
theorem FO(f:List Int)(z:Int)(ss:List Int):extS [f] z ss=ss.map fun s=>setL f z s:=by
 unfold extS;simp
theorem mem_extS{f:List Int}{fs:List (List Int)}{ss:List Int}:f∈extS fs z ss↔∃ a∈fs,∃ s∈ss,f=setL a z s:=by
 unfold extS;rw[PN];constructor
 . rintro⟨a,ha,h⟩;obtain⟨s,hs,rfl⟩:=MJ.mp h;exact⟨a,ha,s,hs,rfl⟩
 . rintro⟨a,ha,s,hs,rfl⟩;exact⟨a,ha,MJ.mpr ⟨s,hs,rfl⟩⟩
theorem ES{H0 H1 H2:Hp}{m:Addr}{bs:List Addr}{yss:List (List Int)}(x:IsLL H1 l as Ml)(nl:l∉as)(s0:Same H0 H1)(fr:∀ b∈as,H0 b=none)(s1:Same H1 H2)(nw:NewAt H1 H2 m bs (yss.map fun ys=>.lst (ys.map V.int))):
  IsLL (upd H2 l (.lst (as.map V.ref++bs.map V.ref))) l (as++bs) (Ml++yss)/\l∉as++bs/\(∀ b∈as++bs,H0 b=none):=by
 have nb:l∉bs:=fun h=>by have:=nw.fr l h;rw[x.top] at this;cases this
 refine⟨?_,?_,?_⟩
 . refine(x.same s1).app nl nb (by rw[nw.len,Mr]) fun j a ys h1 h2=>?_;exact nw.at_ j a _ h1 (by rw[MA,h2];rfl)
 . intro h;rcases M0.mp h with h | h
   . exact nl h
   . exact nb h
 . intro b h;rcases M0.mp h with h | h
   . exact fr b h
   . exact s0.free (nw.fr b h)
def gB(K:Frag):Sp:=fun vs H Q _=>∃(F S:Addr) (as:List Addr) (fss:List (List Int)) (z:Int) (ss:List Int),vs=[.ref F,.int z,.ref S]/\IsLL H F as fss/\H S=some (.lst (ss.map V.int))/\fss.length*ss.length<=1100/\ss.length<=100/\(∀ f∈fss,f.length<=16)/\
 ∀(l:Addr) (bs:List Addr) (H':Hp),Same H H'->H l=none->IsLL H' l bs (extS fss z ss)->Q (.ref l) H'
def gC(K:Frag):TS:=
 (tSeq (tAsg (tLst tNil) (gName 3))
  (tSeq (tFor (iList K (tVar 0)) (gName 4)
  (tDrop (tBM K "list" ma (tVar 3) (tCons (tComp [none,none,some 1,some 4] (iList K (tVar 2)) (gName 1) tTrue (tCall (jC K) [] E0 (tCons (tVar 3) (tCons (tVar 2) (tCons (tVar 1) tNil))))) tNil))))
  (tRet (tVar 3))))
theorem tF(h:gB K vs H Q E):gC K (eD9 Q) (start ["fillings","cell","signs","found","filling"] vs) H:=by
 obtain⟨F,S,as,fss,z,ss,rfl,x,hS,hn,hs,hf,q⟩:=h;show gC K _ [some (.ref F),some (.int z),some (.ref S),none,none] H;unfold gC;symm;refine⟨lnR rfl,fun l hl=>?_⟩;obtain⟨H1,z9,s1,el⟩:=aY (.lst []) hl;rw[z9];refine⟨⟨_,MO (s1 _ _ x.top)⟩,?_⟩
 refine bp (K:=K) (xs:=as.map V.ref) (fun i σ H'=>∃(v:Option V) (bs:List Addr),σ=[some (.ref F),some (.int z),some (.ref S),some (.ref l),v]/\Same H H'/\IsLL H' l bs (extS (fss.take i) z ss)/\l∉bs/\∀ b∈bs,H b=none)
  ⟨none,[],rfl,s1,⟨el,rfl,fun j a xs h1=>by simp at h1⟩,by simp,fun b hb=>nomatch hb⟩ (fun i σ H' _ ⟨_,_,_,s,_⟩=>s.seq (MO x.top)) ?_ ?_
 . rintro i y σ H2 hy ⟨v,bs,rfl,s2,x2,nl,fr⟩;obtain⟨f,hfa,rfl⟩:=bx hy;obtain⟨xs,ex,ef⟩:=x.get hfa;have hxl:=hf xs (Mz ex);symm;refine⟨bq x2.top,⟨_,MO (s2 _ _ hS)⟩,?_⟩;refine p9 (xs:=ss.map V.int) (fun _=>true) (fun i=>.lst ((setL xs z (ss.getD i 0)).map V.int)) (by rw[Mr];omega) (MO (s2 _ _ hS)) ?_ ?_ ?_
   . intro i x H R hx s1 k1;exact k1 _ (Mw _)
   . intro i x H3 Q3 hi hb s3 k3;obtain⟨t,ht,rfl⟩:=aQ hi;rw[eJ ht] at k3;show tCall _ _ _ _ [none,some (.int t),some (.int z),some (.ref f)] H3 Q3;symm;exact⟨f,xs,z,t,rfl,(s2.trans s3) _ _ ef,by omega,fun l H' s' hl el=>k3 l H' s' hl el⟩
   . intro m cs H3 hm s3 em nw;rw[aZ,Mr,FM (fun s=>HO.lst ((setL xs z s).map V.int))] at nw
     have nw2:NewAt H2 H3 m cs ((extS [xs] z ss).map fun ys=>.lst (ys.map V.int)):=by
      rw[FO,Na];exact nw
     have hb:bs.length+cs.length<=1100:=by
      have l1:=x2.len;rw[uK,NO] at l1;have l2:=nw.len;rw[Mr] at l2;have hi:=(My.mp ex).1;have e1:min i fss.length=i:=by omega
      rw[e1] at l1;have:=O6 ss.length (show i+1<=fss.length by omega);rw[Qi] at this;omega
     refine ER (s3 _ _ x2.top) em (by rw[Mr,Mr];exact hb) ?_;obtain⟨z1,z2,z3⟩:=ES x2 nl s2 fr s3 nw2;refine⟨_,bs++cs,rfl,(s2.trans s3).own hl,?_,z2,z3⟩;rw[yw ex,FN];exact z1
 . rintro σ H2 ⟨v,bs,rfl,s2,x2,nl,fr⟩;symm;have e:fss.take (as.map V.ref).length=fss:=NK (by rw[Mr,x.len];exact MW _);rw[e] at x2;exact q l bs H2 s2 hl x2
def wfold(Mc:List Int)(rest:List Int)(fs:List (List Int)):List (List Int):=rest.foldl (fun fs o=>extS fs o (sgL (Mc.getD o.toNat 0))) fs
def wfill(Mc rest:List Int)(z s:Int):List (List Int):=wfold Mc rest [setL (List.replicate Mc.length 0) z s]
noncomputable def waysB (k:RK) (h w:Int) (cs:List Int) (n m:Int) (Mc:List Int) (z s:Int) (ms:List Int):Bool:=
 decide (ms=[])&&(decide (prodW (sgAt Mc (othL cs z))<=32)&&(decide (0∈sgAt Mc (othL cs z))||!((wfill Mc (othL cs z) z s).any fun f=>hoB k h w cs n m f)))
theorem yx(Mc:List Int):∀(rest:List Int) (fs:List (List Int)),(wfold Mc rest fs).length=(sgAt Mc rest).foldl (fun p m=>p*(sgL m).length) fs.length
 | [],_=>rfl
 | o::r,fs=>by
  unfold wfold sgAt;rw[NJ,M4,NJ];have:=yx Mc r (extS fs o (sgL (Mc.getD o.toNat 0)));unfold wfold sgAt at this;rw[this,uK]
theorem Ax:∀(ms:List Int) (n:Nat),(∀ m∈ms,1<=(sgL m).length)->n<=ms.foldl (fun p m=>p*(sgL m).length) n
 | [],_,_=>MW _
 | m::r,n,h=>by
  rw[NJ];exact ML (Nat.le_mul_of_pos_right n (h m MD)) (Ax r _ fun x hx=>h x (MI _ hx))
theorem Di(i:Nat)(h:∀ m∈ms,1<=(sgL m).length):prodW (ms.take i)<=prodW ms:=by
 have e:prodW ms=(ms.drop i).foldl (fun p m=>p*(sgL m).length) (prodW (ms.take i)):=by
  unfold prodW;rw[← Oh,P8]
 rw[e];exact Ax _ _ fun x hx=>h x (List.mem_of_mem_drop hx)
theorem qq{n:Nat}{Mc:List Int}(hm:∀ m∈Mc,0<=m/\m<64):∀(rest:List Int) (fs:List (List Int)),(∀ f∈fs,f.length=n/\∀ x∈f,0<=x/\x<=6)->∀ f∈wfold Mc rest fs,f.length=n/\∀ x∈f,0<=x/\x<=6
 | [],_,h,f,hf=>h f hf
 | o::r,fs,h,f,hf=>by
  refine qq hm r (extS fs o (sgL (Mc.getD o.toNat 0))) (fun g hg=>?_) f hf;obtain⟨a,ha,s,hs,rfl⟩:=mem_extS.mp hg;have h1:=h a ha
  have hs6:1<=s/\s<=6:=by
   by_cases hlt:o.toNat<Mc.length
   . have e:Mc.getD o.toNat 0=Mc[o.toNat]:=by rw[List.getD,Mt hlt];rfl
     rw[e] at hs;have hb:=hm _ (MT hlt);rw[(g8 hb.1 hb.2).2] at hs;obtain⟨j,hj,rfl⟩:=MJ.mp hs;have:=(MK.mp hj).1;simp at this;omega
   . have e:Mc.getD o.toNat 0=0:=by rw[List.getD,M7 (by omega)];rfl
     rw[e,Ih] at hs;cases hs
  exact⟨by rw[qp];exact h1.1,Cw (by omega) hs6.2 h1.2⟩
def jD(K:Frag)(c:RCl RK):Sp:=fun vs H Q _=>∃(k:RK) (r p A M:Addr) (ws:List (List Nat)) (cs Mc ms:List Int) (n m z s h w g:Int),vs=[.ref r,.ref A,.int z,.int s,.ref M]/\IsRule H c k r p ws cs n m/\IsFl H p h w g/\FlOk h w g/\aN cs Mc.length/\Mc.length<=16/\(∀ m∈Mc,0<=m/\m<64)/\1<=s/\s<=6/\H A=some (.lst (Mc.map V.int))/\H M=some (.lst (ms.map V.int))/\∀ H',Same H H'->Q (.bl (waysB k h w cs n m Mc z s ms)) H'
def f8(K:Frag)(c:RCl RK):TS:=
 (tSeq (tFor (iList K (tVar 7)) (gName 9)
  (tIfS (tB (aD c c.ok "holds" (cN K c) (tVar 0) (tCons (tVar 9) tNil))) (tRet (tC (.bl false))) tNext))
  (tRet (tC (.bl true))))
def f9(K:Frag)(c:RCl RK):TS:=
 (tSeq (tAsg (tLst (tCons (tCall (jC K) [] E0 (tCons (tOp cRepL (tLst (tCons (tC (.int 0)) tNil)) (tCB kLen (tCons (tVar 1) tNil))) (tCons (tVar 2) (tCons (tVar 3) tNil)))) tNil)) (gName 7))
  (tSeq (tFor (iList K (tVar 5)) (gName 8)
  (tAsg (tCall (gB K) [] E0 (tCons (tVar 7) (tCons (tVar 8) (tCons (tCall (bz K) [] E0 (tCons (tOp cIx (tVar 1) (tVar 8)) tNil)) tNil)))) (gName 7)))
  (f8 K c)))
def jE(K:Frag)(c:RCl RK):TS:=
 (tSeq (tAsg (tCall (bE K c) [] E0 (tCons (tVar 0) (tCons (tVar 2) tNil))) (gName 5))
  (tSeq (tAsg (tCall (bU K) [] E0 (tCons (tVar 1) (tCons (tVar 5) tNil))) (gName 6))
  (tSeq (tIfS (tOr (tTest (tOp (cNe K) (tVar 4) (tLst tNil))) (tTest (tOp (cCmp fun i j=>decide (j<i)) (tCall (xB K) [] E0 (tCons (tVar 6) tNil)) (tC (.int 32))))) (tRet (tC (.bl false))) tNext)
  (tSeq (tIfS (tB (tCall (dq K) [] E0 (tCons (tVar 6) tNil))) (tRet (tC (.bl true))) tNext)
  (f9 K c)))))
structure Wys(H:Hp)(c:RCl RK)(k:RK)(r p A:Addr)(ws:List (List Nat))(cs Mc:List Int)(n m h w g:Int):Prop where
 R:IsRule H c k r p ws cs n m
 fl:IsFl H p h w g
 F:FlOk h w g
 ci:aN cs Mc.length
 ml:Mc.length<=16
 mo:∀ m∈Mc,0<=m/\m<64
 hA:H A=some (.lst (Mc.map V.int))
variable{A:Addr}{Mc:List Int}{g:Int}
theorem Wys.same{H':Hp}{k:RK}{r:Addr}{ws:List (List Nat)}{n:Int}(x:Wys H c k r p A ws cs Mc n m h w g)(s:Same H H'):Wys H' c k r p A ws cs Mc n m h w g:=⟨x.R.same s,s _ _ x.fl,x.F,x.ci,x.ml,x.mo,s _ _ x.hA⟩
theorem Dj {k:RK} {r F:Addr} {ws:List (List Nat)} {n:Int} {v2 v3 v4 v5 v6 v8:Option V} {bs:List Addr} {fss:List (List Int)} (X:Wys H c k r p A ws cs Mc n m h w g) (x:IsLL H F bs fss) (hf:∀ f∈fss,f.length=Mc.length/\∀ x∈f,0<=x/\x<=6)
  (q:∀ H',Same H H'->Q (.bl (!(fss.any fun f=>hoB k h w cs n m f))) H'):
  f8 K c (eD9 Q) [some (.ref r),some (.ref A),v2,v3,v4,v5,v6,some (.ref F),v8,none] H:=by
 obtain⟨dx,W,C,h1,h2,h3⟩:=X.R.ex;have hxl:=x.len;unfold f8;symm;refine⟨⟨_,MO x.top⟩,?_⟩;refine bp (K:=K) (xs:=bs.map V.ref) (fun i σ H'=>∃ v9:Option V,σ=[some (.ref r),some (.ref A),v2,v3,v4,v5,v6,some (.ref F),v8,v9]/\Same H H'/\((fss.take i).any fun f=>hoB k h w cs n m f)=false) ⟨none,rfl,Mw _,rfl⟩ (fun i σ H' _ ⟨_,_,s,_⟩=>s.seq (MO x.top)) ?_ ?_
 . rintro i y σ H1 hy ⟨v9,rfl,s1,hno⟩;obtain⟨b,hb,rfl⟩:=bx hy;obtain⟨f,ef,eb⟩:=x.get hb;have hfm:=Mz ef;obtain⟨hfl,hfx⟩:=hf f hfm;have X1:=X.same s1;symm;rw[aA];symm;refine methE (k:=k) rfl X.R.ok (s1 _ _ h1) (by rfl) ?_;symm;refine⟨r,p,b,ws,cs,f,n,m,h,w,g,rfl,X1.R,X1.fl,X1.F,s1 _ _ eb,by rw[hfl];exact X1.ci,fun y hy=>by have:=hfx y hy;omega,fun H2 s2=>?_⟩;refine⟨_,rfl,?_⟩
   cases hh:hoB k h w cs n m f with
   | true=>
    refine iteT ?_;have e:(fss.any fun f=>hoB k h w cs n m f)=true:=Ob.mpr ⟨f,hfm,hh⟩;have q1:=q _ (s1.trans s2);rw[e] at q1;exact q1
   | false=>
    refine iteF ⟨_,rfl,s1.trans s2,?_⟩;rw[yw ef,List.any_append,hno,NC]
    simpa using hh
 . rintro σ H1 ⟨v9,rfl,s1,hno⟩;rw[NK (by rw[Mr,hxl];exact MW _)] at hno;symm;rw[hno] at q;exact q _ s1
theorem Dk {k:RK} {r R:Addr} {ws:List (List Nat)} {n:Int} {v4 v6:Option V} (X:Wys H c k r p A ws cs Mc n m h w g) (hR:H R=some (.lst ((othL cs z).map V.int))) (s0:1<=s) (s6:s<=6) (hw:prodW (sgAt Mc (othL cs z))<=32) (h0:0∉sgAt Mc (othL cs z))
  (q:∀ H',Same H H'->Q (.bl (!((wfill Mc (othL cs z) z s).any fun f=>hoB k h w cs n m f))) H'):
  f9 K c (eD9 Q) [some (.ref r),some (.ref A),some (.int z),some (.int s),v4,some (.ref R),v6,none,none,none] H:=by
 have hml:=X.ml;unfold f9;symm;refine⟨lnR rfl,fun Z hZ=>?_⟩;obtain⟨H1,z9,s1,eZ⟩:=aY (.lst [V.int 0]) hZ;rw[z9];rw[bc (s1 _ _ X.hA),Mr];refine Er eZ (by omega) (by omega) (by show(1:Nat)<=1;decide) fun N hN=>?_;have s2:Same H1 (upd H1 N (.lst (List.replicate ((Mc.length:Nat):Int).toNat [V.int 0]).flatten)):=(Mw H1).laid hN
 have eN:(upd H1 N (.lst (List.replicate ((Mc.length:Nat):Int).toNat [V.int 0]).flatten)) N=some (.lst ((List.replicate Mc.length (0:Int)).map V.int)):=by
  rw[ak,Pp];simp
 generalize upd H1 N (.lst (List.replicate ((Mc.length:Nat):Int).toNat [V.int 0]).flatten)=H2 at*;have s12:=s1.trans s2;refine⟨N,_,z,s,rfl,eN,by simp;omega,fun b H3 s3 hb eb=>?_⟩;have s13:=s12.trans s3;symm;refine⟨lnR rfl,fun F hF=>?_⟩;have s4:Same H3 (upd H3 F (.lst [V.ref b])):=(Mw H3).laid hF
 have xF:IsLL (upd H3 F (.lst [V.ref b])) F [b] [setL (List.replicate Mc.length 0) z s]:=by
  refine⟨ak,rfl,fun j a xs e1 e2=>?_⟩;have hj:j=0:=by have:=(My.mp e1).1;simp at this;omega
  subst hj;cases e1;cases e2;exact s4 _ _ eb
 generalize upd H3 F (.lst [V.ref b])=H4 at*;have s14:=s13.trans s4
 have base:∀ f∈([setL (List.replicate Mc.length 0) z s]:List (List Int)),f.length=Mc.length/\∀ x∈f,0<=x/\x<=6:=fun f hf=>by
  rw[MN.mp hf];exact⟨by rw[qp];simp,Cw (by omega) s6 fun x hx=>by rw[(OJ.mp hx).2];omega⟩
 have pos:∀ mm∈sgAt Mc (othL cs z),1<=(sgL mm).length:=fun mm hm=>by
  have hne:mm≠0:=fun e=>h0 (e ▸ hm);unfold sgAt at hm;obtain⟨o,ho,rfl⟩:=MJ.mp hm;have hoc:o∈cs:=(MK.mp ho).1;have hi:=X.ci.2 o hoc;have hlt:o.toNat<Mc.length:=by omega
  have e:Mc.getD o.toNat 0=Mc[o.toNat]:=by rw[List.getD,Mt hlt];rfl
  rw[e] at hne ⊢;have hb:=X.mo _ (MT hlt);exact(Ga hb.1 hb.2 hne).1.1
 refine⟨⟨_,MO (s14 _ _ hR)⟩,?_⟩;refine bp (K:=K) (xs:=(othL cs z).map V.int) (fun i σ H'=>∃(F:Addr) (bs:List Addr) (v8:Option V),σ=[some (.ref r),some (.ref A),some (.int z),some (.int s),v4,some (.ref R),v6,some (.ref F),v8,none]/\Same H H'/\IsLL H' F bs (wfold Mc ((othL cs z).take i) [setL (List.replicate Mc.length 0) z s])) ⟨F,[b],none,rfl,s14,xF⟩ (fun i σ H' _ ⟨_,_,_,_,s,_⟩=>s.seq (MO hR)) ?_ ?_
 . rintro i y σ H5 hy ⟨F,bs,v8,rfl,s5,x5⟩;obtain⟨o,ho,rfl⟩:=aQ hy;have hom:=Mz ho;have hoc:o∈cs:=(MK.mp hom).1;have hi:=X.ci.2 o hoc;have hlt:o.toNat<Mc.length:=by omega
   have e:Mc.getD o.toNat 0=Mc[o.toNat]:=by rw[List.getD,Mt hlt];rfl
   have hb:=X.mo _ (MT hlt);have sb:=g8 hb.1 hb.2;symm;refine ixI (s5 _ _ X.hA) (by omega) (by omega) ?_;symm;rw[e];refine⟨_,rfl,by omega,fun S H6 s6' hS eS=>?_⟩;symm;have hsl:(sgL Mc[o.toNat]).length<=6:=ML (Cv _) sb.1;refine⟨F,S,bs,_,o,_,rfl,x5.same s6',eS,?_,by omega,fun f hf=>by have:=(qq X.mo _ _ base f hf).1;omega,fun l cs2 H7 s7 hl x7=>?_⟩
   . rw[yx];have h1:=Di i pos
     have e2:(sgAt Mc ((othL cs z).take i)).foldl (fun p m=>p*(sgL m).length) ([setL (List.replicate Mc.length 0) z s]:List (List Int)).length=prodW ((sgAt Mc (othL cs z)).take i):=by
      unfold prodW sgAt;rw[Qe];rfl
     rw[e2];have h3:prodW ((sgAt Mc (othL cs z)).take i)*(sgL Mc[o.toNat]).length<=32*6:=Qb (by omega) hsl;omega
   . refine⟨l,cs2,_,rfl,(s5.trans s6').trans s7,?_⟩
     have e3:wfold Mc ((othL cs z).take (i+1)) [setL (List.replicate Mc.length 0) z s]=extS (wfold Mc ((othL cs z).take i) [setL (List.replicate Mc.length 0) z s]) o (sgL Mc[o.toNat]):=by
      unfold wfold;rw[vU _ _ ho,e]
     rw[e3];exact x7
 . rintro σ H5 ⟨F,bs,v8,rfl,s5,x5⟩;rw[NK (by rw[Mr];exact MW _)] at x5;exact Dj (X.same s5) x5 (qq X.mo _ _ base) fun H' s'=>q H' (s5.trans s')
theorem vV(h:jD K c vs H Q E):jE K c (eD9 Q) (start ["rule","masks","cell","sign","more","rest","some","fillings","other","filling"] vs) H:=by
 obtain⟨k,r,p,A,M,ws,cs,Mc,ms,n,m,z,s,h,w,g,rfl,hR,hp,F,ci,ml,mk,s0,s6,hA,hM,q⟩:=h;have X:Wys H c k r p A ws cs Mc n m h w g:=⟨hR,hp,F,ci,ml,mk,hA⟩;have hcl:cs.length<=63:=by have:=ci.1;omega
 show jE K c _ [some (.ref r),some (.ref A),some (.int z),some (.int s),some (.ref M),none,none,none,none,none] H;unfold jE;symm;refine⟨k,r,p,ws,cs,n,m,z,rfl,hR,hcl,fun R H1 s1 hR1 eR=>?_⟩;have eR2:H1 R=some (.lst ((othL cs z).map V.int)):=eR;symm;refine⟨A,R,Mc,othL cs z,rfl,s1 _ _ hA,eR2,⟨ML (MM _ _) ci.1,fun x hx=>ci.2 x (MK.mp hx).1⟩,fun S H2 s2 hS eS=>?_⟩;have s12:=s1.trans s2;dsimp only;rw[aA];symm;refine⟨lnR rfl,fun e he=>?_⟩;obtain⟨H3,z9,s3,ee⟩:∃ z,upd H2 e (.lst [])=z/\Same H2 z/\z e=some (.lst (([]:List Int).map V.int)):=aY _ he;rw[z9];have s13:=s12.trans s3;refine nk (s13 _ _ hM) ee ?_;refine⟨_,rfl,?_⟩;unfold waysB at q;by_cases hm:ms=[]
 . rw[Mv hm] at q ⊢;rw[MR] at q;refine iteF ?_;symm;refine⟨S,_,rfl,s3 _ _ eS,fun x hx=>?_,fun H4 s4=>?_⟩
   . unfold sgAt at hx;obtain⟨o,ho,rfl⟩:=MJ.mp hx;have hi:=ci.2 o (MK.mp ho).1;have hlt:o.toNat<Mc.length:=by omega
     have e:Mc.getD o.toNat 0=Mc[o.toNat]:=by rw[List.getD,Mt hlt];rfl
     rw[e];have hb:=mk _ (MT hlt);have:=(g8 hb.1 hb.2).1;omega
   . have s14:=s13.trans s4;symm;by_cases hw:prodW (sgAt Mc (othL cs z))<=32
     . rw[Mv hw,MR] at q;rw[Mu (by omega)];refine iteF ?_;rw[aA];symm;refine⟨S,_,rfl,(s3.trans s4) _ _ eS,?_⟩;refine⟨_,rfl,?_⟩;by_cases h0:0∈sgAt Mc (othL cs z)
       . rw[Mv h0] at q ⊢;rw[ON] at q;exact iteT (q _ s14)
       . rw[Mu h0] at q ⊢;rw[NC] at q;refine iteF ?_;exact Dk (X.same s14) (((s2.trans s3).trans s4) _ _ eR2) s0 s6 hw h0 fun H' s'=>q H' (s14.trans s')
     . rw[Mu hw,MQ] at q;rw[Mv (by omega)];exact iteT (q _ s14)
 . rw[Mu hm,MQ] at q;rw[Mu hm];exact iteT (q _ s13)
def kY(g:Int)(t:TK)(x:RR)(Mc:List Int)(z s:Int)(ms:List Int):Bool:=match t with
 | .only=>onlyB x.cs Mc z s ms
 | .place=>vN g x.cs Mc z s ms
 | _=>pairB x.cs Mc z s ms
def hJ(g:Int)(Mf:List RR)(cl Mc:List Int)(t:TK)(r z s:Int)(ms:List Int):Bool:=match t with
 | .clue=>clueB cl z s ms
 | _=>match Mf[r.toNat]? with
  | none=>false
  | some x=>kY g t x Mc z s ms
theorem zF{α:Type}{f:Int->α}(nd:(cs.map f).Nodup){a b:Int}(ha:a∈cs)(hb:b∈cs)(ne:a≠b):f a≠f b:=by
 induction cs with
 | nil=>cases ha
 | cons x r ih=>
  rw[M4,Nm] at nd;rcases MS.mp ha with ea | ha'
  . rcases MS.mp hb with eb | hb'
    . exact absurd (ea.trans eb.symm) ne
    . rw[ea];exact fun e=>nd.1 (MJ.mpr ⟨b,hb',e.symm⟩)
  . rcases MS.mp hb with eb | hb'
    . rw[eb];exact fun e=>nd.1 (MJ.mpr ⟨a,ha',e⟩)
    . exact ih nd.2 ha' hb'
theorem GS:((List.range 64).all fun m=>(List.range 6).all fun j=>(List.range 6).all fun i=>!(decide (woI (m:Int) (1+(j:Int))=0)&&stB (m:Int) (1+(i:Int)))||decide (i=j))=true:=by decide+kernel
theorem Ay(m0:0<=m)(m1:m<64)(s0:1<=s)(s6:s<=6)(x0:1<=x)(x6:x<=6)(h1:woI m s=0)(h2:stB m x=true):x=s:=by
 have t:=MC.mp (MC.mp (MC.mp GS m.toNat (MF.mpr (by omega))) (s-1).toNat (MF.mpr (by omega))) (x-1).toNat (MF.mpr (by omega));have e1:((m.toNat:Nat):Int)=m:=by omega
 have e2:1+(((s-1).toNat:Nat):Int)=s:=by omega
 have e3:1+(((x-1).toNat:Nat):Int)=x:=by omega
 rw[e1,e2,e3,Mv h1,h2] at t;simp at t;omega
theorem FP:((List.range 64).all fun a=>(List.range 64).all fun b=>(List.range 6).all fun i=>!(stB (a:Int) (1+(i:Int))||stB (b:Int) (1+(i:Int)))||decide (1+(i:Int)∈sgL (Builtin.bitOr (a:Int) (b:Int))))=true:=by decide+kernel
theorem Cz{a b:Int}(a0:0<=a)(a1:a<64)(b0:0<=b)(b1:b<64)(x0:1<=x)(x6:x<=6)(h:stB a x=true\/stB b x=true):x∈sgL (Builtin.bitOr a b):=by
 have t:=MC.mp (MC.mp (MC.mp FP a.toNat (MF.mpr (by omega))) b.toNat (MF.mpr (by omega))) (x-1).toNat (MF.mpr (by omega));have e1:((a.toNat:Nat):Int)=a:=by omega
 have e2:((b.toNat:Nat):Int)=b:=by omega
 have e3:1+(((x-1).toNat:Nat):Int)=x:=by omega
 rw[e1,e2,e3] at t;have h':(stB a x||stB b x)=true:=by rcases h with h | h <;> simp[h]
 rw[h'] at t
 simpa using t
theorem GT{a b:Int}(ha:a∈xs)(hb:b∈xs)(ne:a≠b):2<=xs.length:=by
 match xs,ha,hb with
 | [x],ha,hb=>exact absurd ((MN.mp ha).trans (MN.mp hb).symm) ne
 | x::y::r,_,_=>simp
theorem Ij{vs:List Int}(nd:vs.Nodup)(hv:∀ v∈vs,1<=v/\v<=g)(hl:(vs.length:Int)=g)(x0:1<=x)(x1:x<=g):x∈vs:=by
 refine Pt fun hx=>?_;have nd2:(x::vs).Nodup:=Nm.mpr ⟨hx,nd⟩
 have sub:∀ v∈x::vs,v∈(List.range g.toNat).map fun(k:Nat)=>1+(k:Int):=fun v hv'=>by
  have b:1<=v/\v<=g:=by
   rcases MS.mp hv' with rfl | hv'
   . exact⟨x0,x1⟩
   . exact hv v hv'
  exact MJ.mpr ⟨(v-1).toNat,MF.mpr (by omega),by omega⟩
 have:=lT nd2 sub;rw[M3,Mr,Nv] at this;omega
noncomputable def rcB (h w:Int) (cs:List Int) (st x:Int):Bool:=@decide (RC h w cs st x) (Classical.propDecidable _)
theorem Az{rs:List Int}{st:Int}(hm:x∈rs↔RC h w cs st x):decide (x∈rs)=rcB h w cs st x:=by
 unfold rcB;rw[MZ,Mx];exact hm.trans (@decide_eq_true_iff _ (Classical.propDecidable _)).symm
def anoB(h w:Int)(Mc:List Int)(z m o:Int):Bool:=(decide (0<=o)&&decide (o<h*w))&&(!decide (o=z)&&decide (woI (Mc.getD o.toNat 0) m=0))
def cS(K:Frag):Sp:=fun vs H Q _=>∃(f A:Addr) (h w g z o m:Int) (Mc:List Int),vs=[.ref f,.ref A,.int z,.int o,.int m]/\IsFl H f h w g/\FlOk h w g/\H A=some (.lst (Mc.map V.int))/\Mc.length=(h*w).toNat/\m<=1000/\Q (.bl (anoB h w Mc z m o)) H
def cT(K:Frag):TS:=
 (tRet (tAndV (tCall (lX K) [] E0 (tCons (tVar 0) (tCons (tVar 3) tNil))) (tAndV (tOp (cNe K) (tVar 3) (tVar 2)) (tCall (cj K) [] E0 (tCons (tOp cIx (tVar 1) (tVar 3)) (tCons (tVar 4) tNil))))))
theorem m8(h:cS K vs H Q E):cT K (eD9 Q) (start ["floor","masks","cell","other","mark"] vs) H:=by
 obtain⟨f,A,h,w,g,z,o,m,Mc,rfl,hf,F,hA,hml,hm,q⟩:=h;show cT K _ [some (.ref f),some (.ref A),some (.int z),some (.int o),some (.int m)] H;unfold cT;symm;refine⟨f,h,w,g,o,rfl,hf,F,?_⟩;unfold anoB at q
 cases hb:(decide (0<=o)&&decide (o<h*w)) with
 | false=>
  rw[hb,MQ] at q;exact⟨false,rfl,iteF q⟩
 | true=>
  rw[hb,MR] at q;rw[MH,Mx,Mx] at hb;refine⟨true,rfl,iteT ?_⟩;symm
  cases hb2:decide (o=z) with
  | true=>
   rw[hb2,Oa,MQ] at q;symm;exact q
  | false=>
   rw[hb2,Oc,MR] at q;symm;refine ixI hA hb.1 (by omega) ?_;symm;exact⟨_,m,rfl,by omega,q⟩
def thrL(cs Mc:List Int)(m z:Int):List Int:=(cs.filter fun x=>!decide (x=z)).filter fun x=>stB (Mc.getD x.toNat 0) m
noncomputable def reaB (h w:Int) (cs:List Int) (m:Int) (Mc:List Int) (z s:Int) (ms:List Int):Bool:=
 (ms.all fun o=>anoB h w Mc z m o)&&(if s=m then decide (ms.length=1)&&!rcB h w (thrL cs Mc m z++[z]) z (ms.getD 0 0)
  else decide (ms.length=2)&&(!decide (ms.getD 0 0=ms.getD 1 0)&&!rcB h w (thrL cs Mc m z) (ms.getD 0 0) (ms.getD 1 0)))
def iD(K:Frag)(c:RCl RK):Sp:=fun vs H Q _=>∃(k:RK) (f r p A M:Addr) (ws:List (List Nat)) (cs Mc ms:List Int) (n m z s h w g:Int),vs=[.ref f,.ref r,.ref A,.int z,.int s,.ref M]/\IsFl H f h w g/\FlOk h w g/\IsRule H c k r p ws cs n m/\aN cs Mc.length/\cs.length<=60/\Mc.length=(h*w).toNat/\H A=some (.lst (Mc.map V.int))/\H M=some (.lst (ms.map V.int))/\ms.length<=100/\m<=1000/\∀ H',Same H H'->Q (.bl (reaB h w cs m Mc z s ms)) H'
def e8(K:Frag)(c:RCl RK):TS:=
 (tSeq (tIfS (tTest (tOp (cEq K) (tVar 4) (tVar 6))) (tRet (tAndV (tOp (cEq K) (tCB kLen (tCons (tVar 5) tNil)) (tC (.int 1))) (tOp (cIn K true) (tOp cIx (tVar 5) (tC (.int 0))) (tCall (d7 K) [] E0 (tCons (tVar 0) (tCons (tOp cAdd (tVar 7) (tLst (tCons (tVar 3) tNil))) (tCons (tVar 3) tNil))))))) tNext)
  (tSeq (tIfS (tOr (tTest (tOp (cNe K) (tCB kLen (tCons (tVar 5) tNil)) (tC (.int 2)))) (tTest (tOp (cEq K) (tOp cIx (tVar 5) (tC (.int 0))) (tOp cIx (tVar 5) (tC (.int 1)))))) (tRet (tC (.bl false))) tNext)
  (tRet (tOp (cIn K true) (tOp cIx (tVar 5) (tC (.int 1))) (tCall (d7 K) [] E0 (tCons (tVar 0) (tCons (tVar 7) (tCons (tOp cIx (tVar 5) (tC (.int 0))) tNil))))))))
def e9(K:Frag)(c:RCl RK):TS:=
 (tSeq (sComp 7 [none,none,some 6,some 2] (iList K (tCall (bE K c) [] E0 (tCons (tVar 1) (tCons (tVar 3) tNil)))) (gName 1) (tB (tCall (dX K) [] E0 (tCons (tOp cIx (tVar 3) (tVar 1)) (tCons (tVar 2) tNil)))) (tVar 1))
  (e8 K c))
def iE(K:Frag)(c:RCl RK):TS:=
 (tSeq (tAsg (aD c c.ok "sign" (iQ K c) (tVar 1) tNil) (gName 6))
  (tSeq (tIfS (tNot (tB (tCB kAll (tCons (tComp [none,none,some 3,some 0,some 6,some 2] (iList K (tVar 5)) (gName 1) tTrue (tCall (cS K) [] E0 (tCons (tVar 3) (tCons (tVar 5) (tCons (tVar 2) (tCons (tVar 1) (tCons (tVar 4) tNil))))))) tNil)))) (tRet (tC (.bl false))) tNext)
  (e9 K c)))
variable{M:Addr}{v1:V}
theorem qP {f N:Addr} {T:List Int} (hf:IsFl H f h w g) (F:FlOk h w g) (hM:H M=some (.lst (ms.map V.int))) (hN:H N=some (.lst (T.map V.int))) (hT:T.length<=60)
  (q:∀ H',Same H H'->Q (.bl (if s=m then decide (ms.length=1)&&!rcB h w (T++[z]) z (ms.getD 0 0) else decide (ms.length=2)&&(!decide (ms.getD 0 0=ms.getD 1 0)&&!rcB h w T (ms.getD 0 0) (ms.getD 1 0)))) H'):
  e8 K c (eD9 Q) [some (.ref f),some v1,some (.ref A),some (.int z),some (.int s),some (.ref M),some (.int m),some (.ref N)] H:=by
 have w0:=F.w0;have w1:=F.w1;unfold e8;rw[aE,aA];symm;by_cases hs:s=m
 . rw[MU hs] at q;rw[Mv hs];symm;rw[bc hM,Mr];symm
   have e1:decide ((ms.length:Int)=1)=decide (ms.length=1):=by
    rw[MZ,Mx,Mx];omega
   rw[e1]
   cases hb:decide (ms.length=1) with
   | false=>
    rw[hb,MQ] at q;symm;exact q _ (Mw _)
   | true=>
    rw[hb,MR] at q;have hl:=MG hb;symm;refine ixI hM (by decide) (by omega) ?_;rw[show(0:Int).toNat=0 from rfl];symm;refine⟨lnR rfl,fun l hl2=>?_⟩;obtain⟨H1,z9,s1,el⟩:=aY (.lst [V.int z]) hl2;rw[z9];refine Ad (s1 _ _ hN) el (by simp;omega) fun Y hY=>?_;have s2:Same H1 (upd H1 Y (.lst (T.map V.int++[V.int z]))):=(Mw H1).laid hY;have eY:(upd H1 Y (.lst (T.map V.int++[V.int z]))) Y=some (.lst ((T++[z]).map V.int)):=by rw[ak];simp
    generalize upd H1 Y (.lst (T.map V.int++[V.int z]))=H2 at*;have s12:=s1.trans s2;symm;refine⟨f,Y,h,w,g,z,_,rfl,s12 _ _ hf,by omega,by omega,eY,by simp;omega,fun p H3 rs s3 hp ep _ hx=>?_⟩;dsimp only;rw[lR ep,Az (hx _)];exact q _ (s12.trans s3)
 . rw[MP hs] at q;rw[Mu hs];symm;rw[aA];symm;rw[bc hM,Mr];symm
   have e1:decide ((ms.length:Int)=2)=decide (ms.length=2):=by
    rw[MZ,Mx,Mx];omega
   rw[e1]
   cases hb:decide (ms.length=2) with
   | false=>
    rw[hb,MQ] at q;symm;exact q _ (Mw _)
   | true=>
    rw[hb,MR] at q;have hl:=MG hb;symm;refine ixI hM (by decide) (by omega) ?_;rw[show(0:Int).toNat=0 from rfl];symm;refine ixI hM (by decide) (by omega) ?_;rw[show(1:Int).toNat=1 from rfl];symm
    cases hb2:decide (ms.getD 0 0=ms.getD 1 0) with
    | true=>
     rw[hb2,Oa,MQ] at q;symm;exact q _ (Mw _)
    | false=>
     rw[hb2,Oc,MR] at q;symm;refine ixI hM (by decide) (by omega) ?_;rw[show(1:Int).toNat=1 from rfl];symm;refine ixI hM (by decide) (by omega) ?_;rw[show(0:Int).toNat=0 from rfl];symm;refine⟨f,N,h,w,g,_,_,rfl,hf,by omega,by omega,hN,by omega,fun p H3 rs s3 hp ep _ hx=>?_⟩;dsimp only;rw[lR ep,Az (hx _)];exact q _ s3
theorem qQ {k:RK} {f r:Addr} {ws:List (List Nat)} {n:Int} (hf:IsFl H f h w g) (F:FlOk h w g) (x:IsRule H c k r p ws cs n m) (hC:aN cs Mc.length) (hml:Mc.length=(h*w).toNat) (hA:H A=some (.lst (Mc.map V.int))) (hM:H M=some (.lst (ms.map V.int)))
  (q:∀ H',Same H H'->Q (.bl (if s=m then decide (ms.length=1)&&!rcB h w (thrL cs Mc m z++[z]) z (ms.getD 0 0) else decide (ms.length=2)&&(!decide (ms.getD 0 0=ms.getD 1 0)&&!rcB h w (thrL cs Mc m z) (ms.getD 0 0) (ms.getD 1 0)))) H') (hcs:cs.length<=60):
  e9 K c (eD9 Q) [some (.ref f),some (.ref r),some (.ref A),some (.int z),some (.int s),some (.ref M),some (.int m),none] H:=by
 unfold e9;symm;refine⟨k,r,p,ws,cs,n,m,z,rfl,x,hC.1,fun O H1 s1 hO eO=>?_⟩;have hfl:=MM (fun x=>!decide (x=z)) cs;refine⟨O,rfl,⟨_,MO eO⟩,?_⟩;refine aX (xs:=cs.filter fun x=>!decide (x=z)) (fun x=>stB (Mc.getD x.toNat 0) m) (fun x=>x) (by omega) (MO eO) ?_ ?_ ?_
 . intro y H2 R hy s2 k2;have hyc:=hC.2 y (MK.mp hy).1;show tB _ [none,some (.int y),some (.int m),some (.ref A)] H2 R;symm;refine ixI ((s1.trans s2) _ _ hA) hyc.1 hyc.2 ?_;symm;exact⟨_,m,rfl,_,rfl,k2 _ (Mw _)⟩
 . intro y H2 Q2 hy hb s2 k2;show tVar 1 [none,some (.int y),some (.int m),some (.ref A)] H2 Q2;symm;exact k2 _ (Mw _)
 . intro N H2 hN s2 eN;rw[NN] at eN;have s12:=s1.trans s2;symm;refine qP (s12 _ _ hf) F (s12 _ _ hM) (T:=thrL cs Mc m z) eN ?_ fun H' s3=>q H' (s12.trans s3);unfold thrL;have:=MM (fun x=>stB (Mc.getD x.toNat 0) m) (cs.filter fun x=>!decide (x=z));omega
theorem uL(h:iD K c vs H Q E):iE K c (eD9 Q) (start ["floor","rule","masks","cell","sign","more","mark","through"] vs) H:=by
 obtain⟨k,f,r,p,A,M,ws,cs,Mc,ms,n,m,z,s,h,w,g,rfl,hf,F,x,hC,hcs,hml,hA,hM,hmn,hm,q⟩:=h;obtain⟨dx,W,C,h1,h2,h3⟩:=x.ex;show iE K c _ [some (.ref f),some (.ref r),some (.ref A),some (.int z),some (.int s),some (.ref M),none,none] H;unfold iE;rw[aE,bI];refine methE (k:=k) rfl x.ok h1 (by rfl) ?_;symm;refine⟨r,p,ws,cs,n,m,rfl,x,?_⟩;symm;rw[aA];symm;refine⟨⟨_,MO hM⟩,?_⟩;refine bT (xs:=ms.map V.int) (fun _=>true) (fun i=>.bl (anoB h w Mc z m (ms.getD i 0))) (by rw[Mr];omega) (MO hM) ?_ ?_ ?_
 . intro i y H1 R hy s1 k1;exact k1 _ (Mw _)
 . intro i y H1 Q1 hy hb s1 k1;obtain⟨v,hv,rfl⟩:=aQ hy;have eg:ms.getD i 0=v:=by rw[List.getD,hv];rfl
   rw[eg] at k1;show tCall _ _ _ _ [none,some (.int v),some (.int z),some (.ref f),some (.int m),some (.ref A)] H1 Q1;symm;exact⟨f,A,h,w,g,z,v,m,Mc,rfl,s1 _ _ hf,F,s1 _ _ hA,hml,hm,k1 _ (Mw _)⟩
 . intro l H1 hl s1 el
   have eb:((List.range (ms.map V.int).length).filter fun _=>true).map (fun i=>V.bl (anoB h w Mc z m (ms.getD i 0)))=(ms.map fun o=>anoB h w Mc z m o).map V.bl:=by
    rw[aZ,Mr,Na];refine PM (by simp) fun i h1 h2=>?_;have hi:i<ms.length:=by simpa using h2
    simp[List.getD,Mt hi]
   rw[eb] at el;refine lS el ?_;have ea:(ms.map fun o=>anoB h w Mc z m o).all id=ms.all fun o=>anoB h w Mc z m o:=by rw[Op];rfl
   rw[ea];unfold reaB at q
   cases hb:(ms.all fun o=>anoB h w Mc z m o) with
   | false=>
    rw[hb,MQ] at q;refine⟨false,rfl,?_⟩;symm;exact q _ s1
   | true=>
    rw[hb,MR] at q;refine⟨true,rfl,?_⟩;symm;exact qQ (s1 _ _ hf) F (x.same s1) hC hml (s1 _ _ hA) (s1 _ _ hM) (fun H' s2=>q H' (s1.trans s2)) hcs
theorem yy{k:RK}(h:goesB .reach k=true):sgnK k=true:=by cases k <;> first | rfl | cases h
theorem RR.len26{r:RR}(O:r.Ok h w g)(F:FlOk h w g):r.cs.length<=60:=by
 have m16:=F.m
 cases hk:allK r.k with
 | false=>
  obtain⟨c1,c2,c3,c4,e⟩:=O.cl.told hk;rw[e,Mr];omega
 | true=>
  obtain⟨_,e⟩:=O.cl.all hk;rw[e,j9];omega
def ET(p:Int->Int->Bool):Bool:=(List.range 7).all fun(h:Nat)=>(List.range 7).all fun(w:Nat)=>!(decide (1<=h)&&decide (1<=w)&&decide (h*w<=16))||p h w
theorem EU{p:Int->Int->Bool}(a:ET p=true){h w g:Int}(F:FlOk h w g):p h w=true:=by
 obtain⟨h0,h1,w0,w1,m16,g0,g1⟩:=F;obtain⟨n,rfl⟩:=Om (show 0<=h by omega);obtain⟨m,rfl⟩:=Om (show 0<=w by omega);have a1:=MC.mp a n (MF.mpr (by omega));have a2:=MC.mp a1 m (MF.mpr (by omega));have e1:1<=n:=by omega
 have e2:1<=m:=by omega
 have e3:n*m<=16:=by have:((n*m:Nat):Int)<=16:=by rw[Int.natCast_mul];exact m16
                     omega
 simpa [e1,e2,e3] using a2
def nearS(h w d r:Int):List Int:=if (decide (0<=d)&&decide (d<h))&&(decide (0<=r)&&decide (r<w)) then [d*w+r] else []
def nearP(w c:Int):List (Int × Int):=[(c/w-1,c%w),(c/w,c%w-1),(c/w,c%w+1),(c/w+1,c%w)]
def nearL(h w c:Int):List Int:=(nearP w c).flatMap fun p=>nearS h w p.1 p.2
theorem Dl:ET (fun h w=>(List.range (h*w).toNat).all fun(c:Nat)=>decide (nearL h w c=besL h w c)&&(besL h w c).all fun x=>decide (0<=x)&&decide (x<h*w))=true:=by decide+kernel
theorem rK{c:Int}(F:FlOk h w g)(c0:0<=c)(c1:c<h*w):nearL h w c=besL h w c/\∀ x∈besL h w c,0<=x/\x<h*w:=by
 have t:=MC.mp (EU Dl F) c.toNat (MF.mpr (by omega));have e1:((c.toNat:Nat):Int)=c:=by omega
 rw[e1,MH,Mx,MC] at t;refine⟨t.1,fun x hx=>?_⟩;have:=t.2 x hx
 simpa using this
theorem AA{c:Int}(F:FlOk h w g)(c0:0<=c)(c1:c<h*w)(hn:n=(h*w).toNat):aN (besL h w c) n:=by
 refine⟨ML (uy ..) (by decide),fun x hx=>?_⟩;have:=(rK F c0 c1).2 x hx;omega
def arL(h w o z:Int):List Int:=(besL h w o).filter fun x=>!decide (x=z)
def rL(K:Frag):Sp:=fun vs H Q _=>∃(a:Addr) (h w g o z:Int),vs=[.ref a,.int o,.int z]/\IsFl H a h w g/\FlOk h w g/\∀ l H',Same H H'->H l=none->H' l=some (.lst ((arL h w o z).map V.int))->Q (.ref l) H'
def rM(K:Frag):TS:=
 (tRet (tComp [none,none,some 2] (iList K (tCall (dU K) [] E0 (tCons (tVar 0) (tCons (tVar 1) tNil)))) (gName 1) (tTest (tOp (cNe K) (tVar 1) (tVar 2))) (tVar 1)))
theorem EV(h:rL K vs H Q E):rM K (eD9 Q) (start ["floor","middle","cell"] vs) H:=by
 obtain⟨a,h,w,g,o,z,rfl,ha,F,q⟩:=h;have w0:=F.w0;have w1:=F.w1;show rM K _ [some (.ref a),some (.int o),some (.int z)] H;unfold rM;rw[cR,bD];symm;refine⟨a,h,w,g,o,rfl,ha,by omega,by omega,fun l H1 s1 hl el=>?_⟩;have hb:=uy h w o;refine⟨l,rfl,⟨_,MO el⟩,?_⟩;refine aX (xs:=besL h w o) (fun x=>!decide (x=z)) (fun x=>x) (by omega) (MO el) ?_ ?_ ?_
 . intro y H2 R hy s2 k2;show tTest _ [none,some (.int y),some (.int z)] H2 R;symm;exact k2 _ (Mw _)
 . intro y H2 Q2 hy hb s2 k2;show tVar 1 [none,some (.int y),some (.int z)] H2 Q2;symm;exact k2 _ (Mw _)
 . intro T H2 hT s2 eT;rw[NN] at eT;exact q T H2 (s1.trans s2) (s1.free hT) eT
def mayN(Mc:List Int)(m:Int)(cs:List Int):Nat:=((sgAt Mc cs).filter fun k=>stB k m).length
def onlN(Mc:List Int)(m:Int)(cs:List Int):Nat:=((sgAt Mc cs).filter fun k=>decide (woI k m=0)).length
def turnB(h w m:Int)(Mc:List Int)(z s:Int)(ms:List Int):Bool:=
 if ms=[] then decide (s=m)&&(decide ((mayN Mc m (besL h w z):Int)<2)||decide ((2:Int) < (onlN Mc m (besL h w z):Int)))
 else decide (ms.length=1)&&(decide (ms.getD 0 0∈besL h w z)&&(decide (woI (Mc.getD (ms.getD 0 0).toNat 0) m=0)&&
  (if s=m then decide ((2:Int)<=(onlN Mc m (arL h w (ms.getD 0 0) z):Int)) else decide ((mayN Mc m (arL h w (ms.getD 0 0) z):Int)<2))))
def jF(K:Frag)(c:RCl RK):Sp:=fun vs H Q _=>∃(k:RK) (f r p A M:Addr) (ws:List (List Nat)) (cs Mc ms:List Int) (n m z s h w g:Int),vs=[.ref f,.ref r,.ref A,.int z,.int s,.ref M]/\IsFl H f h w g/\FlOk h w g/\IsRule H c k r p ws cs n m/\Mc.length=(h*w).toNat/\H A=some (.lst (Mc.map V.int))/\H M=some (.lst (ms.map V.int))/\m<=1000/\0<=z/\z<h*w/\∀ H',Same H H'->Q (.bl (turnB h w m Mc z s ms)) H'
def ga(K:Frag)(c:RCl RK):TS:=
 (tSeq (tAsg (tCall (bU K) [] E0 (tCons (tVar 2) (tCons (tCall (rL K) [] E0 (tCons (tVar 0) (tCons (tOp cIx (tVar 5) (tC (.int 0))) (tCons (tVar 3) tNil)))) tNil))) (gName 7))
  (tSeq (tIfS (tTest (tOp (cEq K) (tVar 4) (tVar 6))) (tRet (tOp (cCmp fun i j=>decide (j<=i)) (tCall (dQ K) [] E0 (tCons (tVar 7) (tCons (tVar 6) tNil))) (tC (.int 2)))) tNext)
  (tRet (tOp (cCmp fun i j=>decide (i<j)) (tCall (eX K) [] E0 (tCons (tVar 7) (tCons (tVar 6) tNil))) (tC (.int 2))))))
def gb(K:Frag)(c:RCl RK):TS:=
 (tSeq (tIfS (tOr (tTest (tOp (cNe K) (tCB kLen (tCons (tVar 5) tNil)) (tC (.int 1)))) (tOr (tTest (tOp (cIn K true) (tOp cIx (tVar 5) (tC (.int 0))) (tCall (dU K) [] E0 (tCons (tVar 0) (tCons (tVar 3) tNil))))) (tNot (tB (tCall (cj K) [] E0 (tCons (tOp cIx (tVar 2) (tOp cIx (tVar 5) (tC (.int 0)))) (tCons (tVar 6) tNil))))))) (tRet (tC (.bl false))) tNext)
  (ga K c))
def jG(K:Frag)(c:RCl RK):TS:=
 (tSeq (tAsg (aD c c.ok "sign" (iQ K c) (tVar 1) tNil) (gName 6))
  (tSeq (tIfS (tTest (tOp (cEq K) (tVar 5) (tLst tNil))) (tSeq (tAsg (tCall (bU K) [] E0 (tCons (tVar 2) (tCons (tCall (dU K) [] E0 (tCons (tVar 0) (tCons (tVar 3) tNil))) tNil))) (gName 7))
  (tRet (tAndV (tOp (cEq K) (tVar 4) (tVar 6)) (tOrV (tOp (cCmp fun i j=>decide (i<j)) (tCall (eX K) [] E0 (tCons (tVar 7) (tCons (tVar 6) tNil))) (tC (.int 2))) (tOp (cCmp fun i j=>decide (j<i)) (tCall (dQ K) [] E0 (tCons (tVar 7) (tCons (tVar 6) tNil))) (tC (.int 2))))))) tNext)
  (gb K c)))
theorem rN {f:Addr} (hf:IsFl H f h w g) (F:FlOk h w g) (hml:Mc.length=(h*w).toNat) (hA:H A=some (.lst (Mc.map V.int))) (hM:H M=some (.lst (ms.map V.int))) (hl:ms.length=1) (hm:m<=1000) (z0:0<=z) (z1:z<h*w) (ho:ms.getD 0 0∈besL h w z)
  (q:∀ H',Same H H'->Q (.bl (if s=m then decide ((2:Int)<=(onlN Mc m (arL h w (ms.getD 0 0) z):Int)) else decide ((mayN Mc m (arL h w (ms.getD 0 0) z):Int)<2))) H'):
  ga K c (eD9 Q) [some (.ref f),some v1,some (.ref A),some (.int z),some (.int s),some (.ref M),some (.int m),none] H:=by
 have oin:=(rK F z0 z1).2 _ ho;have bin:=AA (n:=Mc.length) F oin.1 oin.2 hml;have hin:aN (arL h w (ms.getD 0 0) z) Mc.length:=⟨ML (MM _ _) bin.1,fun x hx=>bin.2 x (MK.mp hx).1⟩;unfold ga;symm;refine ixI hM (by decide) (by omega) ?_;rw[show(0:Int).toNat=0 from rfl];symm;refine⟨f,h,w,g,_,z,rfl,hf,F,fun R H1 s1 hR eR=>?_⟩;symm;refine⟨A,R,Mc,_,rfl,s1 _ _ hA,eR,hin,fun B H3 s3 hB eB=>?_⟩;have Mn:(sgAt Mc (arL h w (ms.getD 0 0) z)).length<=63:=by unfold sgAt;rw[Mr];exact hin.1
 symm;rw[aA];symm;by_cases hs:s=m
 . rw[Mv hs];rw[MU hs] at q;symm;refine⟨B,_,_,rfl,eB,Mn,by omega,fun H4 s4=>?_⟩;symm;exact q _ ((s1.trans s3).trans s4)
 . rw[Mu hs];rw[MP hs] at q;symm;refine⟨B,_,_,rfl,eB,Mn,fun H4 s4=>?_⟩;symm;exact q _ ((s1.trans s3).trans s4)
theorem rO {f:Addr} (hf:IsFl H f h w g) (F:FlOk h w g) (hml:Mc.length=(h*w).toNat) (hA:H A=some (.lst (Mc.map V.int))) (hM:H M=some (.lst (ms.map V.int))) (hm:m<=1000) (z0:0<=z) (z1:z<h*w)
  (q:∀ H',Same H H'->Q (.bl (decide (ms.length=1)&&(decide (ms.getD 0 0∈besL h w z)&&(decide (woI (Mc.getD (ms.getD 0 0).toNat 0) m=0)&&(if s=m then decide ((2:Int)<=(onlN Mc m (arL h w (ms.getD 0 0) z):Int)) else decide ((mayN Mc m (arL h w (ms.getD 0 0) z):Int)<2)))))) H'):
  gb K c (eD9 Q) [some (.ref f),some v1,some (.ref A),some (.int z),some (.int s),some (.ref M),some (.int m),none] H:=by
 have w0:=F.w0;have w1:=F.w1;unfold gb;rw[aE,aA];symm;rw[bc hM,Mr];symm
 have e1:decide ((ms.length:Int)=1)=decide (ms.length=1):=by
  rw[MZ,Mx,Mx];omega
 rw[e1]
 cases hb:decide (ms.length=1) with
 | false=>
  rw[hb,MQ] at q;symm;exact q _ (Mw _)
 | true=>
  rw[hb,MR] at q;have hl:=MG hb;symm;refine ixI hM (by decide) (by omega) ?_;rw[show(0:Int).toNat=0 from rfl];symm;refine⟨f,h,w,g,z,rfl,hf,by omega,by omega,fun R H1 s1 hR eR=>?_⟩;dsimp only;rw[lR eR]
  cases hb2:decide (ms.getD 0 0∈besL h w z) with
  | false=>
   rw[hb2,MQ] at q;refine⟨true,rfl,iteT ?_⟩;symm;exact q _ s1
  | true=>
   rw[hb2,MR] at q;have ho:=MG hb2;have oin:=(rK F z0 z1).2 _ ho;refine⟨false,rfl,iteF ?_⟩;symm;refine ixI (s1 _ _ hM) (by decide) (by omega) ?_;rw[show(0:Int).toNat=0 from rfl];symm;refine ixI (s1 _ _ hA) (by omega) (by omega) ?_;symm;refine⟨_,m,rfl,by omega,?_⟩
   cases hb3:decide (woI (Mc.getD (ms.getD 0 0).toNat 0) m=0) with
   | false=>
    rw[hb3,MQ] at q;refine⟨false,rfl,iteT ?_⟩;symm;exact q _ s1
   | true=>
    rw[hb3,MR] at q;refine⟨true,rfl,iteF ?_⟩;exact rN (s1 _ _ hf) F hml (s1 _ _ hA) (s1 _ _ hM) hl hm z0 z1 ho fun H' s2=>q H' (s1.trans s2)
theorem vW(h:jF K c vs H Q E):jG K c (eD9 Q) (start ["floor","rule","masks","cell","sign","more","mark","some"] vs) H:=by
 obtain⟨k,f,r,p,A,M,ws,cs,Mc,ms,n,m,z,s,h,w,g,rfl,hf,F,x,hml,hA,hM,hm,z0,z1,q⟩:=h;obtain⟨dx,W,C,h1,h2,h3⟩:=x.ex;have w0:=F.w0;have w1:=F.w1;show jG K c _ [some (.ref f),some (.ref r),some (.ref A),some (.int z),some (.int s),some (.ref M),none,none] H;unfold jG;rw[aE,bI];refine methE (k:=k) rfl x.ok h1 (by rfl) ?_;symm;refine⟨r,p,ws,cs,n,m,rfl,x,?_⟩;symm;rw[aA];symm;refine⟨aR (by decide),fun Z hZ=>?_⟩;obtain⟨H1,z9,s1,eZ⟩:∃ z,upd H Z (.lst [])=z/\Same H z/\z Z=some (.lst (([]:List Int).map V.int)):=aY _ hZ;rw[z9];refine vm (s1 _ _ hM) eZ ?_;unfold turnB at q;by_cases hms:ms=[]
 . rw[MU hms] at q;rw[Mv hms];refine⟨true,rfl,?_⟩;symm;refine⟨f,h,w,g,z,rfl,s1 _ _ hf,by omega,by omega,fun R H2 s2 hR eR=>?_⟩;have bin:=AA (n:=Mc.length) F z0 z1 hml;symm;refine⟨A,R,Mc,_,rfl,(s1.trans s2) _ _ hA,eR,bin,fun B H3 s3 hB eB=>?_⟩;have Mn:(sgAt Mc (besL h w z)).length<=63:=by unfold sgAt;rw[Mr];exact bin.1
   have s13:=(s1.trans s2).trans s3;symm
   cases hb:decide (s=m) with
   | false=>
    rw[hb,MQ] at q;symm;exact q _ s13
   | true=>
    rw[hb,MR] at q;symm;refine⟨B,_,_,rfl,eB,Mn,fun H4 s4=>?_⟩;symm;have e1:decide ((((sgAt Mc (besL h w z)).filter fun k=>stB k m).length:Int)<2)=decide ((mayN Mc m (besL h w z):Int)<2):=rfl;rw[e1]
    cases hb2:decide ((mayN Mc m (besL h w z):Int)<2) with
    | true=>
     rw[hb2,ON] at q;symm;exact q _ (s13.trans s4)
    | false=>
     rw[hb2,NC] at q;symm;refine⟨B,_,_,rfl,s4 _ _ eB,Mn,by omega,fun H5 s5=>?_⟩;symm;exact q _ ((s13.trans s4).trans s5)
 . rw[MP hms] at q;rw[Mu hms];refine⟨false,rfl,?_⟩;symm;exact rO (s1 _ _ hf) F hml (s1 _ _ hA) (s1 _ _ hM) hm z0 z1 fun H' s2=>q H' (s1.trans s2)
theorem uM(t:TK):decide (tkC t=[114,101,97,99,104])=decide (t=.reach):=by cases t <;> decide
theorem EW{k:RK}(h:goesB .turn k=true):sgnK k=true:=by cases k <;> first | rfl | cases h
noncomputable def AB (h w:Int) (t:TK) (x:RR) (Mc:List Int) (z s:Int) (ms:List Int):Bool:=match t with
 | .square=>squB h w x.m Mc z s ms
 | .reach=>reaB h w x.cs x.m Mc z s ms
 | _=>turnB h w x.m Mc z s ms
noncomputable def kZ (h w:Int) (Mf:List RR) (Mc:List Int) (t:TK) (r z s:Int) (ms:List Int):Bool:=match Mf[r.toNat]? with
 | none=>false
 | some x=>AB h w t x Mc z s ms
abbrev Ik(t:TK):Prop:=t=.square\/t=.reach\/t=.turn
def dC(K:Frag)(c:RCl RK)(d:RCl PzK):Sp:=fun vs H Q _=>∃(P L G A T M:Addr) (h w g:Int) (Mf:List RR) (cl Mc:List Int) (t:TK) (r z s:Int) (ms:List Int),vs=[.ref P,.ref A,.ref T]/\Asks H c d P L G A T M h w g Mf cl Mc t r z s ms/\Ik t/\formB h w g Mf t r z s=true/\∀ H',Same H H'->Q (.bl (kZ h w Mf Mc t r z s ms)) H'
def dD(K:Frag)(c:RCl RK)(d:RCl PzK):TS:=
 (tSeq (tAsg (aD d d.ok "place" (d3 K c d) (tVar 0) tNil) (gName 3))
  (tSeq (tAsg (tOp cIx (aD d d.ok "rules" (cO K c d) (tVar 0) tNil) (tOp cIx (tVar 2) (tC (.int 1)))) (gName 4))
  (tSeq (tIfS (tTest (tOp (cEq K) (tOp cIx (tVar 2) (tC (.int 0))) (tC (.str (tx [115,113,117,97,114,101]))))) (tRet (tCall (gw K c) [] E0 (tCons (tVar 3) (tCons (tVar 4) (tCons (tVar 1) (tCons (tOp cIx (tVar 2) (tC (.int 2))) (tCons (tOp cIx (tVar 2) (tC (.int 3))) (tCons (tOp cIx (tVar 2) (tC (.int 4))) tNil)))))))) tNext)
  (tSeq (tIfS (tTest (tOp (cEq K) (tOp cIx (tVar 2) (tC (.int 0))) (tC (.str (tx [114,101,97,99,104]))))) (tRet (tCall (iD K c) [] E0 (tCons (tVar 3) (tCons (tVar 4) (tCons (tVar 1) (tCons (tOp cIx (tVar 2) (tC (.int 2))) (tCons (tOp cIx (tVar 2) (tC (.int 3))) (tCons (tOp cIx (tVar 2) (tC (.int 4))) tNil)))))))) tNext)
  (tRet (tCall (jF K c) [] E0 (tCons (tVar 3) (tCons (tVar 4) (tCons (tVar 1) (tCons (tOp cIx (tVar 2) (tC (.int 2))) (tCons (tOp cIx (tVar 2) (tC (.int 3))) (tCons (tOp cIx (tVar 2) (tC (.int 4))) tNil))))))))))))
variable{d:RCl PzK}
theorem oB(h:dC K c d vs H Q E):dD K c d (eD9 Q) (start ["puzzle","masks","thought","floor","rule"] vs) H:=by
 obtain⟨P,L,G,A,T,M,h,w,g,Mf,cl,Mc,t,r,z,s,ms,rfl,X,ht,f,q⟩:=h;obtain⟨dx,p,rs,h1,h2,h3⟩:=X.P.ex;obtain⟨z0,z1,s0,s1',Mq⟩:=dY f;have hg:=X.P.R.F.g1;have hnc:t≠.clue:=by rcases ht with rfl | rfl | rfl <;> decide
 obtain⟨r0,y,ey,hgo,hz⟩:=oY hnc Mq;have O:=X.P.R.ok y (Mz ey)
 have q2:∀ H',Same H H'->Q (.bl (AB h w t y Mc z s ms)) H':=fun H' s'=>by
  have q1:=q H' s';unfold kZ at q1;rw[ey] at q1;exact q1
 show dD K c d _ [some (.ref P),some (.ref A),some (.ref T),none,none] H;unfold dD;rw[aE,bI];refine methE (k:=.Puzzle) rfl X.P.ok h1 (by rfl) ?_;symm;refine⟨P,L,G,h,w,g,Mf,cl,rfl,X.P,fun p3 hp3=>?_⟩;symm;refine methE (k:=.Puzzle) rfl X.P.ok h1 (by rfl) ?_;symm;refine⟨P,L,G,h,w,g,Mf,cl,rfl,X.P,fun l p2 rs2 hl hp2 Y=>?_⟩;have s2:Same H (upd H l (.lst (rs2.map V.ref))):=(Mw H).laid hl;generalize upd H l (.lst (rs2.map V.ref))=H1 at*;have hlt:=(My.mp ey).1;have Mn:=Y.len;have ea:rs2[r.toNat]? =some rs2[r.toNat]:=Mt (by omega);dsimp only;refine ixT (s2 _ _ X.T.T) (v:=V.int r) rfl ?_;refine ixL Y.top (fU r0 ea) ?_;symm;rw[aA];symm;refine ixT (s2 _ _ X.T.T) (v:=V.str (tx (tkC t))) rfl ?_;symm;rw[bn,yu];rcases ht with rfl | rfl | rfl
 . rw[Mv rfl];refine iteT ?_;symm;refine ixT (s2 _ _ X.T.T) (v:=V.int z) rfl ?_;symm;refine ixT (s2 _ _ X.T.T) (v:=V.int s) rfl ?_;symm;refine ixT (s2 _ _ X.T.T) (v:=V.ref M) rfl ?_;symm;exact⟨_,p3,_,p2,A,M,_,y.cs,Mc,ms,_,_,z,s,h,w,g,rfl,s2 _ _ hp3,X.P.R.F,Y.at_ _ _ _ ea ey,X.n,s2 _ _ X.A,s2 _ _ X.T.M,by omega,fun H' s3=>q2 H' (s2.trans s3)⟩
 . have ym:=(O.m0 (yy hgo)).2;rw[Mu (show ¬ TK.reach=TK.square by decide)];refine iteF ?_;rw[aA];symm;refine ixT (s2 _ _ X.T.T) (v:=V.str (tx (tkC .reach))) rfl ?_;symm;rw[bn,uM,Mv rfl];refine iteT ?_;symm;refine ixT (s2 _ _ X.T.T) (v:=V.int z) rfl ?_;symm;refine ixT (s2 _ _ X.T.T) (v:=V.int s) rfl ?_;symm;refine ixT (s2 _ _ X.T.T) (v:=V.ref M) rfl ?_;symm;have hin:aN y.cs Mc.length:=by rw[X.n];exact O7 O X.P.R.F
   exact⟨_,p3,_,p2,A,M,_,y.cs,Mc,ms,_,_,z,s,h,w,g,rfl,s2 _ _ hp3,X.P.R.F,Y.at_ _ _ _ ea ey,hin,RR.len26 O X.P.R.F,X.n,s2 _ _ X.A,s2 _ _ X.T.M,X.T.n,by omega,fun H' s3=>q2 H' (s2.trans s3)⟩
 . have ym:=(O.m0 (EW hgo)).2;rw[Mu (show ¬ TK.turn=TK.square by decide)];refine iteF ?_;rw[aA];symm;refine ixT (s2 _ _ X.T.T) (v:=V.str (tx (tkC .turn))) rfl ?_;symm;rw[bn,uM,Mu (show ¬ TK.turn=TK.reach by decide)];refine iteF ?_;symm;refine ixT (s2 _ _ X.T.T) (v:=V.int z) rfl ?_;symm;refine ixT (s2 _ _ X.T.T) (v:=V.int s) rfl ?_;symm;refine ixT (s2 _ _ X.T.T) (v:=V.ref M) rfl ?_;symm;exact⟨_,p3,_,p2,A,M,_,y.cs,Mc,ms,_,_,z,s,h,w,g,rfl,s2 _ _ hp3,X.P.R.F,Y.at_ _ _ _ ea ey,X.n,s2 _ _ X.A,s2 _ _ X.T.M,by omega,z0,z1,fun H' s3=>q2 H' (s2.trans s3)⟩
theorem RC.less{ds:List Int}{st:Int}(sub:∀ c∈cs,c∈ds)(r:RC h w cs st x):RC h w ds st x:=by
 induction r with
 | start h=>exact .start (sub _ h)
 | step _ hb hc ih=>exact .step ih hb (sub _ hc)
theorem sZ(m0:0<=m)(x:Int):x∈sgL m↔stB m x=true:=by
 unfold sgL;rw[MJ];constructor
 . rintro⟨i,hi,rfl⟩;exact(MK.mp hi).2
 . intro h;have h':=h;unfold stB at h';rw[MH,MH] at h';have a:=MG h'.1;have b:=MG h'.2.1;refine⟨(x-1).toNat,MK.mpr ⟨MF.mpr (by omega),?_⟩,by omega⟩;rw[show 1+(((x-1).toNat:Nat):Int)=x by omega];exact h
theorem AC{f:Nat->Int}(hf:∀ a b,f a=f b->a=b):∀{xs:List Nat},xs.Nodup->(xs.map f).Nodup
 | [],_=>OO
 | x::r,h=>by
  rw[Nm] at h;rw[M4,Nm];refine⟨fun hx=>?_,AC hf h.2⟩;obtain⟨y,hy,e⟩:=MJ.mp hx;exact h.1 (hf _ _ e ▸ hy)
theorem Il(m:Int):(sgL m).Nodup:=by
 unfold sgL;exact AC (f:=fun(i:Nat)=>1+(i:Int)) (fun a b e=>by have e':(1:Int)+(a:Int)=1+(b:Int):=e;omega) (List.Nodup.sublist List.filter_sublist PK)
theorem AD:((List.range 64).all fun m=>decide (Builtin.Int.intBits (m:Int)<=6))=true:=by decide+kernel
theorem yz:∀(rs:List (List Nat)),(∀ r∈rs,r.length<=2)->(catL 32 rs).length<=3*rs.length
 | [],_=>by simp[catL]
 | [x],h=>by have:=h x MD;simp[catL];omega
 | x::y::r,h=>by
  rw[dw (by simp)];have h1:=h x MD;have h2:=yz (y::r) fun z hz=>h z (MI _ hz);simp only[M6,M3] at*;omega
theorem hV{cs:List Nat}(h:cs.length<=16):(catL 32 (cs.map numC)).length<=48:=by
 have:=yz (cs.map numC) fun r hr=>by obtain⟨x,_,rfl⟩:=MJ.mp hr;exact dP
 rw[Mr] at this;omega
theorem Dm{k:RK}{m:Nat}{ns:List Nat}(F:FlOk h w g)(ne:ns≠[])(lt:∀ c∈ns,(c:Int)<h*w)(nd:ns.Nodup)(len:ns.length<=16)(hk:allK k=false)(k0:k≠.Rule)(n0:n<=99)(nz:numK k=false->n=0)(m0:sgnK k=true->1<=(m:Int)/\(m:Int)<=g)(mz:sgnK k=false->m=0):
  RR.Ok ⟨k,n,m,ns,ns.map fun(n:Nat)=>(n:Int)⟩ h w g:=by
 have m16:=F.m;refine⟨k0,n0,nz,m0,mz,⟨fun _=>⟨ne,len,lt,nd,rfl⟩,fun e=>?_⟩,fun x hx=>?_,len⟩
 . rw[show allK k=false from hk] at e;cases e
 . have:=lt x hx;omega
theorem strL{a b:List Nat}(h1:a.length<=400)(h2:b.length<=400)(q:Q (.str (tx (a++b))) H):cAdd (.str (tx a)) (.str (tx b)) H Q:=by
 rw[cC,oV];exact⟨by rw[bN,bN];exact aR (by omega),q⟩
def dTh(t:TK)(r z s:Int)(ms:List Int):PyData:=.tuple [.str (tx (tkC t)),.int r,.int z,.int s,.list (ms.map PyData.int)]
theorem Im(t:TK)(r z s:Int)(ms:List Int):PyData.eqv (dTh t r z s ms) (dTh t r z s ms)=true:=by
 unfold dTh;rw[PyData.eqv,PyData.eqvAll,PyData.eqvAll,PyData.eqvAll,PyData.eqvAll,PyData.eqvAll,PyData.eqvAll,y0,xw,xw,xw,PyData.eqv];simp
theorem yA(t:TK)(r z s:Int)(ms:List Int):SeqAt.shaped (dTh t r z s ms)=true:=by
 have a1:PyData.strOk (tx (tkC t))=true:=C9 (by cases t <;> decide);unfold dTh;simp[SeqAt.shaped,PyData.canLay0,PyData.canLayAll0,a1,mf,PyData.depth,PyData.depthAll,iY]
variable{t:TK}
theorem Dn{T:Addr}{r:Int}(x:IsTh H T M t r z s ms):DV K H (.ref T) (dTh t r z s ms):=
 .tup (Qa x.T) (.cons (.str _) (.cons (.int _) (.cons (.int _) (.cons (.int _) (.cons (.lst (MO x.M) (.ints ms)) .nil)))))
theorem Io{tl:TE}{g:TG}{tb:TS}{D:Ends}{σ:St}:tFor (iTup K tl) g tb D σ H=tl σ H fun x H1=>∃ a,x=.ref a/\(∃ xs,SqT K H1 a xs)/\LoopR (Itt K a) g tb D σ H1:=rfl
theorem GU(t:TK):decide (tkC t=[112,97,105,114])=decide (t=.pair):=by cases t <;> decide
theorem GV(t:TK):decide (tkC t=[116,117,114,110])=decide (t=.turn):=by cases t <;> decide
noncomputable def AE (h w:Int) (x:RR) (Mc:List Int) (t:TK) (z s:Int) (ms:List Int):Bool:=match t with
 | .count=>cntB x.cs x.n x.m Mc z s ms
 | .sum=>sumB x.cs x.n Mc z s ms
 | .step=>stepB x.cs Mc z s ms
 | _=>waysB x.k h w x.cs x.n x.m Mc z s ms
noncomputable def gc (h w:Int) (Mf:List RR) (Mc:List Int) (t:TK) (r z s:Int) (ms:List Int):Bool:=match Mf[r.toNat]? with
  | none=>false
  | some x=>AE h w x Mc t z s ms
def dE(K:Frag)(c:RCl RK)(d:RCl PzK):Sp:=fun vs H Q _=>∃(P L G A T M:Addr) (h w g:Int) (Mf:List RR) (cl Mc:List Int) (t:TK) (r z s:Int) (ms:List Int),vs=[.ref P,.ref A,.ref T]/\Asks H c d P L G A T M h w g Mf cl Mc t r z s ms/\(t=.count\/t=.sum\/t=.ways)/\(∀ m∈Mc,0<=m/\m<64)/\formB h w g Mf t r z s=true/\∀ H',Same H H'->Q (.bl (gc h w Mf Mc t r z s ms)) H'
def dF(K:Frag)(c:RCl RK)(d:RCl PzK):TS:=
 (tSeq (tAsg (tOp cIx (aD d d.ok "rules" (cO K c d) (tVar 0) tNil) (tOp cIx (tVar 2) (tC (.int 1)))) (gName 3))
  (tSeq (tIfS (tTest (tOp (cEq K) (tOp cIx (tVar 2) (tC (.int 0))) (tC (.str (tx [99,111,117,110,116]))))) (tRet (tCall (iy K c) [] E0 (tCons (tVar 3) (tCons (tVar 1) (tCons (tOp cIx (tVar 2) (tC (.int 2))) (tCons (tOp cIx (tVar 2) (tC (.int 3))) (tCons (tOp cIx (tVar 2) (tC (.int 4))) tNil))))))) tNext)
  (tSeq (tIfS (tTest (tOp (cEq K) (tOp cIx (tVar 2) (tC (.int 0))) (tC (.str (tx [115,117,109]))))) (tRet (tCall (kf K c) [] E0 (tCons (tVar 3) (tCons (tVar 1) (tCons (tOp cIx (tVar 2) (tC (.int 2))) (tCons (tOp cIx (tVar 2) (tC (.int 3))) (tCons (tOp cIx (tVar 2) (tC (.int 4))) tNil))))))) tNext)
  (tRet (tCall (jD K c) [] E0 (tCons (tVar 3) (tCons (tVar 1) (tCons (tOp cIx (tVar 2) (tC (.int 2))) (tCons (tOp cIx (tVar 2) (tC (.int 3))) (tCons (tOp cIx (tVar 2) (tC (.int 4))) tNil))))))))))
theorem oC(h:dE K c d vs H Q E):dF K c d (eD9 Q) (start ["puzzle","masks","thought","rule"] vs) H:=by
 obtain⟨P,L,G,A,T,M,h,w,g,Mf,cl,Mc,t,r,z,s,ms,rfl,X,ht,mo,f,q⟩:=h;obtain⟨dx,p,rs,h1,h2,h3⟩:=X.P.ex;obtain⟨z0,z1,s0,s1',Mq⟩:=dY f;have hg:=X.P.R.F.g1;have hmm:=X.P.R.F.m;obtain⟨r0,y,ey,hgo,hz⟩:=oY (by rcases ht with rfl | rfl | rfl <;> decide) Mq;have O:=X.P.R.ok y (Mz ey);have hin:aN y.cs Mc.length:=by rw[X.n];exact O7 O X.P.R.F
 show dF K c d _ [some (.ref P),some (.ref A),some (.ref T),none] H;unfold dF;rw[aE,bI,gn];refine methE (k:=.Puzzle) rfl X.P.ok h1 (by rfl) ?_;symm;refine⟨P,L,G,h,w,g,Mf,cl,rfl,X.P,fun l p2 rs2 hl hp2 Y=>?_⟩;have s2:Same H (upd H l (.lst (rs2.map V.ref))):=(Mw H).laid hl;generalize upd H l (.lst (rs2.map V.ref))=H1 at*;have hlt:=(My.mp ey).1;have Mn:=Y.len;have ea:rs2[r.toNat]? =some rs2[r.toNat]:=Mt (by omega)
 have fin:∀ H',Same H1 H'->Q (.bl (AE h w y Mc t z s ms)) H':=fun H' s3=>by
  have q1:=q H' (s2.trans s3);unfold gc at q1;rw[ey] at q1;exact q1
 dsimp only;refine ixT (s2 _ _ X.T.T) (v:=V.int r) rfl ?_;refine ixL Y.top (fU r0 ea) ?_;symm;rw[aA];symm;refine ixT (s2 _ _ X.T.T) (v:=V.str (tx (tkC t))) rfl ?_;symm;rw[bn,FK];rcases ht with rfl | rfl | rfl
 . rw[Mv rfl];refine iteT ?_;symm;refine ixT (s2 _ _ X.T.T) (v:=V.int z) rfl ?_;symm;refine ixT (s2 _ _ X.T.T) (v:=V.int s) rfl ?_;symm;refine ixT (s2 _ _ X.T.T) (v:=V.ref M) rfl ?_;symm;exact⟨_,_,p2,A,M,_,y.cs,Mc,ms,_,_,z,s,rfl,Y.at_ _ _ _ ea ey,hin,s2 _ _ X.A,s2 _ _ X.T.M,by omega,fin⟩
 . rw[Mu (by decide)];refine iteF ?_;rw[aA];symm;refine ixT (s2 _ _ X.T.T) (v:=V.str (tx (tkC .sum))) rfl ?_;symm;rw[bn,EN,Mv rfl];refine iteT ?_;symm;refine ixT (s2 _ _ X.T.T) (v:=V.int z) rfl ?_;symm;refine ixT (s2 _ _ X.T.T) (v:=V.int s) rfl ?_;symm;refine ixT (s2 _ _ X.T.T) (v:=V.ref M) rfl ?_;symm;exact⟨_,_,p2,A,M,_,y.cs,Mc,ms,_,_,z,s,rfl,Y.at_ _ _ _ ea ey,hin,mo,s2 _ _ X.A,s2 _ _ X.T.M,fin⟩
 . rw[Mu (by decide)];refine iteF ?_;rw[aA];symm;refine ixT (s2 _ _ X.T.T) (v:=V.str (tx (tkC .ways))) rfl ?_;symm;rw[bn,EN,Mu (by decide)];refine iteF ?_;symm;refine ixT (s2 _ _ X.T.T) (v:=V.int z) rfl ?_;symm;refine ixT (s2 _ _ X.T.T) (v:=V.int s) rfl ?_;symm;refine ixT (s2 _ _ X.T.T) (v:=V.ref M) rfl ?_;symm;exact⟨_,_,p2,A,M,_,y.cs,Mc,ms,_,_,z,s,h,w,g,rfl,Y.at_ _ _ _ ea ey,hp2,X.P.R.F,hin,by rw[X.n];omega,mo,by omega,by omega,s2 _ _ X.A,s2 _ _ X.T.M,fin⟩
noncomputable def strA (h w g:Int) (Mf:List RR) (cl Mc:List Int) (t:TK) (r z s:Int) (ms:List Int):Bool:=
 if lineK t then(if t=.step then gc h w Mf Mc t r z s ms else hJ g Mf cl Mc t r z s ms) else if nbrK t then gc h w Mf Mc t r z s ms else kZ h w Mf Mc t r z s ms
def fc(K:Frag)(c:RCl RK)(d:RCl PzK):Sp:=fun vs H Q _=>∃(P L G A T M:Addr) (h w g:Int) (Mf:List RR) (cl Mc:List Int) (t:TK) (r z s:Int) (ms:List Int),vs=[.ref P,.ref A,.ref T]/\Asks H c d P L G A T M h w g Mf cl Mc t r z s ms/\lineK t=true/\(∀ m∈Mc,0<=m/\m<64)/\formB h w g Mf t r z s=true/\∀ H',Same H H'->Q (.bl (strA h w g Mf cl Mc t r z s ms)) H'
def fe(K:Frag)(c:RCl RK)(d:RCl PzK):TS:=
 (tSeq (tAsg (tOp cIx (tVar 2) (tC (.int 0))) (gName 3))
  (tSeq (tAsg (tOp cIx (tVar 2) (tC (.int 2))) (gName 4))
  (tSeq (tAsg (tOp cIx (tVar 2) (tC (.int 3))) (gName 5))
  (tSeq (tAsg (tOp cIx (tVar 2) (tC (.int 4))) (gName 6))
  (tSeq (tIfS (tTest (tOp (cEq K) (tVar 3) (tC (.str (tx [99,108,117,101]))))) (tRet (tCall (js K) [] E0 (tCons (aD d d.ok "clues" (mJ K c d) (tVar 0) tNil) (tCons (tVar 4) (tCons (tVar 5) (tCons (tVar 6) tNil)))))) tNext)
  (tSeq (tAsg (tOp cIx (aD d d.ok "rules" (cO K c d) (tVar 0) tNil) (tOp cIx (tVar 2) (tC (.int 1)))) (gName 7))
  (tSeq (tIfS (tTest (tOp (cEq K) (tVar 3) (tC (.str (tx [111,110,108,121]))))) (tRet (tCall (ju K c) [] E0 (tCons (tVar 7) (tCons (tVar 1) (tCons (tVar 4) (tCons (tVar 5) (tCons (tVar 6) tNil))))))) tNext)
  (tSeq (tIfS (tTest (tOp (cEq K) (tVar 3) (tC (.str (tx [112,108,97,99,101]))))) (tRet (tCall (iu K c) [] E0 (tCons (aD d d.ok "place" (d3 K c d) (tVar 0) tNil) (tCons (tVar 7) (tCons (tVar 1) (tCons (tVar 4) (tCons (tVar 5) (tCons (tVar 6) tNil)))))))) tNext)
  (tSeq (tIfS (tTest (tOp (cEq K) (tVar 3) (tC (.str (tx [115,116,101,112]))))) (tRet (tCall (jy K c) [] E0 (tCons (tVar 7) (tCons (tVar 1) (tCons (tVar 4) (tCons (tVar 5) (tCons (tVar 6) tNil))))))) tNext)
  (tRet (tCall (jw K c) [] E0 (tCons (tVar 7) (tCons (tVar 1) (tCons (tVar 4) (tCons (tVar 5) (tCons (tVar 6) tNil))))))))))))))))
theorem qR(h:fc K c d vs H Q E):fe K c d (eD9 Q) (start ["puzzle","masks","thought","kind","cell","sign","more","rule"] vs) H:=by
 obtain⟨P,L,G,A,T,M,h,w,g,Mf,cl,Mc,t,r,z,s,ms,rfl,X,ht,mm,f,q⟩:=h;obtain⟨dx,p,rs,h1,h2,h3⟩:=X.P.ex;obtain⟨z0,z1,s0,s1',Mq⟩:=dY f;have hcl:=X.P.C.len;have hg:=X.P.R.F.g1;unfold strA at q;rw[ht,MU rfl] at q;show fe K c d _ [some (.ref P),some (.ref A),some (.ref T),none,none,none,none,none] H;unfold fe;symm;refine ixT X.T.T (v:=V.str (tx (tkC t))) rfl ?_;symm;refine ixT X.T.T (v:=V.int z) rfl ?_;symm;refine ixT X.T.T (v:=V.int s) rfl ?_;symm;refine ixT X.T.T (v:=V.ref M) rfl ?_;symm;rw[aA];symm;rw[bn,sY];by_cases hc:t=.clue
 . subst hc;rw[MP (by decide)] at q;rw[Mv rfl];refine iteT ?_;refine methE (k:=.Puzzle) rfl X.P.ok h1 (by rfl) ?_;symm;refine⟨P,L,G,h,w,g,Mf,cl,rfl,X.P,fun l hl=>?_⟩;have s2:Same H (upd H l (.lst (cl.map V.int))):=(Mw H).laid hl;exact⟨l,M,z,s,cl,ms,rfl,ak,z0,by omega,s2 _ _ X.T.M,fun H' s3=>q H' (s2.trans s3)⟩
 . rw[Mu hc];obtain⟨r0,y,ey,_,hz⟩:=oY hc Mq
   have q2:t≠.step->∀ H',Same H H'->Q (.bl (kY g t y Mc z s ms)) H':=fun hn H' s'=>by
    have q1:=q H' s';rw[MP hn] at q1
    have e:hJ g Mf cl Mc t r z s ms=kY g t y Mc z s ms:=by
     unfold hJ;cases t <;> first | exact absurd rfl hc | (dsimp only;rw[ey])
    rw[e] at q1;exact q1
   refine iteF ?_;refine methE (k:=.Puzzle) rfl X.P.ok h1 (by rfl) ?_;symm;refine⟨P,L,G,h,w,g,Mf,cl,rfl,X.P,fun l p2 rs2 hl hp2 Y=>?_⟩;have s2:Same H (upd H l (.lst (rs2.map V.ref))):=(Mw H).laid hl;generalize upd H l (.lst (rs2.map V.ref))=H1 at*;have hlt:=(My.mp ey).1;have Mn:=Y.len;have ea:rs2[r.toNat]? =some rs2[r.toNat]:=Mt (by omega);have O:=X.P.R.ok y (Mz ey);have hin:aN y.cs Mc.length:=by rw[X.n];exact O7 O X.P.R.F
   dsimp only;refine ixT (s2 _ _ X.T.T) (v:=V.int r) rfl ?_;refine ixL Y.top (fU r0 ea) ?_;symm;rw[aA];symm;rw[bn,Cp];by_cases ho:t=.only
   . subst ho;rw[Mv rfl];refine iteT ?_;symm;exact⟨_,_,p2,A,M,_,y.cs,Mc,ms,_,_,z,s,rfl,Y.at_ _ _ _ ea ey,hin,s2 _ _ X.A,s2 _ _ X.T.M,by omega,fun H' s3=>q2 (by decide) H' (s2.trans s3)⟩
   . rw[Mu ho];refine iteF ?_;rw[aA];symm;rw[bn,Aq];by_cases hp:t=.place
     . subst hp;rw[Mv rfl];refine iteT ?_;refine methE (k:=.Puzzle) rfl X.P.ok (s2 _ _ h1) (by rfl) ?_;symm;refine⟨P,L,G,h,w,g,Mf,cl,rfl,X.P.same s2,fun p3 hp3=>?_⟩;symm;exact⟨_,p3,_,p2,A,M,_,y.cs,Mc,ms,_,_,z,s,h,w,g,rfl,hp3,Y.at_ _ _ _ ea ey,hin,s2 _ _ X.A,s2 _ _ X.T.M,fun H' s3=>q2 (by decide) H' (s2.trans s3)⟩
     . rw[Mu hp];refine iteF ?_;rw[aA];symm;rw[bn,GO];by_cases hs:t=.step
       . subst hs;rw[Mv rfl];refine iteT ?_;symm;refine⟨_,_,p2,A,M,_,y.cs,Mc,ms,_,_,z,s,rfl,Y.at_ _ _ _ ea ey,hin,hz,mm,s2 _ _ X.A,s2 _ _ X.T.M,fun H' s3=>?_⟩;have q1:=q H' (s2.trans s3);rw[MU rfl] at q1;unfold gc at q1;rw[ey] at q1;exact q1
       . rw[Mu hs]
         have hpr:t=.pair:=by
          revert ht hc ho hp hs
          cases t <;> intro ht hc ho hp hs <;> first | rfl | exact absurd rfl hc | exact absurd rfl ho | exact absurd rfl hp | exact absurd rfl hs | cases ht
         subst hpr;refine iteF ?_;symm;exact⟨_,_,p2,A,M,_,y.cs,Mc,ms,_,_,z,s,rfl,Y.at_ _ _ _ ea ey,hin,mm,s2 _ _ X.A,s2 _ _ X.T.M,fun H' s3=>q2 (by decide) H' (s2.trans s3)⟩
def kM(K:Frag)(c:RCl RK)(d:RCl PzK):Sp:=fun vs H Q _=>∃(P L G A T M:Addr) (h w g:Int) (Mf:List RR) (cl Mc:List Int) (t:TK) (r z s:Int) (ms:List Int),vs=[.ref P,.ref A,.ref T]/\Asks H c d P L G A T M h w g Mf cl Mc t r z s ms/\(∀ m∈Mc,0<=m/\m<64)/\formB h w g Mf t r z s=true/\∀ H',Same H H'->Q (.bl (strA h w g Mf cl Mc t r z s ms)) H'
def oE(K:Frag)(c:RCl RK)(d:RCl PzK):TS:=
 (tSeq (tIfS (tB (tInG ie false (tOp cIx (tVar 2) (tC (.int 0))))) (tRet (tCall (fc K c d) [] E0 (tCons (tVar 0) (tCons (tVar 1) (tCons (tVar 2) tNil))))) tNext)
  (tSeq (tIfS (tB (tInG fJ false (tOp cIx (tVar 2) (tC (.int 0))))) (tRet (tCall (dE K c d) [] E0 (tCons (tVar 0) (tCons (tVar 1) (tCons (tVar 2) tNil))))) tNext)
  (tRet (tCall (dC K c d) [] E0 (tCons (tVar 0) (tCons (tVar 1) (tCons (tVar 2) tNil)))))))
theorem nbrA(h:nbrK t=true):t=.count\/t=.sum\/t=.ways:=by cases t <;> first | exact .inl rfl | exact .inr (.inl rfl) | exact .inr (.inr rfl) | cases h
theorem regA(h1:lineK t=false)(h2:nbrK t=false):Ik t:=by cases t <;> first | exact .inl rfl | exact .inr (.inl rfl) | exact .inr (.inr rfl) | (cases h1;done) | (cases h2;done)
theorem BS(h:kM K c d vs H Q E):oE K c d (eD9 Q) (start ["puzzle","masks","thought"] vs) H:=by
 obtain⟨P,L,G,A,T,M,h,w,g,Mf,cl,Mc,t,r,z,s,ms,rfl,X,mm,f,q⟩:=h;show oE K c d _ [some (.ref P),some (.ref A),some (.ref T)] H;unfold oE;rw[aE,aA];symm;refine ixT X.T.T (v:=V.str (tx (tkC t))) rfl ?_;symm;rw[GL]
 cases e1:lineK t with
 | true=>
  refine iteT ?_;exact⟨P,L,G,A,T,M,h,w,g,Mf,cl,Mc,t,r,z,s,ms,rfl,X,e1,mm,f,q⟩
 | false=>
  unfold strA at q;rw[e1,MP ME] at q;refine iteF ?_;rw[aA];symm;refine ixT X.T.T (v:=V.str (tx (tkC t))) rfl ?_;symm;rw[Ic]
  cases e2:nbrK t with
  | true=>
   rw[e2,MU rfl] at q;refine iteT ?_;exact⟨P,L,G,A,T,M,h,w,g,Mf,cl,Mc,t,r,z,s,ms,rfl,X,nbrA e2,mm,f,q⟩
  | false=>
   rw[e2,MP ME] at q;refine iteF ?_;symm;exact⟨P,L,G,A,T,M,h,w,g,Mf,cl,Mc,t,r,z,s,ms,rfl,X,regA e1 e2,f,q⟩
noncomputable def alwA (h w g:Int) (Mf:List RR) (cl Mc:List Int) (t:TK) (r z s:Int) (ms:List Int):Bool:=formB h w g Mf t r z s&&strA h w g Mf cl Mc t r z s ms
def oF(K:Frag)(c:RCl RK)(d:RCl PzK):Sp:=fun vs H Q _=>∃(P L G A T M:Addr) (h w g:Int) (Mf:List RR) (cl Mc:List Int) (t:TK) (r z s:Int) (ms:List Int),vs=[.ref P,.ref A,.ref T]/\Asks H c d P L G A T M h w g Mf cl Mc t r z s ms/\(∀ m∈Mc,0<=m/\m<64)/\∀ H',Same H H'->Q (.bl (alwA h w g Mf cl Mc t r z s ms)) H'
def oG(K:Frag)(c:RCl RK)(d:RCl PzK):TS:=
 (tRet (tAndV (tCall (mK K c d) [] E0 (tCons (tVar 0) (tCons (tVar 2) tNil))) (tCall (kM K c d) [] E0 (tCons (tVar 0) (tCons (tVar 1) (tCons (tVar 2) tNil))))))
theorem BT(h:oF K c d vs H Q E):oG K c d (eD9 Q) (start ["puzzle","masks","thought"] vs) H:=by
 obtain⟨P,L,G,A,T,M,h,w,g,Mf,cl,Mc,t,r,z,s,ms,rfl,X,mm,q⟩:=h;show oG K c d _ [some (.ref P),some (.ref A),some (.ref T)] H;unfold oG;symm;refine⟨t,P,L,G,T,M,h,w,g,r,z,s,Mf,cl,ms,rfl,X.P,X.T,fun H1 s1=>?_⟩;unfold alwA at q
 cases hb:formB h w g Mf t r z s with
 | false=>
  rw[hb,MQ] at q;exact⟨false,rfl,iteF (q _ s1)⟩
 | true=>
  rw[hb,MR] at q;refine⟨true,rfl,iteT ?_⟩;symm;exact⟨P,L,G,A,T,M,h,w,g,Mf,cl,Mc,t,r,z,s,ms,rfl,X.same s1,mm,hb,fun H' s2=>q H' (s1.trans s2)⟩
def tGT(K:Frag)(ws:List Str):TE:=fun _ H Q=>∀ q,SqT K H q (ws.map V.str)->Q (.ref q) H
section
variable{X:Cx}{pos:Pos}{x:Str}{ws:List Str}
theorem vX(G:GTup X.K X.mg x ws)(hg:Gl X x)(hdb:(x==("__debug__":Str))=false:=by decide):PE X (.Name x pos) (tGT X.K ws):=by
 obtain⟨q,o,Mi,n,h1,h2⟩:=G.ex;intro Md s σ H Q I h;exact cp (v:=V.ref q) hg h1 rfl hdb Md s σ H Q I (h q (.inr ⟨o,Mi,n,h2⟩))
end
theorem FQ{K:Frag}{ws:List Str}{σ:St}{H:Hp}{Q:VK}:tGT K ws σ H Q=∀ q,SqT K H q (ws.map V.str)->Q (.ref q) H:=rfl
def stL(ms:List Int)(c s:Int):List Int:=(List.range ms.length).map fun(i:Nat)=>if (i:Int)=c then woI (ms.getD i 0) s else ms.getD i 0
def nE(K:Frag):Sp:=fun vs H Q _=>∃(p:Addr) (ms:List Int) (c s:Int),vs=[.ref p,.int c,.int s]/\H p=some (.lst (ms.map V.int))/\ms.length<=900/\s<=100000/\∀ l H',Same H H'->H l=none->H' l=some (.lst ((stL ms c s).map V.int))->Q (.ref l) H'
def rP(K:Frag):TS:=
 (tRet (tComp [none,none,none,some 1,some 2] (iEnum K (tCons (tVar 0) tNil)) (gTup K 2 (gCons (gName 1) (gCons (gName 2) gNil))) tTrue (tIf (tTest (tOp (cEq K) (tVar 1) (tVar 3))) (tCall (lW K) [] E0 (tCons (tVar 2) (tCons (tVar 4) tNil))) (tVar 2))))
variable{K:Frag}{vs:List V}{H:Hp}{Q:VK}{E:XK}
theorem EX(h:nE K vs H Q E):rP K (eD9 Q) (start ["masks","cell","sign"] vs) H:=by
 obtain⟨p,ms,c,s,rfl,hp,hn,hs,k⟩:=h;show rP K _ [some (.ref p),some (.int c),some (.int s)] H;unfold rP;symm;refine⟨p,rfl,⟨_,MO hp⟩,?_⟩;refine p8 (xs:=ms.map V.int) (fun _=>true) (fun i=>.int (if (i:Int)=c then woI (ms.getD i 0) s else ms.getD i 0)) (by rw[Mr];exact hn) (by decide) (MO hp) ?_ ?_ ?_
 . intro i x H1 R hx s1 k1;exact k1 _ (Mw _)
 . intro i x H1 Q1 hx hb s1 k1;obtain⟨m,hm,rfl⟩:=aQ hx;have q:=k1 _ (Mw H1);rw[eJ hm] at q;show tIf _ _ _ [none,some (.int i),some (.int m),some (.int c),some (.int s)] H1 Q1;symm;by_cases hc:(i:Int)=c
   . rw[MU hc] at q;rw[Mv hc];exact iteT ⟨m,s,rfl,hs,q⟩
   . rw[MP hc] at q;rw[Mu hc];exact iteF q
 . intro l H1 hl s1 el;refine k l H1 s1 hl ?_;rw[el,aZ,Mr];unfold stL;rw[Na];rfl
theorem rfmA{α β:Type}(d:α)(b:α->Bool)(f:α->β)(xs:List α):((List.range xs.length).filter fun i=>b (xs.getD i d)).map (fun i=>f (xs.getD i d))=(xs.filter b).map f:=by
 have e:xs=(List.range xs.length).map fun i=>xs.getD i d:=by
  refine PM (by simp) fun i h1 h2=>?_;simp[List.getD,Mt h1]
 conv=>rhs;rw[e,Ot,Na]
 rfl
def LLp(Q:VK)(H:Hp)(Ml:List (List Int)):Prop:=∀(l:Addr) (as:List Addr) (H':Hp),Same H H'->H l=none->(∀ a∈as,H a=none)->IsLL H' l as Ml->Q (.ref l) H'
variable{H1:Hp}{Ml:List (List Int)}
theorem LLp.of(q:LLp Q H Ml)(s:Same H H1):LLp Q H1 Ml:=fun l as H' s' hl ha x=>q l as H' (s.trans s') (s.free hl) (fun a h=>s.free (ha a h)) x
variable{a:Addr}{σ0:St}{te:TE}{xs:List Int}
theorem rQ {k:Nat} {tt:TT} {fin:Addr->Hp->Prop} (b:Int->Bool) (f:Int->List Int) (hn:xs.length<=900) (hq:SqL K H1 a (xs.map V.int))
  (ht:∀ x H R,x∈xs->Same H1 H->(∀ H',Same H H'->R (b x) H')->tt (σ0.set k (some (.int x))) H R)
  (he:∀ x H Q,x∈xs->b x=true->Same H1 H->(∀ a H',Same H H'->H a=none->H' a=some (.lst ((f x).map V.int))->Q (.ref a) H')->te (σ0.set k (some (.int x))) H Q)
  (hd:LLp (fun v H=>∀ l,v=.ref l->fin l H) H1 ((xs.filter b).map f)):CompR (Itl K a) (gName k) tt te fin σ0 H1:=by
 refine p9 (xs:=xs.map V.int) (fun i=>b (xs.getD i 0)) (fun i=>.lst ((f (xs.getD i 0)).map V.int)) (by rw[Mr];exact hn) hq ?_ ?_ ?_
 . intro i x H R hx s1 k1;obtain⟨y,hy,rfl⟩:=aQ hx;rw[eJ hy] at k1;exact ht y H R (Mz hy) s1 k1
 . intro i x H Q hx hb s1 k1;obtain⟨y,hy,rfl⟩:=aQ hx;rw[eJ hy] at k1 hb;exact he y H Q (Mz hy) hb s1 k1
 . intro l as H hl s1 el N;rw[Mr] at N
   have e:((List.range xs.length).filter fun i=>b (xs.getD i 0)).map (fun i=>HO.lst ((f (xs.getD i 0)).map V.int))=((xs.filter b).map f).map fun ys=>.lst (ys.map V.int):=by
    rw[rfmA 0 b (fun x=>HO.lst ((f x).map V.int)) xs,Na];rfl
   rw[e] at N;exact hd l as H s1 hl N.fr (N.ll el) l rfl
variable{x:Int}
theorem vY(q:∀ a H',Same H H'->H a=none->H' a=some (.lst (([x]:List Int).map V.int))->Q (.ref a) H'):([V.int x]:List V).length<=sizeLine/\∀ p,H p=none->Q (.ref p) (upd H p (.lst [V.int x])):=
 ⟨lnR rfl,fun p hp=>q p _ ((Mw H).laid hp) hp ak⟩
def srtI(xs:List Int):List Int:=xs.mergeSort (fun a b=>decide (a<=b))
theorem CA:∀{xs ys:List Int},xs.Perm ys->xs.Pairwise (· <=·)->ys.Pairwise (· <=·)->xs=ys
 | [],ys,p,_,_=>(List.nil_perm.mp p).symm ▸ rfl
 | x::r,[],p,_,_=>absurd p (by simp)
 | x::r,y::t,p,h1,h2=>by
  rw[Po] at h1 h2
  have e:x=y:=by
   rcases MS.mp (p.mem_iff.mp MD) with e | m1
   . exact e
   . rcases MS.mp (p.mem_iff.mpr MD) with e | m2
     . exact e.symm
     . have a:=h2.1 x m1;have b:=h1.1 y m2;omega
  subst e;rw[CA (List.Perm.cons_inv p) h1.2 h2.2]
variable{ns:List Int}
theorem Ip(p:ns.Perm xs)(h:ns.Pairwise (· <=·)):ns=srtI xs:=by
 refine CA (p.trans (Pf xs _).symm) h ?_;have:=List.pairwise_mergeSort (le:=fun a b:Int=>decide (a<=b)) (fun a b c h1 h2=>by simp at h1 h2 ⊢;omega) (fun a b=>by simp;omega) xs;exact this.imp fun h=>MG h
theorem srt_mem:x∈srtI xs↔x∈xs:=(Pf xs _).mem_iff
theorem tm:(srtI xs).length=xs.length:=(Pf xs _).length_eq
variable{p:Addr}
theorem AF(hp:H p=some (.lst (ns.map V.int)))(hn:ns.length<64)(h:∀ l,H l=none->Q (.ref l) (upd H l (.lst ((srtI ns).map V.int)))):eI [.ref p] H Q:=
 Fz hp hn fun ns' l hl pe pw=>by rw[Ip pe pw];exact h l hl
abbrev othA(cs:List Int)(z:Int):List Int:=cs.filter fun x=>!decide (x=z)
def onlM(cs Mc:List Int)(z s:Int):List (List Int):=((srtI (othA cs z)).filter fun o=>decide (woI (Mc.getD o.toNat 0) s=0)).map fun o=>[o]
def lC(K:Frag)(c:RCl RK):Sp:=fun vs H Q _=>∃(k:RK) (r p A:Addr) (ws:List (List Nat)) (cs Mc:List Int) (n m z s:Int),vs=[.ref r,.ref A,.int z,.int s]/\IsRule H c k r p ws cs n m/\aN cs Mc.length/\H A=some (.lst (Mc.map V.int))/\s<=1000/\LLp Q H (onlM cs Mc z s)
def lD(K:Frag)(c:RCl RK):TS:=
 (tRet (tComp [none,none,some 1,some 3] (iList K (tCB eI (tCons (tCall (bE K c) [] E0 (tCons (tVar 0) (tCons (tVar 2) tNil))) tNil))) (gName 1) (tB (tCall (cj K) [] E0 (tCons (tOp cIx (tVar 2) (tVar 1)) (tCons (tVar 3) tNil)))) (tLst (tCons (tVar 1) tNil))))
variable{c:RCl RK}
theorem y8(h:lC K c vs H Q E):lD K c (eD9 Q) (start ["rule","masks","cell","sign"] vs) H:=by
 obtain⟨k,r,p,A,ws,cs,Mc,n,m,z,s,rfl,x,hin,hA,hs,q⟩:=h;have ol:(othA cs z).length<=cs.length:=MM _ _;have hc:=hin.1;show lD K c _ [some (.ref r),some (.ref A),some (.int z),some (.int s)] H;unfold lD;symm;refine⟨k,r,p,ws,cs,n,m,z,rfl,x,hc,fun l H1 s1 hl el=>?_⟩;refine AF (ns:=othA cs z) el (by omega) fun l2 hl2=>?_;obtain⟨H2,z9,s2,e2⟩:=aY (.lst ((srtI (othA cs z)).map V.int)) hl2;rw[z9];have s12:=s1.trans s2;refine⟨l2,rfl,⟨_,MO e2⟩,?_⟩;refine rQ (xs:=srtI (othA cs z)) (fun o=>decide (woI (Mc.getD o.toNat 0) s=0)) (fun o=>[o]) (by rw[tm];omega) (MO e2) ?_ ?_ ?_
 . intro y H3 R hy s3 k3;have yi:=hin.2 y (MK.mp (srt_mem.mp hy)).1;show tB _ [none,some (.int y),some (.ref A),some (.int s)] H3 R;symm;refine ixI ((s12.trans s3) _ _ hA) yi.1 (by omega) ?_;symm;exact⟨_,s,rfl,by omega,_,rfl,k3 _ (Mw _)⟩
 . intro y H3 Q3 hy hb s3 k3;show tLst _ [none,some (.int y),some (.ref A),some (.int s)] H3 Q3;symm;exact vY k3
 . exact fun l as H' s' hl ha xx l' e=>by cases e;exact q l as H' (s12.trans s') (s12.free hl) (fun a h=>s12.free (ha a h)) xx
def plaM(g s:Int):List (List Int):=((rngL 1 (g+1)).filter fun o=>!decide (o=s)).map fun o=>[o]
def kj(K:Frag):Sp:=fun vs H Q _=>∃(p:Addr) (h w g s:Int),vs=[.ref p,.int s]/\IsFl H p h w g/\1<=g/\g<=6/\LLp Q H (plaM g s)
def km(K:Frag):TS:=
 (tRet (tComp [none,none,some 1] (sR (tCons (tC (.int 1)) (tCons (tOp cAdd (tOp cIx (tVar 0) (tC (.int 2))) (tC (.int 1))) tNil))) (gName 1) (tTest (tOp (cNe K) (tVar 1) (tVar 2))) (tLst (tCons (tVar 1) tNil))))
theorem xD(h:kj K vs H Q E):km K (eD9 Q) (start ["floor","sign"] vs) H:=by
 obtain⟨p,h,w,g,s,rfl,hp,g0,g1,q⟩:=h;show km K _ [some (.ref p),some (.int s)] H;unfold km;symm;refine ixT hp (v:=V.int g) rfl ?_;symm;refine⟨1,g+1,rfl,⟨by omega,by omega,by omega,by omega⟩,?_⟩;refine tW (fun i=>!decide (1+(i:Int)=s)) (fun i=>.lst (([1+(i:Int)]:List Int).map V.int)) (by omega) ?_ ?_ ?_
 . intro i H2 R hi s2 k2;show tTest _ [none,some (.int (1+(i:Int))),some (.int s)] H2 R;symm;exact k2 _ (Mw _)
 . intro i H2 Q2 hi _ s2 k2;show tLst _ [none,some (.int (1+(i:Int))),some (.int s)] H2 Q2;symm;exact vY k2
 . intro l as H2 hl s2 el N
   have e:((List.range (g+1-1).toNat).filter fun(i:Nat)=>!decide (1+(i:Int)=s)).map (fun(i:Nat)=>HO.lst (([1+(i:Int)]:List Int).map V.int))=(plaM g s).map fun ys=>.lst (ys.map V.int):=by
    unfold plaM rngL;rw[Ot,Na,Na];rfl
   rw[e] at N;exact q l as H2 s2 hl N.fr (N.ll el)
def squM(h w z:Int):List (List Int):=((squL h w).filter fun q=>decide (z∈q)).map fun q=>[q.getD 0 0]
def jH(K:Frag):Sp:=fun vs H Q _=>∃(p:Addr) (h w g z:Int),vs=[.ref p,.int z]/\IsFl H p h w g/\FlOk h w g/\LLp Q H (squM h w z)
def jI(K:Frag):TS:=
 (tRet (tComp [none,none,some 1] (iList K (tCall (jf K) [] E0 (tCons (tVar 0) tNil))) (gName 1) (tTest (tOp (cIn K false) (tVar 2) (tVar 1))) (tLst (tCons (tOp cIx (tVar 1) (tC (.int 0))) tNil))))
variable{h w g:Int}
theorem FR(F:FlOk h w g):(squL h w).length<=16:=by
 have:=F.m;unfold squL;rw[Mr];refine ML (MM _ _) ?_;rw[Nv];omega
theorem vZ(h:jH K vs H Q E):jI K (eD9 Q) (start ["floor","cell"] vs) H:=by
 obtain⟨p,h,w,g,z,rfl,hp,F,q⟩:=h;have sl:=FR F;show jI K _ [some (.ref p),some (.int z)] H;unfold jI;symm;refine⟨p,h,w,g,rfl,hp,F,fun l as H1 s1 hl X nd nl fr=>?_⟩;have al:=X.len;refine⟨l,rfl,⟨_,MO X.top⟩,?_⟩;refine p9 (xs:=as.map V.ref) (fun i=>decide (z∈(squL h w).getD i [])) (fun i=>.lst (([((squL h w).getD i []).getD 0 0]:List Int).map V.int)) (by rw[Mr];omega) (MO X.top) ?_ ?_ ?_
 . intro i x H2 R hx s2 k2;obtain⟨b,hb,rfl⟩:=bx hx;have hi:i<as.length:=(My.mp hb).1;have e:(squL h w)[i]? =some (squL h w)[i]:=Mt (by omega);have eb:=s2 _ _ (X.at_ i b _ hb e);have eg:(squL h w).getD i []=(squL h w)[i]:=by rw[List.getD,e];rfl
   rw[eg] at k2;show tTest _ [none,some (.ref b),some (.int z)] H2 R;symm;rw[rd eb];exact⟨_,rfl,k2 _ (Mw _)⟩
 . intro i x H2 Q2 hx hb2 s2 k2;obtain⟨b,hb,rfl⟩:=bx hx;have hi:i<as.length:=(My.mp hb).1;have e:(squL h w)[i]? =some (squL h w)[i]:=Mt (by omega);have eb:=s2 _ _ (X.at_ i b _ hb e);have eg:(squL h w).getD i []=(squL h w)[i]:=by rw[List.getD,e];rfl
   rw[eg] at k2;obtain⟨j,_,_,ej⟩:=oZ (MT (show i < (squL h w).length by omega));rw[ej] at eb k2;show tLst _ [none,some (.ref b),some (.int z)] H2 Q2;symm;refine ixI eb (by decide) (by show(0:Int)<4;decide) ?_;exact vY k2
 . intro T bs H2 hT s2 eT N;rw[Mr,al,rfmA [] (fun q=>decide (z∈q)) (fun q=>HO.lst (([q.getD 0 0]:List Int).map V.int)) (squL h w)] at N;have e:((squL h w).filter fun q=>decide (z∈q)).map (fun q=>HO.lst (([q.getD 0 0]:List Int).map V.int))=(squM h w z).map fun ys=>.lst (ys.map V.int):=by unfold squM;rw[Na];rfl
   rw[e] at N;exact q T bs H2 (s1.trans s2) (s1.free hT) (fun a h=>s1.free (N.fr a h)) (N.ll eT)
def turM(h w z:Int):List (List Int):=[]::(besL h w z).map fun o=>[o]
def lE(K:Frag):Sp:=fun vs H Q _=>∃(p:Addr) (h w g z:Int),vs=[.ref p,.int z]/\IsFl H p h w g/\FlOk h w g/\LLp Q H (turM h w z)
def lF(K:Frag):TS:=
 (tRet (tOp cAdd (tLst (tCons (tLst tNil) tNil)) (tComp [none,none] (iList K (tCall (dU K) [] E0 (tCons (tVar 0) (tCons (tVar 1) tNil)))) (gName 1) tTrue (tLst (tCons (tVar 1) tNil)))))
theorem y9(h:lE K vs H Q E):lF K (eD9 Q) (start ["floor","cell"] vs) H:=by
 obtain⟨p,h,w,g,z,rfl,hp,F,q⟩:=h;have w0:=F.w0;have w1:=F.w1;have bl:=uy h w z;show lF K _ [some (.ref p),some (.int z)] H;unfold lF;symm;refine⟨aR (by decide),fun E0' hE=>?_⟩;obtain⟨H1,z9,s1,e1⟩:∃ z,upd H E0' (.lst [])=z/\Same H z/\z E0'=some (.lst (([]:List Int).map V.int)):=aY _ hE;rw[z9];refine⟨lnR rfl,fun Z hZ=>?_⟩;obtain⟨H2,z9,s2,e2⟩:=aY (.lst [V.ref E0']) hZ;rw[z9];have s12:=s1.trans s2;refine⟨p,h,w,g,z,rfl,s12 _ _ hp,by omega,by omega,fun l H3 s3 hl el=>?_⟩;refine⟨l,rfl,⟨_,MO el⟩,?_⟩;refine rQ (xs:=besL h w z) (fun _=>true) (fun o=>[o]) (by omega) (MO el) ?_ ?_ ?_
 . intro y H4 R hy s4 k4;exact k4 _ (Mw _)
 . intro y H4 Q4 hy hb s4 k4;show tLst _ [none,some (.int y)] H4 Q4;symm;exact vY k4
 . intro T as H4 s4 hT ha X T' e;cases e;have s13:=s12.trans s3;have s34:=s3.trans s4;have s14:=s13.trans s4;have X':IsLL H4 T as ((besL h w z).map fun o=>[o]):=by rw[aZ] at X;exact X
   have al:=X'.len;rw[Mr] at al;symm;refine Ad (s34 _ _ e2) X'.top (by simp;omega) fun R hR=>?_;have s5:Same H4 (upd H4 R (.lst ([V.ref E0']++as.map V.ref))):=(Mw H4).laid hR;refine q R (E0'::as) _ (s14.trans s5) (s14.free hR) (fun a h=>?_) ⟨ak,?_,fun j a xs h1 h2=>?_⟩
   . rcases MS.mp h with rfl | h
     . exact hE
     . exact s13.free (ha a h)
   . unfold turM;simp[al]
   . cases j with
     | zero=>cases h1;cases h2;exact s5 _ _ (s34 _ _ (s2 _ _ e1))
     | succ j=>exact s5 _ _ (X'.at_ j a xs h1 h2)
def sureA(cs Mc:List Int)(m z:Int):List Int:=(othA cs z).filter fun o=>decide (woI (Mc.getD o.toNat 0) m=0)
noncomputable def reaM (h w:Int) (cs:List Int) (m:Int) (Mc:List Int) (z s:Int):List (List Int):=
 if s=m then((sureA cs Mc m z).filter fun o=>!rcB h w (thrL cs Mc m z++[z]) z o).map fun o=>[o]
 else((sureA cs Mc m z).filter fun o=>!rcB h w (thrL cs Mc m z) ((sureA cs Mc m z).getD 0 0) o).map fun o=>[(sureA cs Mc m z).getD 0 0,o]
def ko(K:Frag)(c:RCl RK):Sp:=fun vs H Q _=>∃(k:RK) (f r p A:Addr) (ws:List (List Nat)) (cs Mc:List Int) (n m z s h w g:Int),vs=[.ref f,.ref r,.ref A,.int z,.int s]/\IsFl H f h w g/\FlOk h w g/\IsRule H c k r p ws cs n m/\aN cs Mc.length/\cs.length<=60/\H A=some (.lst (Mc.map V.int))/\m<=1000/\LLp Q H (reaM h w cs m Mc z s)
def gD(K:Frag)(c:RCl RK):TS:=
 (tRet (tComp [none,none,some 8,some 6] (iList K (tVar 6)) (gName 1) (tTest (tOp (cIn K true) (tVar 1) (tVar 2))) (tLst (tCons (tOp cIx (tVar 3) (tC (.int 0))) (tCons (tVar 1) tNil)))))
def lK(K:Frag)(c:RCl RK):TS:=
 (tSeq (tAsg (tIf (tTest (tOp (cNe K) (tVar 6) (tLst tNil))) (tCall (d7 K) [] E0 (tCons (tVar 0) (tCons (tVar 7) (tCons (tOp cIx (tVar 6) (tC (.int 0))) tNil)))) (tLst tNil)) (gName 8))
  (gD K c))
def gE(K:Frag)(c:RCl RK):TS:=
 (tSeq (tIfS (tTest (tOp (cEq K) (tVar 4) (tVar 5))) (tSeq (tAsg (tCall (d7 K) [] E0 (tCons (tVar 0) (tCons (tOp cAdd (tVar 7) (tLst (tCons (tVar 3) tNil))) (tCons (tVar 3) tNil)))) (gName 8))
  (tRet (tComp [none,none,some 8] (iList K (tVar 6)) (gName 1) (tTest (tOp (cIn K true) (tVar 1) (tVar 2))) (tLst (tCons (tVar 1) tNil))))) tNext)
  (lK K c))
def kq(K:Frag)(c:RCl RK):TS:=
 (tSeq (tAsg (aD c c.ok "sign" (iQ K c) (tVar 1) tNil) (gName 5))
  (tSeq (tAsg (tComp [none,none,some 5,some 2] (iList K (tCall (bE K c) [] E0 (tCons (tVar 1) (tCons (tVar 3) tNil)))) (gName 1) (tB (tCall (cj K) [] E0 (tCons (tOp cIx (tVar 3) (tVar 1)) (tCons (tVar 2) tNil)))) (tVar 1)) (gName 6))
  (tSeq (sComp 7 [none,none,some 5,some 2] (iList K (tCall (bE K c) [] E0 (tCons (tVar 1) (tCons (tVar 3) tNil)))) (gName 1) (tB (tCall (dX K) [] E0 (tCons (tOp cIx (tVar 3) (tVar 1)) (tCons (tVar 2) tNil)))) (tVar 1))
  (gE K c))))
theorem ninA{cs rs:List Int}{st o:Int}(ep:H p=some (.lst (rs.map V.int)))(hx:∀ x,x∈rs↔RC h w cs st x)(q:Q (.bl (!rcB h w cs st o)) H):cIn K true (.int o) (.ref p) H Q:=by
 rw[lR ep,Az (hx o)];exact q
variable{y:Int}
theorem Gb(q:∀ a H',Same H H'->H a=none->H' a=some (.lst (([x,y]:List Int).map V.int))->Q (.ref a) H'):([V.int x,V.int y]:List V).length<=sizeLine/\∀ p,H p=none->Q (.ref p) (upd H p (.lst [V.int x,V.int y])):=
 ⟨lnR rfl,fun p hp=>q p _ ((Mw H).laid hp) hp ak⟩
theorem LLp.fin(q:LLp Q H Ml)(s:Same H H1):LLp (fun v H'=>∀ l,v=.ref l->Q (.ref l) H') H1 Ml:=fun l as H' s' hl ha xx l' e=>by cases e;exact q l as H' (s.trans s') (s.free hl) (fun a h=>s.free (ha a h)) xx
variable{f:Addr}{z s m:Int}{v1 v2:Option V}
theorem tG {S T:Addr} {Mj thr:List Int} (hf:IsFl H f h w g) (F:FlOk h w g) (eS:H S=some (.lst (Mj.map V.int))) (eT:H T=some (.lst (thr.map V.int))) (sn:Mj.length<=60) (tn:thr.length<=60)
  (q:LLp Q H (if s=m then(Mj.filter fun o=>!rcB h w (thr++[z]) z o).map fun o=>[o] else(Mj.filter fun o=>!rcB h w thr (Mj.getD 0 0) o).map fun o=>[Mj.getD 0 0,o])):
  gE K c (eD9 Q) [some (.ref f),v1,v2,some (.int z),some (.int s),some (.int m),some (.ref S),some (.ref T),none] H:=by
 have w0:=F.w0;have w1:=F.w1;unfold gE;rw[aE,aA];symm;by_cases e:s=m
 . rw[MU e] at q;rw[Mv e];symm;refine⟨lnR rfl,fun l hl=>?_⟩;obtain⟨H1,z9,s1,el⟩:=aY (.lst [V.int z]) hl;rw[z9];refine Ad (s1 _ _ eT) el (by simp;omega) fun Y hY=>?_;have s2:Same H1 (upd H1 Y (.lst (thr.map V.int++[V.int z]))):=(Mw H1).laid hY;have eY:(upd H1 Y (.lst (thr.map V.int++[V.int z]))) Y=some (.lst ((thr++[z]).map V.int)):=by rw[ak];simp
   generalize upd H1 Y (.lst (thr.map V.int++[V.int z]))=H2 at*;have s12:=s1.trans s2;symm;refine⟨f,Y,h,w,g,z,_,rfl,s12 _ _ hf,by omega,by omega,eY,by simp;omega,fun p H3 rs s3 hp ep _ hx=>?_⟩;have s13:=s12.trans s3;symm;have eS3:=s13 _ _ eS;refine⟨⟨_,MO eS3⟩,?_⟩;refine rQ (xs:=Mj) (fun o=>!rcB h w (thr++[z]) z o) (fun o=>[o]) (by omega) (MO eS3) ?_ ?_ (q.fin s13)
   . intro y H4 R hy s4 k4;show tTest _ [none,some (.int y),some (.ref p)] H4 R;symm;exact ninA (s4 _ _ ep) hx ⟨_,rfl,k4 _ (Mw _)⟩
   . intro y H4 Q4 hy hb s4 k4;show tLst _ [none,some (.int y),some (.ref p)] H4 Q4;symm;exact vY k4
 . rw[MP e] at q;rw[Mu e];symm;unfold lK
   have fin:∀(p:Addr) (rs:List Int) (H3:Hp),Same H H3->H3 p=some (.lst (rs.map V.int))->(Mj≠[]->∀ x,x∈rs↔RC h w thr (Mj.getD 0 0) x)->gD K c (eD9 Q) [some (.ref f),v1,v2,some (.int z),some (.int s),some (.int m),some (.ref S),some (.ref T),some (.ref p)] H3:=fun p rs H3 s3 ep hx=>by
    have eS3:=s3 _ _ eS;unfold gD;symm;refine⟨⟨_,MO eS3⟩,?_⟩;refine rQ (xs:=Mj) (fun o=>!rcB h w thr (Mj.getD 0 0) o) (fun o=>[Mj.getD 0 0,o]) (by omega) (MO eS3) ?_ ?_ (q.fin s3)
    . intro y H4 R hy s4 k4;show tTest _ [none,some (.int y),some (.ref p),some (.ref S)] H4 R;symm;exact ninA (s4 _ _ ep) (hx (List.ne_nil_of_mem hy)) ⟨_,rfl,k4 _ (Mw _)⟩
    . intro y H4 Q4 hy hb s4 k4;have:0<Mj.length:=PY hy;show tLst _ [none,some (.int y),some (.ref p),some (.ref S)] H4 Q4;symm;refine ixI (s4 _ _ eS3) (by decide) (by omega) ?_;exact Gb k4
   symm;refine⟨aR (by decide),fun O hO=>?_⟩;obtain⟨H1,z9,s1,eO⟩:∃ z,upd H O (.lst [])=z/\Same H z/\z O=some (.lst (([]:List Int).map V.int)):=aY _ hO;rw[z9];refine nk (s1 _ _ eS) eO ?_;by_cases c1:Mj=[]
   . rw[Mv c1];refine⟨_,rfl,iteF ?_⟩;refine⟨aR (by decide),fun O2 hO2=>?_⟩;exact fin O2 [] _ (s1.trans ((Mw H1).laid hO2)) ak fun h=>absurd c1 h
   . rw[Mu c1];have:0<Mj.length:=List.length_pos_iff.mpr c1;refine⟨_,rfl,iteT ?_⟩;refine ixI (s1 _ _ eS) (by decide) (by omega) ?_;rw[show(0:Int).toNat=0 from rfl];refine⟨f,T,h,w,g,_,_,rfl,s1 _ _ hf,by omega,by omega,s1 _ _ eT,by omega,fun p H3 rs s3 hp ep _ hx=>?_⟩;exact fin p rs H3 (s1.trans s3) ep fun _=>hx
theorem xE(h:ko K c vs H Q E):kq K c (eD9 Q) (start ["floor","rule","masks","cell","sign","mark","sure","through","joined"] vs) H:=by
 obtain⟨k,f,r,p,A,ws,cs,Mc,n,m,z,s,h,w,g,rfl,hf,F,x,hin,hcs,hA,hm,q⟩:=h;obtain⟨dx,W,C,h1,h2,h3⟩:=x.ex;have ol:(othA cs z).length<=cs.length:=MM _ _;show kq K c _ [some (.ref f),some (.ref r),some (.ref A),some (.int z),some (.int s),none,none,none,none] H;unfold kq;rw[aE,bI];refine methE (k:=k) rfl x.ok h1 (by rfl) ?_;symm;refine⟨r,p,ws,cs,n,m,rfl,x,?_⟩;symm;refine⟨k,r,p,ws,cs,n,m,z,rfl,x,hin.1,fun O H1 s1 hO eO=>?_⟩;refine⟨O,rfl,⟨_,MO eO⟩,?_⟩;refine aX (xs:=othA cs z) (fun o=>decide (woI (Mc.getD o.toNat 0) m=0)) (fun o=>o) (by omega) (MO eO) ?_ ?_ ?_
 . intro y H2 R hy s2 k2;have yi:=hin.2 y (MK.mp hy).1;show tB _ [none,some (.int y),some (.int m),some (.ref A)] H2 R;symm;refine ixI ((s1.trans s2) _ _ hA) yi.1 yi.2 ?_;symm;exact⟨_,m,rfl,by omega,_,rfl,k2 _ (Mw _)⟩
 . intro y H2 Q2 hy hb s2 k2;show tVar 1 [none,some (.int y),some (.int m),some (.ref A)] H2 Q2;symm;exact k2 _ (Mw _)
 . intro S H2 hS s2 eS;rw[NN] at eS;have s12:=s1.trans s2;have x2:=x.same s12;symm;refine⟨k,r,p,ws,cs,n,m,z,rfl,x2,hin.1,fun O2 H3 s3 hO2 eO2=>?_⟩;have s13:=s12.trans s3;refine⟨O2,rfl,⟨_,MO eO2⟩,?_⟩;refine aX (xs:=othA cs z) (fun o=>stB (Mc.getD o.toNat 0) m) (fun o=>o) (by omega) (MO eO2) ?_ ?_ ?_
   . intro y H4 R hy s4 k4;have yi:=hin.2 y (MK.mp hy).1;show tB _ [none,some (.int y),some (.int m),some (.ref A)] H4 R;symm;refine ixI ((s13.trans s4) _ _ hA) yi.1 yi.2 ?_;symm;exact⟨_,m,rfl,_,rfl,k4 _ (Mw _)⟩
   . intro y H4 Q4 hy hb s4 k4;show tVar 1 [none,some (.int y),some (.int m),some (.ref A)] H4 Q4;symm;exact k4 _ (Mw _)
   . intro T H4 hT s4 eT;rw[NN] at eT;have s14:=s13.trans s4;have l1:=MM (fun o=>decide (woI (Mc.getD o.toNat 0) m=0)) (othA cs z);have l2:=MM (fun o=>stB (Mc.getD o.toNat 0) m) (othA cs z);exact tG (s14 _ _ hf) F ((s3.trans s4) _ _ eS) eT (by omega) (by omega) (q.of s14)
def fewA(cs Mc:List Int)(z:Int):List Int:=(srtI (othA cs z)).filter fun o=>decide (((sgL (Mc.getD o.toNat 0)).length:Int)<=2)
def paiR(cs few:List Int)(a:Int):List (List Int):=(few.filter fun b=>decide (((cs.findIdx (· ==a):Nat):Int) < ((cs.findIdx (· ==b):Nat):Int))).map fun b=>[a,b]
def paiM(cs Mc:List Int)(z:Int):List (List Int):=(fewA cs Mc z).flatMap (paiR cs (fewA cs Mc z))
def lG(K:Frag)(c:RCl RK):Sp:=fun vs H Q _=>∃(k:RK) (r p A:Addr) (ws:List (List Nat)) (cs Mc:List Int) (n m z:Int),vs=[.ref r,.ref A,.int z]/\IsRule H c k r p ws cs n m/\aN cs Mc.length/\cs.length<=16/\H A=some (.lst (Mc.map V.int))/\(∀ m∈Mc,0<=m/\m<64)/\LLp Q H (paiM cs Mc z)
def iF(K:Frag)(c:RCl RK):TS:=
 (tSeq (tAsg (tLst tNil) (gName 5))
  (tSeq (tFor (iList K (tVar 4)) (gName 6)
  (tDrop (tBM K "list" ma (tVar 5) (tCons (tComp [none,none,some 6,some 3] (iList K (tVar 4)) (gName 1) (tTest (tOp (cCmp fun i j=>decide (i<j)) (tBM K "list" (i6 K) (tVar 3) (tCons (tVar 2) tNil)) (tBM K "list" (i6 K) (tVar 3) (tCons (tVar 1) tNil)))) (tLst (tCons (tVar 2) (tCons (tVar 1) tNil)))) tNil))))
  (tRet (tVar 5))))
def lH(K:Frag)(c:RCl RK):TS:=
 (tSeq (tAsg (aD c c.ok "spots" (d0 K c) (tVar 0) tNil) (gName 3))
  (tSeq (sComp 4 [none,none,some 1] (iList K (tCB eI (tCons (tCall (bE K c) [] E0 (tCons (tVar 0) (tCons (tVar 2) tNil))) tNil))) (gName 1) (tTest (tOp (cCmp fun i j=>decide (i<=j)) (tCB kLen (tCons (tCall (bz K) [] E0 (tCons (tOp cIx (tVar 2) (tVar 1)) tNil)) tNil)) (tC (.int 2)))) (tVar 1))
  (iF K c)))
theorem bitsA(m0:0<=m)(m1:m<64):Builtin.Int.intBits m<=900:=by
 have t:=MG (MC.mp AD m.toNat (MF.mpr (by omega)));rw[show((m.toNat:Nat):Int)=m by omega] at t;omega
theorem AG{cs few:List Int}{a:Int}:(paiR cs few a).length<=few.length:=by
 unfold paiR;rw[Mr];exact MM _ _
theorem AH{cs few:List Int}:∀ xs:List Int,(xs.flatMap (paiR cs few)).length<=xs.length*few.length
 | []=>by simp
 | x::r=>by
  have ih:=AH (cs:=cs) (few:=few) r;have:=AG (cs:=cs) (few:=few) (a:=x);rw[List.flatMap_cons,M6,M3,Nat.add_mul];omega
theorem uN{S W:Addr}{cs few:List Int}{v0:Option V}(eS:H S=some (.lst (cs.map V.int)))(eW:H W=some (.lst (few.map V.int)))(cn:cs.length<=16)(fn:few.length<=16)(fi:∀ o∈few,o∈cs)(q:LLp Q H (few.flatMap (paiR cs few))):
  iF K c (eD9 Q) [v0,v1,v2,some (.ref S),some (.ref W),none,none] H:=by
 unfold iF;symm;refine⟨aR (by decide),fun F hF=>?_⟩;obtain⟨H1,z9,s1,e1⟩:∃ z,upd H F (.lst [])=z/\Same H z/\z F=some (.lst (([]:List Addr).map V.ref)):=aY _ hF;rw[z9];refine⟨⟨_,MO (s1 _ _ eW)⟩,?_⟩;refine bp (K:=K) (xs:=few.map V.int) (fun i σ H'=>∃(v6:Option V) (as:List Addr),σ=[v0,v1,v2,some (.ref S),some (.ref W),some (.ref F),v6]/\Same H H'/\IsLL H' F as ((few.take i).flatMap (paiR cs few))/\(∀ a∈as,H a=none)/\F∉as) ⟨none,[],rfl,s1,⟨e1,rfl,fun j a xs e _=>by simp at e⟩,(fun a ha=>by cases ha),by simp⟩ (fun i σ H' _ ⟨_,_,_,s,_⟩=>MO (s _ _ eW)) ?_ ?_
 . rintro i v σ H2 hv ⟨v6,as,rfl,s2,X,fr,nF⟩;obtain⟨a,ha,rfl⟩:=aQ hv;have am:=Mz ha;have hi:i<few.length:=(My.mp ha).1;have al:=X.len;have fl:=AH (cs:=cs) (few:=few) (few.take i);rw[NO] at fl;have fl2:min i few.length*few.length<=16*16:=Qb (by omega) fn;symm;refine⟨bq X.top,⟨_,MO (s2 _ _ eW)⟩,?_⟩;refine rQ (xs:=few) (fun b=>decide (((cs.findIdx (· ==a):Nat):Int) < ((cs.findIdx (· ==b):Nat):Int))) (fun b=>[a,b]) (by omega) (MO (s2 _ _ eW)) ?_ ?_ ?_
   . intro y H3 R hy s3 k3;have eS3:=(s2.trans s3) _ _ eS;show tTest _ [none,some (.int y),some (.int a),some (.ref S)] H3 R;symm;refine⟨bq eS3,?_⟩;refine ke eS3 (fi a am) (by omega) ?_;symm;refine⟨bq eS3,?_⟩;refine ke eS3 (fi y hy) (by omega) ?_;symm;exact k3 _ (Mw _)
   . intro y H3 Q3 hy hb s3 k3;show tLst _ [none,some (.int y),some (.int a),some (.ref S)] H3 Q3;symm;exact Gb k3
   . intro T bs H3 s3 hT hb Y T' e;cases e;have pl:=AG (cs:=cs) (few:=few) (a:=a);have bl:=Y.len;have Yl:bs.length<=16:=by rw[bl];exact ML pl fn
     refine FD (s3 _ _ X.top) Y.top (by rw[Mr,Mr,al];omega) ?_;have nb:∀ b∈bs,b≠F:=fun b hb' e=>by have:=hb b hb';rw[e,X.top] at this;cases this
     refine⟨_,as++bs,rfl,(s2.trans s3).own hF,⟨by rw[ak,OG],?_,fun j b xs h1 h2=>?_⟩,fun b hb'=>?_,fun hm=>?_⟩
     . rw[NM,ha,Pe,M6,M6,al,bl];simp[paiR]
     . rw[NM,ha,Pe] at h2;have e2:(some a).toList.flatMap (paiR cs few)=paiR cs few a:=by simp
       rw[e2] at h2;by_cases hj:j<as.length
       . rw[Nc hj] at h1;rw[Nc (by omega)] at h2;have nj:b≠F:=fun e=>nF (by rw[← e];exact Mz h1);rw[aq nj];exact s3 _ _ (X.at_ j b xs h1 h2)
       . rw[Nk (by omega)] at h1;rw[Nk (by omega),← al] at h2;rw[aq (nb b (Mz h1))];exact Y.at_ _ b xs h1 h2
     . rcases M0.mp hb' with h | h
       . exact fr b h
       . exact s2.free (hb b h)
     . rcases M0.mp hm with h | h
       . exact nF h
       . exact nb _ h rfl
 . rintro σ H2 ⟨v6,as,rfl,s2,X,fr,nF⟩;rw[Mr,Nt] at X;symm;exact q F as H2 s2 hF fr X
theorem za(h:lG K c vs H Q E):lH K c (eD9 Q) (start ["rule","masks","cell","spots","few","found","first"] vs) H:=by
 obtain⟨k,r,p,A,ws,cs,Mc,n,m,z,rfl,x,hin,hc,hA,mm,q⟩:=h;obtain⟨dx,Wd,C,h1,h2,h3⟩:=x.ex;have ol:(othA cs z).length<=cs.length:=MM _ _;show lH K c _ [some (.ref r),some (.ref A),some (.int z),none,none,none,none] H;unfold lH;symm;refine methE (k:=k) rfl x.ok h1 (by rfl) ?_;symm;refine⟨r,p,ws,cs,n,m,rfl,x,fun S hS=>?_⟩;obtain⟨H1,z9,s1,eS⟩:=aY (.lst (cs.map V.int)) hS;rw[z9];symm;refine⟨k,r,p,ws,cs,n,m,z,rfl,x.same s1,hin.1,fun l H2 s2 hl el=>?_⟩;refine AF (ns:=othA cs z) el (by omega) fun l2 hl2=>?_;obtain⟨H3,z9,s3,e3⟩:=aY (.lst ((srtI (othA cs z)).map V.int)) hl2;rw[z9];have s13:=(s1.trans s2).trans s3;refine⟨l2,rfl,⟨_,MO e3⟩,?_⟩;refine aX (xs:=srtI (othA cs z)) (fun o=>decide (((sgL (Mc.getD o.toNat 0)).length:Int)<=2)) (fun o=>o) (by rw[tm];omega) (MO e3) ?_ ?_ ?_
 . intro y H4 R hy s4 k4;have yi:=hin.2 y (MK.mp (srt_mem.mp hy)).1;have ym:Mc.getD y.toNat 0∈Mc:=by rw[List.getD,Mt (by omega)];exact MT _
   show tTest _ [none,some (.int y),some (.ref A)] H4 R;symm;refine ixI ((s13.trans s4) _ _ hA) yi.1 yi.2 ?_;symm;refine⟨_,rfl,bitsA (mm _ ym).1 (mm _ ym).2,fun U H5 s5 hU eU=>?_⟩;symm;rw[bc eU,Mr];symm;exact k4 _ s5
 . intro y H4 Q4 hy hb s4 k4;show tVar 1 [none,some (.int y),some (.ref A)] H4 Q4;symm;exact k4 _ (Mw _)
 . intro W H4 hW s4 eW;rw[NN] at eW;have s34:=(s2.trans s3).trans s4;have l1:=MM (fun o=>decide (((sgL (Mc.getD o.toNat 0)).length:Int)<=2)) (srtI (othA cs z));rw[tm] at l1;exact uN (few:=fewA cs Mc z) (s34 _ _ eS) eW hc (by unfold fewA;omega) (fun o ho=>(MK.mp (srt_mem.mp (MK.mp ho).1)).1) (q.of (s1.trans s34))
structure Tho where
 t:TK
 r:Int
 z:Int
 s:Int
 ms:List Int
noncomputable def mtF (h w g:Int) (Mf:List RR) (Mc:List Int) (t:TK) (r z s:Int):List (List Int):=
 if t=.place then plaM g s else if t=.square then squM h w z else if t=.turn then turM h w z else match Mf[r.toNat]? with
  | none=>[[]]
  | some x=>if t=.only then onlM x.cs Mc z s else if t=.reach then reaM h w x.cs x.m Mc z s else if t=.pair then paiM x.cs Mc z else [[]]
structure Lk(H:Hp)(c:RCl RK)(d:RCl PzK)(P L G A:Addr)(h w g:Int)(Mf:List RR)(cl Mc:List Int):Prop where
 P:IsPz H c d P L G h w g Mf cl
 A:H A=some (.lst (Mc.map V.int))
 n:Mc.length=(h*w).toNat
 mm:∀ m∈Mc,0<=m/\m<2^g.toNat
variable{H':Hp}{d:RCl PzK}{P L G A:Addr}{Mf:List RR}{cl Mc:List Int}
theorem Lk.same(x:Lk H c d P L G A h w g Mf cl Mc)(s:Same H H'):Lk H' c d P L G A h w g Mf cl Mc:=⟨x.P.same s,s _ _ x.A,x.n,x.mm⟩
theorem kN(g0:1<=g)(g6:g<=6):(2:Int)^g.toNat<=64:=by
 have e:g=1\/g=2\/g=3\/g=4\/g=5\/g=6:=by omega
 rcases e with rfl | rfl | rfl | rfl | rfl | rfl <;> decide
theorem Lk.m64(x:Lk H c d P L G A h w g Mf cl Mc):∀ m∈Mc,0<=m/\m<64:=fun m hm=>by
 have:=kN x.P.R.F.g0 x.P.R.F.g1;have:=x.mm m hm;omega
def jJ(K:Frag)(c:RCl RK)(d:RCl PzK):Sp:=fun vs H Q _=>∃(P L G A:Addr) (h w g:Int) (Mf:List RR) (cl Mc:List Int) (t:TK) (r z s:Int),vs=[.ref P,.ref A,.str (tx (tkC t)),.int r,.int z,.int s]/\Lk H c d P L G A h w g Mf cl Mc/\formB h w g Mf t r z s=true/\LLp Q H (mtF h w g Mf Mc t r z s)
def gd(K:Frag)(c:RCl RK)(d:RCl PzK):TS:=
 (tSeq (tIfS (tTest (tOp (cEq K) (tVar 2) (tC (.str (tx [111,110,108,121]))))) (tRet (tCall (lC K c) [] E0 (tCons (tOp cIx (aD d d.ok "rules" (cO K c d) (tVar 0) tNil) (tVar 3)) (tCons (tVar 1) (tCons (tVar 4) (tCons (tVar 5) tNil)))))) tNext)
  (tSeq (tIfS (tTest (tOp (cEq K) (tVar 2) (tC (.str (tx [114,101,97,99,104]))))) (tRet (tCall (ko K c) [] E0 (tCons (tVar 6) (tCons (tOp cIx (aD d d.ok "rules" (cO K c d) (tVar 0) tNil) (tVar 3)) (tCons (tVar 1) (tCons (tVar 4) (tCons (tVar 5) tNil))))))) tNext)
  (tSeq (tIfS (tTest (tOp (cEq K) (tVar 2) (tC (.str (tx [112,97,105,114]))))) (tRet (tCall (lG K c) [] E0 (tCons (tOp cIx (aD d d.ok "rules" (cO K c d) (tVar 0) tNil) (tVar 3)) (tCons (tVar 1) (tCons (tVar 4) tNil))))) tNext)
  (tRet (tLst (tCons (tLst tNil) tNil))))))
def jK(K:Frag)(c:RCl RK)(d:RCl PzK):TS:=
 (tSeq (tAsg (aD d d.ok "place" (d3 K c d) (tVar 0) tNil) (gName 6))
  (tSeq (tIfS (tTest (tOp (cEq K) (tVar 2) (tC (.str (tx [112,108,97,99,101]))))) (tRet (tCall (kj K) [] E0 (tCons (tVar 6) (tCons (tVar 5) tNil)))) tNext)
  (tSeq (tIfS (tTest (tOp (cEq K) (tVar 2) (tC (.str (tx [115,113,117,97,114,101]))))) (tRet (tCall (jH K) [] E0 (tCons (tVar 6) (tCons (tVar 4) tNil)))) tNext)
  (tSeq (tIfS (tTest (tOp (cEq K) (tVar 2) (tC (.str (tx [116,117,114,110]))))) (tRet (tCall (lE K) [] E0 (tCons (tVar 6) (tCons (tVar 4) tNil)))) tNext)
  (gd K c d)))))
variable{t:TK}{r:Int}
theorem BU(X:Lk H c d P L G A h w g Mf cl Mc)(hp:IsFl H p h w g)(f:formB h w g Mf t r z s=true)(n1:t≠.place)(n2:t≠.square)(n3:t≠.turn)(q:LLp Q H (mtF h w g Mf Mc t r z s)):
  gd K c d (eD9 Q) [some (.ref P),some (.ref A),some (.str (tx (tkC t))),some (.int r),some (.int z),some (.int s),some (.ref p)] H:=by
 obtain⟨dx,p0,rs,h1,h2,h3⟩:=X.P.ex;obtain⟨z0,z1,s0,s1',Mq⟩:=dY f;have hg:=X.P.R.F.g1;unfold mtF at q;rw[MP n1,MP n2,MP n3] at q
 have row:t≠.clue->∃ y,0<=r/\Mf[r.toNat]? =some y/\goesB t y.k=true:=fun hc=>by
  obtain⟨r0,y,ey,hgo,hz⟩:=oY hc Mq;exact⟨y,r0,ey,hgo⟩
 unfold gd;rw[aE,aA];symm;rw[bn,Cp];by_cases e1:t=.only
 . subst e1;obtain⟨y,r0,ey,hgo⟩:=row (by decide);have O:=X.P.R.ok y (Mz ey);have hin:aN y.cs Mc.length:=by rw[X.n];exact O7 O X.P.R.F
   rw[ey] at q;rw[Mv rfl];refine iteT ?_;refine methE (k:=.Puzzle) rfl X.P.ok h1 (by rfl) ?_;symm;refine⟨P,L,G,h,w,g,Mf,cl,rfl,X.P,fun l p2 rs2 hl hp2 Y=>?_⟩;have s2:Same H (upd H l (.lst (rs2.map V.ref))):=(Mw H).laid hl;generalize upd H l (.lst (rs2.map V.ref))=H1 at*;have hlt:=(My.mp ey).1;have Mn:=Y.len;have ea:rs2[r.toNat]? =some rs2[r.toNat]:=Mt (by omega);dsimp only;refine ixL Y.top (fU r0 ea) ?_;symm;exact⟨_,_,p2,A,_,y.cs,Mc,_,_,z,s,rfl,Y.at_ _ _ _ ea ey,hin,s2 _ _ X.A,by omega,q.of s2⟩
 . rw[Mu e1];refine iteF ?_;rw[aA];symm;rw[bn,uM];by_cases e2:t=.reach
   . subst e2;obtain⟨y,r0,ey,hgo⟩:=row (by decide);have O:=X.P.R.ok y (Mz ey);have ym:=(O.m0 (yy hgo)).2;have hin:aN y.cs Mc.length:=by rw[X.n];exact O7 O X.P.R.F
     rw[ey] at q;rw[Mv rfl];refine iteT ?_;refine methE (k:=.Puzzle) rfl X.P.ok h1 (by rfl) ?_;symm;refine⟨P,L,G,h,w,g,Mf,cl,rfl,X.P,fun l p2 rs2 hl hp2 Y=>?_⟩;have s2:Same H (upd H l (.lst (rs2.map V.ref))):=(Mw H).laid hl;generalize upd H l (.lst (rs2.map V.ref))=H1 at*;have hlt:=(My.mp ey).1;have Mn:=Y.len;have ea:rs2[r.toNat]? =some rs2[r.toNat]:=Mt (by omega);dsimp only;refine ixL Y.top (fU r0 ea) ?_;symm;exact⟨_,p,_,p2,A,_,y.cs,Mc,_,_,z,s,h,w,g,rfl,s2 _ _ hp,X.P.R.F,Y.at_ _ _ _ ea ey,hin,RR.len26 O X.P.R.F,s2 _ _ X.A,by omega,q.of s2⟩
   . rw[Mu e2];refine iteF ?_;symm;rw[aA];symm;rw[bn,GU];by_cases e3:t=.pair
     . subst e3;obtain⟨y,r0,ey,hgo⟩:=row (by decide);have O:=X.P.R.ok y (Mz ey);have hin:aN y.cs Mc.length:=by rw[X.n];exact O7 O X.P.R.F
       have yk:allK y.k=false:=by revert hgo;cases y.k <;> intro hgo <;> first | rfl | (cases hgo;done)
       have y16:y.cs.length<=16:=by
        obtain⟨_,c2,_,_,e⟩:=O.cl.told yk;rw[e,Mr];exact c2
       rw[ey] at q;rw[Mv rfl];refine iteT ?_;refine methE (k:=.Puzzle) rfl X.P.ok h1 (by rfl) ?_;symm;refine⟨P,L,G,h,w,g,Mf,cl,rfl,X.P,fun l p2 rs2 hl hp2 Y=>?_⟩;have s2:Same H (upd H l (.lst (rs2.map V.ref))):=(Mw H).laid hl;generalize upd H l (.lst (rs2.map V.ref))=H1 at*;have hlt:=(My.mp ey).1;have Mn:=Y.len;have ea:rs2[r.toNat]? =some rs2[r.toNat]:=Mt (by omega);dsimp only;refine ixL Y.top (fU r0 ea) ?_;symm;exact⟨_,_,p2,A,_,y.cs,Mc,_,_,z,rfl,Y.at_ _ _ _ ea ey,hin,y16,s2 _ _ X.A,X.m64,q.of s2⟩
     . rw[Mu e3]
       have q':LLp Q H [[]]:=by
        cases ey:Mf[r.toNat]? with
        | none=>rw[ey] at q;exact q
        | some y=>
         rw[ey] at q;dsimp only at q;rw[MP e1,MP e2,MP e3] at q;exact q
       refine iteF ?_;symm;refine⟨aR (by decide),fun a ha=>?_⟩;obtain⟨H1,z9,s1,e1⟩:∃ z,upd H a (.lst [])=z/\Same H z/\z a=some (.lst (([]:List Int).map V.int)):=aY _ ha;rw[z9];refine⟨lnR rfl,fun l hl=>?_⟩;have s2:Same H1 (upd H1 l (.lst [V.ref a])):=(Mw H1).laid hl;refine q' l [a] _ (s1.trans s2) (s1.free hl) (fun b hb=>by rw[MN.mp hb];exact ha) ⟨ak,rfl,fun j b xs h1 h2=>?_⟩
       cases j with
       | zero=>cases h1;cases h2;exact s2 _ _ e1
       | succ j=>simp at h1
theorem wa(h:jJ K c d vs H Q E):jK K c d (eD9 Q) (start ["puzzle","masks","kind","number","cell","sign","floor"] vs) H:=by
 obtain⟨P,L,G,A,h,w,g,Mf,cl,Mc,t,r,z,s,rfl,X,f,q⟩:=h;obtain⟨dx,p0,rs,h1,h2,h3⟩:=X.P.ex;show jK K c d _ [some (.ref P),some (.ref A),some (.str (tx (tkC t))),some (.int r),some (.int z),some (.int s),none] H;unfold jK;symm;refine methE (k:=.Puzzle) rfl X.P.ok h1 (by rfl) ?_;symm;refine⟨P,L,G,h,w,g,Mf,cl,rfl,X.P,fun p hp=>?_⟩;symm;rw[aA];symm;rw[bn,Aq];by_cases e1:t=.place
 . subst e1;rw[Mv rfl];unfold mtF at q;rw[MU rfl] at q;symm;exact⟨p,h,w,g,s,rfl,hp,X.P.R.F.g0,X.P.R.F.g1,q⟩
 . rw[Mu e1];symm;rw[aA];symm;rw[bn,yu];by_cases e2:t=.square
   . subst e2;rw[Mv rfl];unfold mtF at q;rw[MP (by decide),MU rfl] at q;symm;exact⟨p,h,w,g,z,rfl,hp,X.P.R.F,q⟩
   . rw[Mu e2];symm;rw[aA];symm;rw[bn,GV];by_cases e3:t=.turn
     . subst e3;rw[Mv rfl];unfold mtF at q;rw[MP (by decide),MP (by decide),MU rfl] at q;symm;exact⟨p,h,w,g,z,rfl,hp,X.P.R.F,q⟩
     . rw[Mu e3];symm;exact BU X hp f e1 e2 e3 q
theorem Iq:∀ ms∈mtF h w g Mf Mc t r z s,ms.length<=2:=fun ms hm=>by
 unfold mtF at hm
 split at hm
 . unfold plaM at hm;obtain⟨_,_,rfl⟩:=MJ.mp hm;simp
 . split at hm
   . unfold squM at hm;obtain⟨_,_,rfl⟩:=MJ.mp hm;simp
   . split at hm
     . unfold turM at hm;rcases MS.mp hm with rfl | hm
       . simp
       . obtain⟨_,_,rfl⟩:=MJ.mp hm;simp
     . split at hm
       . rw[MN.mp hm];simp
       . split at hm
         . unfold onlM at hm;obtain⟨_,_,rfl⟩:=MJ.mp hm;simp
         . split at hm
           . unfold reaM at hm
             split at hm <;> (obtain⟨_,_,rfl⟩:=MJ.mp hm;simp)
           . split at hm
             . unfold paiM at hm;obtain⟨a,_,hm⟩:=PN.mp hm;unfold paiR at hm;obtain⟨_,_,rfl⟩:=MJ.mp hm;simp
             . rw[MN.mp hm];simp
noncomputable def faF (h w g:Int) (Mf:List RR) (cl Mc:List Int) (t:TK) (r z s:Int):Option (List Int):=(mtF h w g Mf Mc t r z s).find? fun ms=>strA h w g Mf cl Mc t r z s ms
def oH(K:Frag)(c:RCl RK)(d:RCl PzK):Sp:=fun vs H Q _=>∃(P L G A:Addr) (h w g:Int) (Mf:List RR) (cl Mc:List Int) (t:TK) (r z s:Int),vs=[.ref P,.ref A,.str (tx (tkC t)),.int r,.int z,.int s]/\Lk H c d P L G A h w g Mf cl Mc/\formB h w g Mf t r z s=true/\
 (faF h w g Mf cl Mc t r z s=none->∀ H',Same H H'->Q .non H')/\(∀(ms:List Int) (T M:Addr) (H':Hp),faF h w g Mf cl Mc t r z s=some ms->Same H H'->H T=none->H M=none->IsTh H' T M t r z s ms->Q (.ref T) H')
def oI(K:Frag)(c:RCl RK)(d:RCl PzK):TS:=
 (tSeq (tFor (iList K (tCall (jJ K c d) [] E0 (tCons (tVar 0) (tCons (tVar 1) (tCons (tVar 2) (tCons (tVar 3) (tCons (tVar 4) (tCons (tVar 5) tNil)))))))) (gName 6)
  (tSeq (tAsg (tTup (tCons (tVar 2) (tCons (tVar 3) (tCons (tVar 4) (tCons (tVar 5) (tCons (tVar 6) tNil)))))) (gName 7))
  (tIfS (tB (tCall (kM K c d) [] E0 (tCons (tVar 0) (tCons (tVar 1) (tCons (tVar 7) tNil))))) (tRet (tVar 7)) tNext)))
  (tRet (tC .non)))
theorem BV(h:oH K c d vs H Q E):oI K c d (eD9 Q) (start ["puzzle","masks","kind","number","cell","sign","more","thought"] vs) H:=by
 obtain⟨P,L,G,A,h,w,g,Mf,cl,Mc,t,r,z,s,rfl,X,f,q1,q2⟩:=h;show oI K c d _ [some (.ref P),some (.ref A),some (.str (tx (tkC t))),some (.int r),some (.int z),some (.int s),none,none] H;unfold oI;symm;refine⟨P,L,G,A,h,w,g,Mf,cl,Mc,t,r,z,s,rfl,X,f,fun l as H1 s1 hl fr Y=>?_⟩;have al:=Y.len;have ml:=Iq (h:=h) (w:=w) (g:=g) (Mf:=Mf) (Mc:=Mc) (t:=t) (r:=r) (z:=z) (s:=s);unfold faF at q1 q2;generalize mtF h w g Mf Mc t r z s=Ml at*;refine⟨l,rfl,⟨_,MO Y.top⟩,?_⟩;refine bp (K:=K) (xs:=as.map V.ref) (fun i σ H'=>∃(v6 v7:Option V),σ=[some (.ref P),some (.ref A),some (.str (tx (tkC t))),some (.int r),some (.int z),some (.int s),v6,v7]/\Same H1 H'/\∀ ms∈Ml.take i,strA h w g Mf cl Mc t r z s ms=false) ⟨none,none,rfl,Mw H1,fun ms hm=>by cases hm⟩ (fun i σ H' _ ⟨_,_,_,s,_⟩=>MO (s _ _ Y.top)) ?_ ?_
 . rintro i v σ H2 hv ⟨v6,v7,rfl,s2,hno⟩;obtain⟨b,hb,rfl⟩:=bx hv;have hi:i<as.length:=(My.mp hb).1;have ex:Ml[i]? =some Ml[i]:=Mt (by omega);have ebm:=s2 _ _ (Y.at_ i b _ hb ex);have xl:=ml _ (MT (show i<Ml.length by omega));have et:Ml.take (i+1)=Ml.take i++[Ml[i]]:=by rw[NM,ex];rfl
   have hfind:strA h w g Mf cl Mc t r z s Ml[i]=true->Ml.find? (fun ms=>strA h w g Mf cl Mc t r z s ms)=some Ml[i]:=fun ht=>by
    rw[OY];refine⟨ht,i,by omega,rfl,fun j hj=>?_⟩;have:=hno Ml[j] (by rw[List.mem_take_iff_getElem];exact⟨j,by omega,rfl⟩);rw[this];rfl
   generalize Ml[i]=ms at*;have frb:=fr b (Mz hb);symm;refine⟨lnR rfl,fun T hT=>?_⟩;have s3:Same H2 (upd H2 T (.tup [V.str (tx (tkC t)),V.int r,V.int z,V.int s,V.ref b])):=(Mw H2).laid hT;have Th:IsTh (upd H2 T (.tup [V.str (tx (tkC t)),V.int r,V.int z,V.int s,V.ref b])) T b t r z s ms:=⟨ak,s3 _ _ ebm,by omega⟩;generalize upd H2 T (.tup [V.str (tx (tkC t)),V.int r,V.int z,V.int s,V.ref b])=H3 at*;have s12:=s1.trans s2;have s13:=s12.trans s3;have X3:=X.same s13;rw[aA];symm;refine⟨P,L,G,A,T,b,h,w,g,Mf,cl,Mc,t,r,z,s,ms,rfl,⟨X3.P,Th,X3.A,X.n⟩,X.m64,f,fun H4 s4=>?_⟩
   cases hb2:strA h w g Mf cl Mc t r z s ms with
   | true=>
    refine⟨true,rfl,iteT ?_⟩;symm;exact q2 ms T b H4 (hfind hb2) (s13.trans s4) (s12.free hT) frb (Th.same s4)
   | false=>
    refine⟨false,rfl,iteF ?_⟩;refine⟨_,_,rfl,(s2.trans s3).trans s4,fun y hy=>?_⟩;rw[et] at hy;rcases M0.mp hy with hy | hy
    . exact hno y hy
    . rw[MN.mp hy];exact hb2
 . rintro σ H2 ⟨v6,v7,rfl,s2,hno⟩;rw[Mr,al,Nt] at hno;symm;exact q1 (List.find?_eq_none.mpr fun ms hm=>by rw[hno ms hm];exact ME) H2 (s1.trans s2)
def rnF(Mf:List RR)(t:TK):List Int:=if t=.clue then [0] else((List.range Mf.length).filter fun i=>goesB t ((Mf[i]?.map RR.k).getD .Rule)).map fun(i:Nat)=>(i:Int)
def jL(K:Frag)(c:RCl RK)(d:RCl PzK):Sp:=fun vs H Q _=>∃(P L G:Addr) (h w g:Int) (Mf:List RR) (cl:List Int) (t:TK),vs=[.ref P,.str (tx (tkC t))]/\IsPz H c d P L G h w g Mf cl/\∀ l H',Same H H'->H l=none->H' l=some (.lst ((rnF Mf t).map V.int))->Q (.ref l) H'
def jM(K:Frag)(c:RCl RK)(d:RCl PzK):TS:=
 (tSeq (tIfS (tTest (tOp (cEq K) (tVar 1) (tC (.str (tx [99,108,117,101]))))) (tRet (tLst (tCons (tC (.int 0)) tNil))) tNext)
  (tRet (tComp [none,none,none,some 1] (iEnum K (tCons (aD d d.ok "rules" (cO K c d) (tVar 0) tNil) tNil)) (gTup K 2 (gCons (gName 1) (gCons (gName 2) gNil))) (tB (tCall (lZ K c) [] E0 (tCons (tVar 3) (tCons (tVar 2) tNil)))) (tVar 1))))
theorem wb(h:jL K c d vs H Q E):jM K c d (eD9 Q) (start ["puzzle","kind"] vs) H:=by
 obtain⟨P,L,G,h,w,g,Mf,cl,t,rfl,X,q⟩:=h;obtain⟨dx,p0,rs,h1,h2,h3⟩:=X.ex;have rn:=X.R.n;show jM K c d _ [some (.ref P),some (.str (tx (tkC t)))] H;unfold jM;rw[aE,aA];symm;rw[bn,sY];unfold rnF at q;by_cases hc:t=.clue
 . rw[MU hc] at q;rw[Mv hc];symm;exact⟨lnR rfl,fun l hl=>q l _ ((Mw H).laid hl) hl ak⟩
 . rw[MP hc] at q;rw[Mu hc];symm
   first
   | refine methE (k:=.Puzzle) rfl X.ok h1 (by rfl) ?_
   | (rw[aD];symm;refine methE (k:=.Puzzle) rfl X.ok h1 (by rfl) ?_)
   symm;refine⟨P,L,G,h,w,g,Mf,cl,rfl,X,fun l p2 rs2 hl hp2 Y=>?_⟩;have s2:Same H (upd H l (.lst (rs2.map V.ref))):=(Mw H).laid hl;generalize upd H l (.lst (rs2.map V.ref))=H1 at*;have Mn:=Y.len;symm;refine⟨l,rfl,⟨_,MO Y.top⟩,?_⟩;refine p8 (xs:=rs2.map V.ref) (fun i=>goesB t ((Mf[i]?.map RR.k).getD .Rule)) (fun i=>.int (i:Int)) (by rw[Mr];omega) (by decide) (MO Y.top) ?_ ?_ ?_
   . intro i x H2 R hx s3 k3;obtain⟨b,hb,rfl⟩:=bx hx;have hi:i<rs2.length:=(My.mp hb).1;have er:Mf[i]? =some Mf[i]:=Mt (by omega);have zz:=(Y.at_ i b _ hb er).same s3;rw[er] at k3;show tB _ [none,some (.int (i:Int)),some (.ref b),some (.str (tx (tkC t)))] H2 R;symm;exact⟨t,Mf[i].k,b,p2,_,_,_,_,rfl,hc,zz,_,rfl,k3 _ (Mw _)⟩
   . intro i x H2 Q2 hx hb s3 k3;obtain⟨b,hb,rfl⟩:=bx hx;show tVar 1 [none,some (.int (i:Int)),some (.ref b),some (.str (tx (tkC t)))] H2 Q2;symm;exact k3 _ (Mw _)
   . intro T H2 hT s3 eT;rw[Mr,Mn] at eT;refine q T H2 (s2.trans s3) (s2.free hT) ?_;rw[eT,Na];rfl
def celF(h w:Int)(Mf:List RR)(t:TK)(r:Int):List Int:=if t=.clue then rngL 0 (h*w) else match Mf[r.toNat]? with
 | none=>[]
 | some x=>srtI x.cs
def jN(K:Frag)(c:RCl RK)(d:RCl PzK):Sp:=fun vs H Q _=>∃(P L G:Addr) (h w g:Int) (Mf:List RR) (cl:List Int) (t:TK) (r:Int),vs=[.ref P,.str (tx (tkC t)),.int r]/\IsPz H c d P L G h w g Mf cl/\(t≠.clue->0<=r/\r<Mf.length)/\∀ l H',Same H H'->H l=none->H' l=some (.lst ((celF h w Mf t r).map V.int))->Q (.ref l) H'
def jO(K:Frag)(c:RCl RK)(d:RCl PzK):TS:=
 (tSeq (tIfS (tTest (tOp (cEq K) (tVar 1) (tC (.str (tx [99,108,117,101]))))) (tRet (kT (tCons (tCall (bP K) [] E0 (tCons (aD d d.ok "place" (d3 K c d) (tVar 0) tNil) tNil)) tNil))) tNext)
  (tRet (tCB eI (tCons (aD c c.ok "spots" (d0 K c) (tOp cIx (aD d d.ok "rules" (cO K c d) (tVar 0) tNil) (tVar 2)) tNil) tNil))))
theorem wc(h:jN K c d vs H Q E):jO K c d (eD9 Q) (start ["puzzle","kind","number"] vs) H:=by
 obtain⟨P,L,G,h,w,g,Mf,cl,t,r,rfl,X,hr,q⟩:=h;obtain⟨dx,p0,rs,h1,h2,h3⟩:=X.ex;have F:=X.R.F;have m16:=F.m;have mpos:0<=h*w:=OA (by have:=F.h0;omega) (by have:=F.w0;omega);show jO K c d _ [some (.ref P),some (.str (tx (tkC t))),some (.int r)] H;unfold jO;rw[aE,aA];symm;rw[bn,sY];unfold celF at q;by_cases hc:t=.clue
 . rw[MU hc] at q;rw[Mv hc];symm;refine methE (k:=.Puzzle) rfl X.ok h1 (by rfl) ?_;symm;refine⟨P,L,G,h,w,g,Mf,cl,rfl,X,fun p hp=>?_⟩;symm;refine⟨p,h,w,g,rfl,hp,F.h0,F.h1,?_⟩;exact⟨h*w,rfl,by omega,by omega,fun l hl=>q l _ ((Mw H).laid hl) hl ak⟩
 . obtain⟨r0,r1⟩:=hr hc;have ey:Mf[r.toNat]? =some Mf[r.toNat]:=Mt (by omega);rw[MP hc,ey] at q;have O:=X.R.ok _ (Mz ey);have yl:=RR.len26 O F;rw[Mu hc];symm
   first
   | refine methE (k:=.Puzzle) rfl X.ok h1 (by rfl) ?_
   | (rw[aD];symm;refine methE (k:=.Puzzle) rfl X.ok h1 (by rfl) ?_)
   symm;refine⟨P,L,G,h,w,g,Mf,cl,rfl,X,fun l p2 rs2 hl hp2 Y=>?_⟩;have s2:Same H (upd H l (.lst (rs2.map V.ref))):=(Mw H).laid hl;generalize upd H l (.lst (rs2.map V.ref))=H1 at*;have Mn:=Y.len;have ea:rs2[r.toNat]? =some rs2[r.toNat]:=Mt (by omega);have y:=Y.at_ _ _ _ ea ey;generalize rs2[r.toNat]=b at*;obtain⟨dy,Wy,Cy,y1,y2,y3⟩:=y.ex;dsimp only;refine ixL Y.top (fU r0 ea) ?_;refine⟨b,Mf[r.toNat].k,dy,_,rfl,y.ok,y1,by rfl,?_⟩;symm;refine⟨b,p2,_,_,_,_,rfl,y,fun l2 hl2=>?_⟩;obtain⟨H2,z9,s3,e3⟩:=aY (.lst (Mf[r.toNat].cs.map V.int)) hl2;rw[z9];refine AF e3 (by omega) fun l3 hl3=>?_;have s4:=(s2.trans s3).trans ((Mw H2).laid (o:=.lst ((srtI Mf[r.toNat].cs).map V.int)) hl3);exact q l3 _ s4 ((s2.trans s3).free hl3) ak
structure IsBk(H:Hp)(l:Addr)(bs Ms:List Addr)(Mm:List Tho):Prop where
 top:H l=some (.lst (bs.map V.ref))
 len:bs.length=Mm.length
 lnM:Ms.length=Mm.length
 nl:l∉Ms
 at_:∀(i:Nat) (b M:Addr) (th:Tho),bs[i]? =some b->Ms[i]? =some M->Mm[i]? =some th->IsTh H b M th.t th.r th.z th.s th.ms
variable{l:Addr}{Ms:List Addr}{Mm:List Tho}
theorem IsBk.same{bs:List Addr}(x:IsBk H l bs Ms Mm)(s:Same H H'):IsBk H' l bs Ms Mm:=⟨s _ _ x.top,x.len,x.lnM,x.nl,fun i b M th h1 h2 h3=>(x.at_ i b M th h1 h2 h3).same s⟩
theorem IsBk.nil(h:H l=some (.lst [])):IsBk H l [] [] []:=⟨h,rfl,rfl,by simp,fun i b M th e _ _=>by simp at e⟩
theorem IsBk.app{T M:Addr}{bs:List Addr}{th:Tho}(x:IsBk H l bs Ms Mm)(s:Same H H')(y:IsTh H' T M th.t th.r th.z th.s th.ms)(hM:M≠l):IsBk (upd H' l (.lst (bs.map V.ref++[V.ref T]))) l (bs++[T]) (Ms++[M]) (Mm++[th]):=by
 have e:=s _ _ x.top;have up:∀{b N:Addr} {t:Tho},IsTh H' b N t.t t.r t.z t.s t.ms->N≠l->IsTh (upd H' l (.lst (bs.map V.ref++[V.ref T]))) b N t.t t.r t.z t.s t.ms:=fun z hn=>⟨by rw[aq (fun e'=>by have:=z.T;rw[e',e] at this;cases this)];exact z.T,by rw[aq hn];exact z.M,z.n⟩;have l1:=x.len;have l2:=x.lnM;refine⟨by rw[ak];simp,by simp[l1],by simp[l2],fun hm=>?_,fun i b N t h1 h2 h3=>?_⟩
 . rcases M0.mp hm with hm | hm
   . exact x.nl hm
   . exact hM (MN.mp hm).symm
 . by_cases hi:i<Mm.length
   . rw[Nc (by omega)] at h1;rw[Nc (by omega)] at h2;rw[Nc hi] at h3;exact up ((x.at_ i b N t h1 h2 h3).same s) fun e'=>x.nl (by rw[← e'];exact Mz h2)
   . rw[Nk (by omega)] at h1 h2 h3;have i0:i-Mm.length=0:=by have:=(My.mp h3).1;simp at this;omega
     rw[i0] at h3;rw[show i-bs.length=0 by omega] at h1;rw[show i-Ms.length=0 by omega] at h2;cases h1;cases h2;cases h3;exact up y hM
def BkP(Q:VK)(H:Hp)(Mm:List Tho):Prop:=∀(l:Addr) (bs Ms:List Addr) (H':Hp),Same H H'->H l=none->(∀ b∈bs,H b=none)->(∀ M∈Ms,H M=none)->IsBk H' l bs Ms Mm->Q (.ref l) H'
theorem BkP.of(q:BkP Q H Mm)(s:Same H H1):BkP Q H1 Mm:=fun l bs Ms H' s' hl hb hM x=>q l bs Ms H' (s.trans s') (s.free hl) (fun b h=>s.free (hb b h)) (fun b h=>s.free (hM b h)) x
structure MkP(g:Int)(n:Nat)(ms:List Int):Prop where
 len:ms.length=n
 mm:∀ m∈ms,0<=m/\m<2^g.toNat
theorem GW:((List.range 64).all fun m=>(List.range 6).all fun s=>decide (0<=woI (m:Int) (1+(s:Int))/\woI (m:Int) (1+(s:Int))<=m)&&((List.range 6).all fun x=>decide (x=s)||decide (stB (woI (m:Int) (1+(s:Int))) (1+(x:Int))=stB (m:Int) (1+(x:Int))))&&(!stB (m:Int) (1+(s:Int))||decide ((sgL (woI (m:Int) (1+(s:Int)))).length+1=(sgL (m:Int)).length)))=true:=by decide+kernel
theorem AI(m0:0<=m)(m1:m<64)(s0:1<=s)(s6:s<=6):(0<=woI m s/\woI m s<=m)/\(∀ x,1<=x->x<=6->x≠s->stB (woI m s) x=stB m x)/\(stB m s=true->(sgL (woI m s)).length+1=(sgL m).length):=by
 have t:=MC.mp (MC.mp GW m.toNat (MF.mpr (by omega))) (s-1).toNat (MF.mpr (by omega));rw[show((m.toNat:Nat):Int)=m by omega,show 1+(((s-1).toNat:Nat):Int)=s by omega,MH,MH] at t;refine⟨MG t.1.1,fun x x0 x6 ne=>?_,fun hs=>?_⟩
 . have:=MC.mp t.1.2 (x-1).toNat (MF.mpr (by omega));rw[show 1+(((x-1).toNat:Nat):Int)=x by omega,Mu (by omega),NC] at this;exact MG this
 . have:=t.2;rw[hs,Oa,NC] at this;exact MG this
theorem GX:((List.range 7).all fun g=>(List.range 64).all fun m=>!decide ((m:Int)<2^g)||(sgL (m:Int)).all fun x=>decide (1<=x/\x<=(g:Int)))=true:=by decide+kernel
theorem EY(g0:1<=g)(g6:g<=6)(m0:0<=m)(m1:m<2^g.toNat)(hx:x∈sgL m):1<=x/\x<=g:=by
 have p:=kN g0 g6;have t:=MC.mp (MC.mp GX g.toNat (MF.mpr (by omega))) m.toNat (MF.mpr (by omega));rw[show((m.toNat:Nat):Int)=m by omega,Mv m1,Oa,NC] at t;have:=MG (MC.mp t x hx);omega
variable{ms:List Int}
theorem EZ{k:Nat}(hk:k<ms.length):(stL ms z s).getD k 0=if (k:Int)=z then woI (ms.getD k 0) s else ms.getD k 0:=by
 unfold stL;rw[List.getD,MA,Ny hk];rfl
theorem GY:(stL ms z s).length=ms.length:=by unfold stL;rw[Mr,Nv]
theorem kr{k:Nat}(hk:k<ms.length):ms.getD k 0∈ms:=by rw[List.getD,Mt hk];exact MT _
variable{n:Nat}
theorem MkP.stL(X:MkP g n ms)(g0:1<=g)(g6:g<=6)(s0:1<=s)(s6:s<=6):MkP g n (stL ms z s):=by
 have p:=kN g0 g6;refine⟨by rw[GY];exact X.len,fun m hm=>?_⟩;unfold L2.stL at hm;obtain⟨i,hi,rfl⟩:=MJ.mp hm;have b:=X.mm _ (kr (MF.mp hi))
 split
 . have:=(AI (s:=s) b.1 (by omega) s0 s6).1;omega
 . exact b
theorem Lk.mkp(x:Lk H c d P L G A h w g Mf cl Mc):MkP g (h*w).toNat Mc:=⟨x.n,x.mm⟩
def RuOk(Mf:List RR)(t:TK)(r:Int):Prop:=(t=.clue->r=0)/\(t≠.clue->0<=r/\∃ x,Mf[r.toNat]? =some x/\goesB t x.k=true)
theorem Gc(h:r∈rnF Mf t):RuOk Mf t r:=by
 unfold rnF at h;by_cases hc:t=.clue
 . rw[MU hc] at h;exact⟨fun _=>MN.mp h,fun n=>absurd hc n⟩
 . rw[MP hc] at h;obtain⟨i,hi,rfl⟩:=MJ.mp h;obtain⟨hi,hg⟩:=MK.mp hi;have hl:=MF.mp hi;have e:Mf[i]? =some Mf[i]:=Mt hl;refine⟨fun n=>absurd n hc,fun _=>⟨by omega,Mf[i],by rw[NU];exact e,?_⟩⟩;rw[e] at hg;exact hg
theorem AJ(R:g7 c h w g Mf)(ok:RuOk Mf t r)(hz:z∈celF h w Mf t r)(s0:1<=s)(s1:s<=g):formB h w g Mf t r z s=true:=by
 have inn:(0<=z/\z<h*w)/\hitB t Mf r z=true:=by
  unfold celF at hz;unfold hitB;by_cases hc:t=.clue
  . rw[MU hc] at hz;rw[ok.1 hc,MP (by decide),MU hc];exact⟨xp hz,rfl⟩
  . obtain⟨r0,x,ex,hg⟩:=ok.2 hc;rw[MP hc,ex] at hz;have hz':=srt_mem.mp hz;have ci:=(O7 (R.ok x (Mz ex)) R.F).2 z hz';rw[MP (by omega),MP hc,ex];refine⟨by omega,?_⟩;dsimp only;rw[hg,Mv hz'];rfl
 unfold formB;rw[Mv inn.1.1,Mv inn.1.2,Mv s0,Mv s1,inn.2];rfl
noncomputable def fbS (h w g:Int) (Mf:List RR) (cl:List Int) (t:TK) (r z:Int) (nb:List Int × List Tho) (s:Int):List Int × List Tho:=match faF h w g Mf cl nb.1 t r z s with
 | none=>nb
 | some ms=>(stL nb.1 z s,nb.2++[⟨t,r,z,s,ms⟩])
noncomputable def fbC (h w g:Int) (Mf:List RR) (cl:List Int) (t:TK) (r:Int) (nb:List Int × List Tho) (z:Int):List Int × List Tho:=(sgL (nb.1.getD z.toNat 0)).foldl (fbS h w g Mf cl t r z) nb
noncomputable def fbL (h w g:Int) (Mf:List RR) (cl:List Int) (t:TK) (r:Int):List Int->List Int × List Tho->List Tho
 | [],nb=>nb.2
 | z::zs,nb=>if 0∈(fbC h w g Mf cl t r nb z).1 then(fbC h w g Mf cl t r nb z).2 else fbL h w g Mf cl t r zs (fbC h w g Mf cl t r nb z)
noncomputable def fbF (h w g:Int) (Mf:List RR) (cl Mc:List Int) (t:TK) (r:Int):List Tho:=fbL h w g Mf cl t r (celF h w Mf t r) (Mc,[])
variable{nb:List Int × List Tho}
theorem Ir(X:MkP g n nb.1)(g0:1<=g)(g6:g<=6)(s0:1<=s)(s6:s<=6):MkP g n (fbS h w g Mf cl t r z nb s).1:=by
 unfold fbS
 split
 . exact X
 . exact X.stL g0 g6 s0 s6
def iG(K:Frag)(c:RCl RK)(d:RCl PzK):Sp:=fun vs H Q _=>∃(P L G A:Addr) (h w g:Int) (Mf:List RR) (cl Mc:List Int) (t:TK) (r:Int),vs=[.ref P,.ref A,.str (tx (tkC t)),.int r]/\Lk H c d P L G A h w g Mf cl Mc/\RuOk Mf t r/\BkP Q H (fbF h w g Mf cl Mc t r)
def fbin(K:Frag)(c:RCl RK)(d:RCl PzK):TS:=
 (tFor (iList K (tCall (bz K) [] E0 (tCons (tOp cIx (tVar 4) (tVar 6)) tNil))) (gName 7)
  (tSeq (tAsg (tCall (oH K c d) [] E0 (tCons (tVar 0) (tCons (tVar 4) (tCons (tVar 2) (tCons (tVar 3) (tCons (tVar 6) (tCons (tVar 7) tNil))))))) (gName 8))
  (tIfS (tTest (tOp rNotN (tVar 8) (tC .non))) (tSeq (tDrop (tBM K "list" bo (tVar 5) (tCons (tVar 8) tNil)))
  (tAsg (tCall (nE K) [] E0 (tCons (tVar 4) (tCons (tVar 6) (tCons (tVar 7) tNil)))) (gName 4))) tNext)))
def iH(K:Frag)(c:RCl RK)(d:RCl PzK):TS:=
 (tSeq (tAsg (tCB kList (tCons (tVar 1) tNil)) (gName 4))
  (tSeq (tAsg (tLst tNil) (gName 5))
  (tSeq (tFor (iList K (tCall (jN K c d) [] E0 (tCons (tVar 0) (tCons (tVar 2) (tCons (tVar 3) tNil))))) (gName 6)
  (tSeq (fbin K c d)
  (tIfS (tB (tCall (dq K) [] E0 (tCons (tVar 4) tNil))) (tRet (tVar 5)) tNext)))
  (tRet (tVar 5)))))
structure Fb(H0 H:Hp)(c:RCl RK)(d:RCl PzK)(P L G N B:Addr)(bs Ms:List Addr)(h w g:Int)(Mf:List RR)(cl:List Int)(nb:List Int × List Tho):Prop where
 sm:Same H0 H
 pz:IsPz H0 c d P L G h w g Mf cl
 nw:H N=some (.lst (nb.1.map V.int))
 mp:MkP g (h*w).toNat nb.1
 bk:IsBk H B bs Ms nb.2
 nB:N≠B
 fB:H0 B=none
 fb:∀ b∈bs,H0 b=none
 fM:∀ M∈Ms,H0 M=none
variable{H0:Hp}{B:Addr}
theorem Fb.same{N:Addr}{bs:List Addr}(X:Fb H0 H c d P L G N B bs Ms h w g Mf cl nb)(t:Same H H'):Fb H0 H' c d P L G N B bs Ms h w g Mf cl nb:=⟨X.sm.trans t,X.pz,t _ _ X.nw,X.mp,X.bk.same t,X.nB,X.fB,X.fb,X.fM⟩
theorem Fb.lk{N:Addr}{bs:List Addr}(X:Fb H0 H c d P L G N B bs Ms h w g Mf cl nb):Lk H c d P L G N h w g Mf cl nb.1:=⟨X.pz.same X.sm,X.nw,X.mp.len,X.mp.mm⟩
variable{i:Nat}
theorem E3{α:Type}{f:α->Int->α}{x:α}{ss:List Int}(e:ss[i]? =some s):(ss.take (i+1)).foldl f x=f ((ss.take i).foldl f x) s:=by
 rw[NM,e,Oh];rfl
theorem GZ:(fbS h w g Mf cl t r z nb s).2.length<=nb.2.length+1:=by
 unfold fbS
 split
 . omega
 . simp
theorem AK(m0:0<=m)(m1:m<64):(sgL m).length<=6:=by
 have t:=MG (MC.mp AD m.toNat (MF.mpr (by omega)));rw[show((m.toNat:Nat):Int)=m by omega] at t;unfold sgL;rw[Mr];refine ML (MM _ _) ?_;rw[Nv];exact t
variable{D:Ends}{v8:Option V}
theorem FS {N:Addr} {bs:List Addr} {v7:Option V} (X:Fb H0 H c d P L G N B bs Ms h w g Mf cl nb) (ok:RuOk Mf t r) (hz:z∈celF h w Mf t r) (bl:nb.2.length<=800) {C:Addr} {cs:List Int} (eC:H C=some (.lst (cs.map V.int))) (nCB:C≠B)
  (k:∀(N2:Addr) (bs2 Ms2:List Addr) (v7 v8:Option V) (H':Hp),Fb H0 H' c d P L G N2 B bs2 Ms2 h w g Mf cl (fbC h w g Mf cl t r nb z)->H' C=some (.lst (cs.map V.int))->(fbC h w g Mf cl t r nb z).2.length<=nb.2.length+6->D.nx [some (.ref P),some (.ref A),some (.str (tx (tkC t))),some (.int r),some (.ref N2),some (.ref B),some (.int z),v7,v8] H'):
  fbin K c d D [some (.ref P),some (.ref A),some (.str (tx (tkC t))),some (.int r),some (.ref N),some (.ref B),some (.int z),v7,v8] H:=by
 have g0:=X.pz.R.F.g0;have g6:=X.pz.R.F.g1;have p64:=kN g0 g6;have zf:=dY (AJ (s:=1) X.pz.R ok hz (by decide) g0);have nl:=X.mp.len;have mz:=X.mp.mm _ (kr (k:=z.toNat) (ms:=nb.1) (by omega));have sb:∀ s∈sgL (nb.1.getD z.toNat 0),1<=s/\s<=g:=fun s hs=>EY g0 g6 mz.1 mz.2 hs;have sl6:=AK mz.1 (by omega);unfold fbin;symm;refine ixI X.nw zf.1 (by omega) ?_;symm;unfold fbC at k;refine⟨_,rfl,bitsA mz.1 (by omega),fun S H1 s1 hS eS=>?_⟩;generalize sgL (nb.1.getD z.toNat 0)=ss at*;refine⟨S,rfl,⟨_,MO eS⟩,?_⟩
 refine bp (K:=K) (xs:=ss.map V.int) (fun i σ H'=>∃(N2:Addr) (bs2 Ms2:List Addr) (v7 v8:Option V),σ=[some (.ref P),some (.ref A),some (.str (tx (tkC t))),some (.int r),some (.ref N2),some (.ref B),some (.int z),v7,v8]/\Fb H0 H' c d P L G N2 B bs2 Ms2 h w g Mf cl ((ss.take i).foldl (fbS h w g Mf cl t r z) nb)/\H' S=some (.lst (ss.map V.int))/\H' C=some (.lst (cs.map V.int))/\((ss.take i).foldl (fbS h w g Mf cl t r z) nb).2.length<=nb.2.length+i)
  ⟨N,bs,Ms,_,_,rfl,X.same s1,eS,s1 _ _ eC,MW _⟩ (fun i σ H' _ ⟨_,_,_,_,_,_,_,e,_⟩=>MO e) ?_ ?_
 . rintro i v σ H2 hv ⟨N2,bs2,Ms2,v7,v8,rfl,X2,eS2,eC2,l2⟩;obtain⟨s,hs,rfl⟩:=aQ hv;have hi:i<ss.length:=(My.mp hs).1;have sm:=sb s (Mz hs);rw[E3 hs];generalize (ss.take i).foldl (fbS h w g Mf cl t r z) nb=n2 at*;have f:=AJ (s:=s) X.pz.R ok hz sm.1 sm.2;have l3:=GZ (h:=h) (w:=w) (g:=g) (Mf:=Mf) (cl:=cl) (t:=t) (r:=r) (z:=z) (s:=s) (nb:=n2);have o3:=Ir (h:=h) (w:=w) (Mf:=Mf) (cl:=cl) (t:=t) (r:=r) (z:=z) X2.mp g0 g6 sm.1 (by omega);symm;refine⟨P,L,G,N2,h,w,g,Mf,cl,n2.1,t,r,z,s,rfl,X2.lk,f,fun e H3 s3=>?_,fun ms T M H3 e s3 hT hM Th=>?_⟩
   . have e2:fbS h w g Mf cl t r z n2 s=n2:=by unfold fbS;rw[e]
     rw[e2];symm;rw[aA];symm;exact⟨N2,bs2,Ms2,_,_,rfl,X2.same s3,s3 _ _ eS2,s3 _ _ eC2,by omega⟩
   . have e2:fbS h w g Mf cl t r z n2 s=(stL n2.1 z s,n2.2++[⟨t,r,z,s,ms⟩]):=by unfold fbS;rw[e]
     rw[e2] at l3 o3;rw[e2];have X3:=X2.same s3;have hMB:M≠B:=fun e'=>by rw[e',X2.bk.top] at hM;cases hM
     have b2:=X2.bk.len;have nSB:S≠B:=fun e'=>by rw[e',X.bk.top] at hS;cases hS
     symm;rw[aA];symm;rw[Mu (fun e'=>by cases e')];symm;refine⟨bq X3.bk.top,?_⟩;rw[fP X3.bk.top];refine⟨by rw[Mr];exact aK (by omega),?_⟩;have Bk:=X2.bk.app (th:=⟨t,r,z,s,ms⟩) s3 Th hMB;have s4:=X3.sm.own (o:=.lst (bs2.map V.ref++[V.ref T])) X.fB;have n4:(upd H3 B (.lst (bs2.map V.ref++[V.ref T]))) N2=some (.lst (n2.1.map V.int)):=by rw[aq X2.nB];exact X3.nw
     have S4:(upd H3 B (.lst (bs2.map V.ref++[V.ref T]))) S=some (.lst (ss.map V.int)):=by rw[aq nSB];exact s3 _ _ eS2
     have C4:(upd H3 B (.lst (bs2.map V.ref++[V.ref T]))) C=some (.lst (cs.map V.int)):=by rw[aq nCB];exact s3 _ _ eC2
     generalize upd H3 B (.lst (bs2.map V.ref++[V.ref T]))=H4 at*;symm;refine⟨N2,n2.1,z,s,rfl,n4,by have:=X2.mp.len;have:=X.pz.R.F.m;omega,by omega,fun N3 H5 s5 hN3 eN3=>?_⟩;refine⟨N3,bs2++[T],Ms2++[M],_,_,rfl,⟨s4.trans s5,X.pz,eN3,o3,Bk.same s5,fun e'=>?_,X.fB,fun b hb=>?_,fun b hb=>?_⟩,s5 _ _ S4,s5 _ _ C4,ML l3 (by omega)⟩
     . rw[e',Bk.top] at hN3;cases hN3
     . rcases M0.mp hb with hb | hb
       . exact X2.fb b hb
       . rw[MN.mp hb];exact X2.sm.free hT
     . rcases M0.mp hb with hb | hb
       . exact X2.fM b hb
       . rw[MN.mp hb];exact X2.sm.free hM
 . rintro σ H2 ⟨N2,bs2,Ms2,v7,v8,rfl,X2,eS2,eC2,l2⟩;rw[Mr,Nt] at X2 l2;exact k N2 bs2 Ms2 v7 v8 H2 X2 eC2 (by omega)
theorem G0(R:g7 c h w g Mf):(celF h w Mf t r).length<=60:=by
 have:=R.F.m;unfold celF
 split
 . rw[j9];omega
 . split
   . simp
   . rename_i x e
     rw[tm];exact RR.len26 (R.ok x (Mz e)) R.F
theorem uO(h:iG K c d vs H Q E):iH K c d (eD9 Q) (start ["puzzle","masks","kind","number","now","book","cell","sign","thought"] vs) H:=by
 obtain⟨P,L,G,A,h,w,g,Mf,cl,Mc,t,r,rfl,X,ok,q⟩:=h;show iH K c d _ [some (.ref P),some (.ref A),some (.str (tx (tkC t))),some (.int r),none,none,none,none,none] H;have cln:=G0 (t:=t) (r:=r) X.P.R;unfold iH;symm;refine mn X.A fun N hN=>?_;obtain⟨H1,z9,s1,eN⟩:=aY (.lst (Mc.map V.int)) hN;rw[z9];symm;refine⟨aR (by decide),fun B hB=>?_⟩;have s2:Same H1 (upd H1 B (.lst [])):=(Mw H1).laid hB;have eB:(upd H1 B (.lst [])) B=some (.lst []):=ak;have nNB:N≠B:=fun e=>by rw[e] at eN;rw[eN] at hB;cases hB
 generalize upd H1 B (.lst [])=H2 at*;have s12:=s1.trans s2;have X0:Fb H H2 c d P L G N B [] [] h w g Mf cl (Mc,[]):=⟨s12,X.P,s2 _ _ eN,X.mkp,IsBk.nil eB,nNB,s1.free hB,(fun b hb=>by cases hb),(fun b hb=>by cases hb)⟩;refine⟨P,L,G,h,w,g,Mf,cl,t,r,rfl,X.P.same s12,fun hc=>?_,fun C H3 s3 hC eC=>?_⟩
 . obtain⟨r0,x,ex,_⟩:=ok.2 hc;have:=(My.mp ex).1;omega
 . have nCB:C≠B:=fun e=>by rw[e,eB] at hC;cases hC
   unfold fbF at q;have hce:∀ z∈celF h w Mf t r,z∈celF h w Mf t r:=fun z hz=>hz;generalize hcs:celF h w Mf t r=cs at*;refine⟨C,rfl,⟨_,MO eC⟩,?_⟩
   refine bp (K:=K) (xs:=cs.map V.int) (fun i σ H'=>∃(N2:Addr) (bs2 Ms2:List Addr) (v6 v7 v8:Option V) (nb:List Int × List Tho),σ=[some (.ref P),some (.ref A),some (.str (tx (tkC t))),some (.int r),some (.ref N2),some (.ref B),v6,v7,v8]/\Fb H H' c d P L G N2 B bs2 Ms2 h w g Mf cl nb/\H' C=some (.lst (cs.map V.int))/\fbL h w g Mf cl t r cs (Mc,[])=fbL h w g Mf cl t r (cs.drop i) nb/\nb.2.length<=6*i)
    ⟨N,[],[],none,none,none,(Mc,[]),rfl,X0.same s3,eC,rfl,MW _⟩ (fun i σ H' _ ⟨_,_,_,_,_,_,_,_,_,e,_⟩=>MO e) ?_ ?_
   . rintro i v σ H4 hv ⟨N2,bs2,Ms2,v6,v7,v8,nb,rfl,X4,eC4,ef,bl⟩;obtain⟨z,hz,rfl⟩:=aQ hv;have hi:i<cs.length:=(My.mp hz).1;have zm:z∈celF h w Mf t r:=by rw[hcs];exact Mz hz
     have ed:cs.drop i=z::cs.drop (i+1):=by
      rw[NW hi]
      congr 1
      exact(My.mp hz).2
     rw[ed] at ef;symm;refine FS X4 ok zm (by omega) eC4 nCB fun N3 bs3 Ms3 v7 v8 H5 X5 eC5 l5=>?_;have ef':fbL h w g Mf cl t r cs (Mc,[])=if 0∈(fbC h w g Mf cl t r nb z).1 then(fbC h w g Mf cl t r nb z).2 else fbL h w g Mf cl t r (cs.drop (i+1)) (fbC h w g Mf cl t r nb z):=ef;generalize fbC h w g Mf cl t r nb z=n5 at*;symm;rw[aA];symm;refine⟨N3,n5.1,rfl,X5.nw,?_⟩;by_cases h0:(0:Int)∈n5.1
     . rw[MU h0] at ef';rw[Mv h0];refine⟨true,rfl,iteT ?_⟩;symm;rw[ef'] at q;exact q B bs3 Ms3 H5 X5.sm X5.fB X5.fb X5.fM X5.bk
     . rw[MP h0] at ef';rw[Mu h0];refine⟨false,rfl,iteF ?_⟩;exact⟨N3,bs3,Ms3,_,_,_,n5,rfl,X5,eC5,ef',by omega⟩
   . rintro σ H4 ⟨N2,bs2,Ms2,v6,v7,v8,nb,rfl,X4,eC4,ef,bl⟩;rw[Mr,OZ] at ef;symm;rw[ef] at q;exact q B bs2 Ms2 H4 X4.sm X4.fB X4.fb X4.fM X4.bk
theorem Same.sqt{xs:List V}(e:Same H H')(h:SqT K H a xs):SqT K H' a xs:=by
 rcases h with (h | ⟨o,h⟩) | h
 . exact .inl (.inl (e _ _ h))
 . exact .inl (.inr ⟨o,e _ _ h⟩)
 . exact .inr h
theorem E4 {k:Nat} {tt:TT} {fin:Addr->Hp->Prop} {xs:List Str} (b:Str->Bool) (hn:xs.length<=900) (hq:SqT K H1 a (xs.map V.str))
  (ht:∀ x H R,x∈xs->Same H1 H->(∀ H',Same H H'->R (b x) H')->tt (σ0.set k (some (.str x))) H R)
  (he:∀ x H Q,x∈xs->b x=true->Same H1 H->(∀ H',Same H H'->Q (.str x) H')->te (σ0.set k (some (.str x))) H Q)
  (hd:∀ l H,H1 l=none->Same H1 H->H l=some (.lst ((xs.filter b).map V.str))->fin l H):CompR (Itt K a) (gName k) tt te fin σ0 H1:=by
 refine Ae (xs:=xs.map V.str) (fun l i σ H=>(σ=σ0\/∃ cv,σ=σ0.set k cv)/\Same H1 H/\H l=some (.lst (((xs.take i).filter b).map V.str))) (fun l hl=>⟨.inl rfl,(Mw H1).laid hl,by rw[ak];rfl⟩) (fun l i σ H _ _ p=>p.2.1.sqt hq) ?_ (fun l σ H hl p=>hd l H hl p.2.1 (by have:=p.2.2;rw[Mr,Nt] at this;exact this));rintro l i x σ H hl hx ⟨hσ,s1,el⟩;rw[MA] at hx;obtain⟨z,hz,rfl⟩:=NT.mp hx;have hi:i<xs.length:=(My.mp hz).1;have et:xs.take (i+1)=xs.take i++[z]:=by rw[NM,hz];rfl
 rw[bf]
 have e:σ.set k (some (.str z))=σ0.set k (some (.str z)):=by
  rcases hσ with rfl | ⟨cv,rfl⟩
  . rfl
  . exact N8 ..
 rw[e];refine ht z H _ (Mz hz) s1 fun H2 s2=>?_;have el2:=s2 _ _ el;have s12:=s1.trans s2
 cases hb:b z with
 | false=>
  rw[MP ME];refine⟨.inr ⟨_,rfl⟩,s12,?_⟩;rw[et,Nd,Ni,hb]
  simpa using el2
 | true=>
  rw[MU rfl];refine he z H2 _ (Mz hz) hb s12 fun H3 s3=>⟨_,s3 _ _ el2,?_,.inr ⟨_,rfl⟩,(s12.trans s3).own hl,?_⟩
  . rw[Mr];exact aK (ML (MM _ _) (by rw[NO];omega))
  . rw[ak,et,Nd,Ni,hb];simp
def dBk(th:Tho):PyData:=dTh th.t th.r th.z th.s th.ms
theorem Gd{bs:List Addr}(x:IsBk H l bs Ms Mm):DV K H (.ref l) (.list (Mm.map dBk)):=by
 have l1:=x.len;have l2:=x.lnM;refine .lst (MO x.top) (DVs.of_get (by simp[x.len]) fun i y d h1 h2=>?_);obtain⟨a,ha,rfl⟩:=bx h1;rw[MA] at h2;obtain⟨th,hth,rfl⟩:=NT.mp h2;have hi:i<Mm.length:=(My.mp hth).1;exact Dn (x.at_ i a _ th ha (Mt (by omega)) hth)
theorem CB(t:TK)(r z s:Int)(ms:List Int):PyData.canLay0 (dTh t r z s ms)=true/\PyData.depth (dTh t r z s ms)<=2:=by
 have a1:PyData.strOk (tx (tkC t))=true:=C9 (by cases t <;> decide);unfold dTh;simp[PyData.canLay0,PyData.canLayAll0,a1,mf,PyData.depth,PyData.depthAll,iY]
theorem nG(Mm:List Tho):SeqAt.shaped (.list (Mm.map dBk))=true:=by
 have h1:PyData.canLayAll0 (Mm.map dBk)=true:=w6 fun d hd=>by obtain⟨x,_,rfl⟩:=MJ.mp hd;exact(CB _ _ _ _ _).1
 have h2:PyData.depthAll (Mm.map dBk)<=2:=rg fun d hd=>by obtain⟨x,_,rfl⟩:=MJ.mp hd;exact(CB _ _ _ _ _).2
 simp[SeqAt.shaped,PyData.canLay0,h1,PyData.depth];omega
theorem CD(Mm:List Tho):PyData.eqv (.list (Mm.map dBk)) (.list [])=decide (Mm.length=0):=by
 cases Mm <;> simp[PyData.eqv,PyData.eqvAll]
theorem E5{E:Addr}{bs:List Addr}(x:IsBk H l bs Ms Mm)(e:H E=some (.lst []))(q:Q (.bl (!decide (Mm.length=0))) H):cNe K (.ref l) (.ref E) H Q:=by
 show rNeD K (.ref l) (.ref E) H Q;refine⟨_,.list [],Gd x,.lst (MO e) .nil,nG Mm,nG [],?_⟩;rw[CD];exact q
theorem AL{E:Addr}{bs:List Addr}(x:IsBk H l bs Ms Mm)(e:H E=some (.lst []))(q:Q (.bl (decide (Mm.length=0))) H):cEq K (.ref l) (.ref E) H Q:=by
 show rEqD K (.ref l) (.ref E) H Q;refine⟨_,.list [],Gd x,.lst (MO e) .nil,nG Mm,nG [],?_⟩;rw[CD];exact q
abbrev txk(t:TK):Str:=tx (tkC t)
def allT:List TK:=[.clue,.only,.place,.count,.step,.sum,.square,.reach,.turn,.pair,.ways]
theorem l0:bu=allT.map txk:=by decide+kernel
theorem G1{a b:TK}:decide (txk a=txk b)=decide (a=b):=by cases a <;> cases b <;> decide+kernel
variable{ks:List TK}
theorem G2:decide (txk t∈ks.map txk)=decide (t∈ks):=by
 rw[MZ,Mx,Mx,MJ];constructor
 . rintro⟨a,ha,e⟩;have:=G1 (a:=a) (b:=t);rw[Mv e] at this;exact(MG this.symm) ▸ ha
 . exact fun h=>⟨t,h,rfl⟩
noncomputable def ffR (h w g:Int) (Mf:List RR) (cl Mc:List Int) (t:TK):List Int->List Tho
 | []=>[]
 | r::rs=>if (fbF h w g Mf cl Mc t r).length=0 then ffR h w g Mf cl Mc t rs else fbF h w g Mf cl Mc t r
noncomputable def ffT (h w g:Int) (Mf:List RR) (cl Mc:List Int):List TK->List Tho
 | []=>[]
 | t::ts=>if (ffR h w g Mf cl Mc t (rnF Mf t)).length=0 then ffT h w g Mf cl Mc ts else ffR h w g Mf cl Mc t (rnF Mf t)
noncomputable def ffF (h w g:Int) (Mf:List RR) (cl Mc:List Int) (ks:List TK):List Tho:=ffT h w g Mf cl Mc (allT.filter fun t=>decide (t∈ks))
def KdL(H:Hp)(Kd:Addr)(ks:List TK):Prop:=H Kd=some (.lst ((ks.map txk).map V.str))
def KdK(K:Frag)(H:Hp)(Kd:Addr)(ks:List TK):Prop:=KdL H Kd ks\/SqT K H Kd ((ks.map txk).map V.str)
theorem KdK.same{Kd:Addr}(x:KdK K H Kd ks)(s:Same H H'):KdK K H' Kd ks:=x.elim (fun a=>.inl (s _ _ a)) (fun a=>.inr (s.sqt a))
theorem Je{Kd:Addr}{x:Str}(h:KdK K H Kd ks)(q:Q (.bl (decide (x∈ks.map txk))) H):rIn K false (.str x) (.ref Kd) H Q:=by
 refine⟨Kd,(ks.map txk).map V.str,rfl,h.elim (fun a=>.inl (MO a)) .inr,rfl,kU _,?_⟩;rw[mw];exact q
def gl(K:Frag)(c:RCl RK)(d:RCl PzK):Sp:=fun vs H Q _=>∃(P L G A Kd:Addr) (h w g:Int) (Mf:List RR) (cl Mc:List Int) (ks:List TK),vs=[.ref P,.ref A,.ref Kd]/\Lk H c d P L G A h w g Mf cl Mc/\KdK K H Kd ks/\BkP Q H (ffF h w g Mf cl Mc ks)
def ffin(K:Frag)(c:RCl RK)(d:RCl PzK):TS:=
 (tFor (iList K (tCall (jL K c d) [] E0 (tCons (tVar 0) (tCons (tVar 3) tNil)))) (gName 4)
  (tSeq (tAsg (tCall (iG K c d) [] E0 (tCons (tVar 0) (tCons (tVar 1) (tCons (tVar 3) (tCons (tVar 4) tNil))))) (gName 5))
  (tIfS (tTest (tOp (cNe K) (tVar 5) (tLst tNil))) (tRet (tVar 5)) tNext)))
def kt(K:Frag)(c:RCl RK)(d:RCl PzK):TS:=
 (tSeq (tFor (iList K (tComp [none,none,some 2] (iTup K (tGT K bu)) (gName 1) (tTest (tOp (rIn K false) (tVar 1) (tVar 2))) (tVar 1))) (gName 3)
  (ffin K c d))
  (tRet (tLst tNil)))
variable{v5:Option V}
theorem G3 {v4:Option V} (X:Lk H c d P L G A h w g Mf cl Mc)
  (k1:(ffR h w g Mf cl Mc t (rnF Mf t)).length=0->∀(v4 v5:Option V) (H':Hp),Same H H'->D.nx [some (.ref P),some (.ref A),v2,some (.str (txk t)),v4,v5] H')
  (k2:¬ (ffR h w g Mf cl Mc t (rnF Mf t)).length=0->BkP D.rt H (ffR h w g Mf cl Mc t (rnF Mf t))):
  ffin K c d D [some (.ref P),some (.ref A),v2,some (.str (txk t)),v4,v5] H:=by
 unfold ffin;symm;refine⟨P,L,G,h,w,g,Mf,cl,t,rfl,X.P,fun R H1 s1 hR eR=>?_⟩;have hok:∀ r∈rnF Mf t,RuOk Mf t r:=fun r hr=>Gc hr;generalize rnF Mf t=rs at*;refine⟨R,rfl,⟨_,MO eR⟩,?_⟩;refine bp (K:=K) (xs:=rs.map V.int) (fun i σ H'=>∃(v4 v5:Option V),σ=[some (.ref P),some (.ref A),v2,some (.str (txk t)),v4,v5]/\Same H1 H'/\ffR h w g Mf cl Mc t rs=ffR h w g Mf cl Mc t (rs.drop i)) ⟨_,_,rfl,Mw H1,rfl⟩ (fun i σ H' _ ⟨_,_,_,s,_⟩=>MO (s _ _ eR)) ?_ ?_
 . rintro i v σ H2 hv ⟨v4,v5,rfl,s2,ef⟩;obtain⟨r,hr,rfl⟩:=aQ hv;have hi:i<rs.length:=(My.mp hr).1
   have ed:rs.drop i=r::rs.drop (i+1):=by
    rw[NW hi]
    congr 1
    exact(My.mp hr).2
   rw[ed] at ef;have ef':ffR h w g Mf cl Mc t rs=if (fbF h w g Mf cl Mc t r).length=0 then ffR h w g Mf cl Mc t (rs.drop (i+1)) else fbF h w g Mf cl Mc t r:=ef;have s12:=s1.trans s2;symm;refine⟨P,L,G,A,h,w,g,Mf,cl,Mc,t,r,rfl,X.same s12,hok r (Mz hr),fun B bs Ms H3 s3 hB hb hM bk=>?_⟩;symm;rw[aA];symm;refine⟨aR (by decide),fun E hE=>?_⟩;obtain⟨H4,z9,s4,eE⟩:=aY (.lst []) hE;rw[z9];have s34:=s3.trans s4;refine E5 (bk.same s4) eE ?_;by_cases h0:(fbF h w g Mf cl Mc t r).length=0
   . rw[MU h0] at ef';rw[Mv h0];refine⟨_,rfl,iteF ?_⟩;exact⟨_,_,rfl,s2.trans s34,ef'⟩
   . rw[MP h0] at ef';rw[Mu h0];refine⟨_,rfl,iteT ?_⟩;symm;refine k2 (by rw[ef'];exact h0) B bs Ms H4 (s12.trans s34) (s12.free hB) (fun b h=>s12.free (hb b h)) (fun b h=>s12.free (hM b h)) ?_;rw[ef'];exact bk.same s4
 . rintro σ H2 ⟨v4,v5,rfl,s2,ef⟩;rw[Mr,OZ] at ef;exact k1 (by rw[ef];rfl) v4 v5 H2 (s1.trans s2)
theorem xG(h:gl K c d vs H Q E):kt K c d (eD9 Q) (start ["puzzle","masks","kinds","kind","number","found"] vs) H:=by
 obtain⟨P,L,G,A,Kd,h,w,g,Mf,cl,Mc,ks,rfl,X,hK,q⟩:=h;show kt K c d _ [some (.ref P),some (.ref A),some (.ref Kd),none,none,none] H;unfold kt;symm;rw[xc,FQ];intro p hp;refine⟨p,rfl,⟨_,hp⟩,?_⟩;rw[l0] at hp;refine E4 (xs:=allT.map txk) (fun x=>decide (x∈ks.map txk)) (by decide) hp ?_ ?_ ?_
 . intro x H1 R hx s1 k1;show tTest _ [none,some (.str x),some (.ref Kd)] H1 R;symm;exact Je (hK.same s1) ⟨_,rfl,k1 _ (Mw _)⟩
 . intro x H1 Q1 hx hb s1 k1;show tVar 1 [none,some (.str x),some (.ref Kd)] H1 Q1;symm;exact k1 _ (Mw _)
 . intro S H1 hS s1 eS
   have ef:((allT.map txk).filter fun x=>decide (x∈ks.map txk))=(allT.filter fun t=>decide (t∈ks)).map txk:=by
    rw[Ot];refine congrArg _ (PB fun t _=>?_);exact G2
   rw[ef] at eS;unfold ffF at q;generalize (allT.filter fun t=>decide (t∈ks))=ts at*;refine⟨S,rfl,⟨_,MO eS⟩,?_⟩;refine bp (K:=K) (xs:=(ts.map txk).map V.str) (fun i σ H'=>∃(v3 v4 v5:Option V),σ=[some (.ref P),some (.ref A),some (.ref Kd),v3,v4,v5]/\Same H1 H'/\ffT h w g Mf cl Mc ts=ffT h w g Mf cl Mc (ts.drop i)) ⟨_,_,_,rfl,Mw H1,rfl⟩ (fun i σ H' _ ⟨_,_,_,_,s,_⟩=>MO (s _ _ eS)) ?_ ?_
   . rintro i v σ H2 hv ⟨v3,v4,v5,rfl,s2,ef⟩;rw[MA,MA] at hv;obtain⟨u,hu,rfl⟩:=NT.mp hv;obtain⟨t,ht,rfl⟩:=NT.mp hu;have hi:i<ts.length:=(My.mp ht).1
     have ed:ts.drop i=t::ts.drop (i+1):=by
      rw[NW hi]
      congr 1
      exact(My.mp ht).2
     rw[ed] at ef;have ef':ffT h w g Mf cl Mc ts=if (ffR h w g Mf cl Mc t (rnF Mf t)).length=0 then ffT h w g Mf cl Mc (ts.drop (i+1)) else ffR h w g Mf cl Mc t (rnF Mf t):=ef;have s12:=s1.trans s2;symm;refine G3 (X.same s12) (fun h0 v4 v5 H3 s3=>?_) (fun h0=>?_)
     . rw[MU h0] at ef';exact⟨_,_,_,rfl,s2.trans s3,ef'⟩
     . rw[MP h0] at ef';rw[ef'] at q;exact q.of s12
   . rintro σ H2 ⟨v3,v4,v5,rfl,s2,ef⟩;rw[Mr,Mr,OZ] at ef;rw[ef] at q;symm;refine⟨aR (by decide),fun E hE=>?_⟩;exact(q.of (s1.trans s2)) E [] [] _ ((Mw H2).laid hE) hE (fun b hb=>by cases hb) (fun b hb=>by cases hb) (IsBk.nil ak)
noncomputable def ntF (h w g:Int) (Mf:List RR) (cl Mc:List Int) (ks:List TK):Option Tho:=if 0∈Mc then none else(ffF h w g Mf cl Mc ks).head?
def dt(K:Frag)(c:RCl RK)(d:RCl PzK):Sp:=fun vs H Q _=>∃(P L G A Kd:Addr) (h w g:Int) (Mf:List RR) (cl Mc:List Int) (ks:List TK),vs=[.ref P,.ref A,.ref Kd]/\Lk H c d P L G A h w g Mf cl Mc/\KdK K H Kd ks/\
 (ntF h w g Mf cl Mc ks=none->∀ H',Same H H'->Q .non H')/\∀(th:Tho) (T M:Addr) (H':Hp),ntF h w g Mf cl Mc ks=some th->Same H H'->H T=none->H M=none->IsTh H' T M th.t th.r th.z th.s th.ms->Q (.ref T) H'
def ge(K:Frag)(c:RCl RK)(d:RCl PzK):TS:=
 (tRet (tIf (tTest (tOp (cNe K) (tVar 3) (tLst tNil))) (tOp cIx (tVar 3) (tC (.int 0))) (tC .non)))
def jP(K:Frag)(c:RCl RK)(d:RCl PzK):TS:=
 (tSeq (tAsg (tIf (tNot (tB (tCall (dq K) [] E0 (tCons (tVar 1) tNil)))) (tCall (gl K c d) [] E0 (tCons (tVar 0) (tCons (tVar 1) (tCons (tVar 2) tNil)))) (tLst tNil)) (gName 3))
  (ge K c d))
theorem wd{bs:List Addr}{v0:Option V}(X:IsBk H B bs Ms Mm)(q1:Mm=[]->∀ H',Same H H'->Q .non H')(q2:∀ th r b M H',Mm=th::r->Same H H'->b∈bs->M∈Ms->IsTh H' b M th.t th.r th.z th.s th.ms->Q (.ref b) H'):
  ge K c d (eD9 Q) [v0,v1,v2,some (.ref B)] H:=by
 unfold ge;symm;refine⟨aR (by decide),fun E hE=>?_⟩;obtain⟨H4,z9,s4,eE⟩:=aY (.lst []) hE;rw[z9];have X4:=X.same s4;refine E5 X4 eE ?_
 match Mm,X4 with
 | [],X4=>
  rw[Mv (show([]:List Tho).length=0 from rfl)];refine⟨_,rfl,iteF ?_⟩;exact q1 rfl _ s4
 | th::r,X4=>
  rw[Mu (by simp)];refine⟨_,rfl,iteT ?_⟩;have l1:=X4.len;have l2:=X4.lnM;rw[M3] at l1 l2;have e1:bs[0]? =some bs[0]:=Mt (by omega);have e2:Ms[0]? =some Ms[0]:=Mt (by omega);refine ixL X4.top (v:=V.ref bs[0]) (dJ (j:=0) (by rw[MA,e1];rfl)) ?_;exact q2 th r bs[0] Ms[0] _ rfl s4 (MT _) (MT _) (X4.at_ 0 _ _ th e1 e2 rfl)
theorem we(h:dt K c d vs H Q E):jP K c d (eD9 Q) (start ["puzzle","masks","kinds","found"] vs) H:=by
 obtain⟨P,L,G,A,Kd,h,w,g,Mf,cl,Mc,ks,rfl,X,hK,q1,q2⟩:=h;show jP K c d _ [some (.ref P),some (.ref A),some (.ref Kd),none] H;unfold jP;symm;refine⟨A,Mc,rfl,X.A,?_⟩;unfold ntF at q1 q2;by_cases h0:(0:Int)∈Mc
 . rw[MU h0] at q1;rw[Mv h0];refine⟨true,rfl,iteF ?_⟩;refine⟨aR (by decide),fun B hB=>?_⟩;obtain⟨H1,z9,s1,eB⟩:=aY (.lst []) hB;rw[z9];exact wd (IsBk.nil eB) (fun _ H' s'=>q1 rfl H' (s1.trans s')) (fun th r b M H' e=>by cases e)
 . rw[MP h0] at q1 q2;rw[Mu h0];refine⟨false,rfl,iteT ?_⟩;refine⟨P,L,G,A,Kd,h,w,g,Mf,cl,Mc,ks,rfl,X,hK,fun B bs Ms H1 s1 hB hb hM bk=>?_⟩;refine wd bk (fun e H' s'=>q1 (by rw[e];rfl) H' (s1.trans s')) (fun th r b M H' e s' hb' hM' Th=>?_);exact q2 th b M H' (by rw[e];rfl) (s1.trans s') (hb b hb') (hM M hM') Th
def OkT(h w g:Int)(Mf:List RR)(cl:List Int)(ks:List TK)(m:List Int)(th:Tho):Prop:=0∉m/\th.t∈ks/\(0<=th.z/\th.z<h*w)/\(1<=th.s/\th.s<=g)/\stB (m.getD th.z.toNat 0) th.s=true/\alwA h w g Mf cl m th.t th.r th.z th.s th.ms=true
def Wlk(h w g:Int)(Mf:List RR)(cl:List Int)(ks:List TK):List Int->List Tho->List Int->Prop
 | m,[],m'=>m=m'
 | m,th::r,m'=>OkT h w g Mf cl ks m th/\Wlk h w g Mf cl ks (stL m th.z th.s) r m'
theorem Wlk.trans{h w g:Int}{Mf:List RR}{cl:List Int}{ks:List TK}:∀{a b:List Tho} {m m1 m2:List Int},Wlk h w g Mf cl ks m a m1->Wlk h w g Mf cl ks m1 b m2->Wlk h w g Mf cl ks m (a++b) m2
 | [],_,_,_,_,h1,h2=>by cases (show _=_ from h1);exact h2
 | _::_,_,_,_,_,h1,h2=>⟨h1.1,Wlk.trans h1.2 h2⟩
theorem Wlk.snoc{a:List Tho}{m m1:List Int}{th:Tho}(h1:Wlk h w g Mf cl ks m a m1)(h2:OkT h w g Mf cl ks m1 th):Wlk h w g Mf cl ks m (a++[th]) (stL m1 th.z th.s):=h1.trans ⟨h2,rfl⟩
theorem Iu:stB 0 s=false:=by
 unfold stB;rw[show Builtin.Int.intBits 0=0 from rfl]
 cases h1:decide (1<=s) with
 | false=>rfl
 | true=>
  have:=MG h1;rw[Mu (show ¬ s<=((0:Nat):Int) by omega)];rfl
theorem Iv(f:formB h w g Mf t r z s=true)(e:faF h w g Mf cl Mc t r z s=some ms):alwA h w g Mf cl Mc t r z s ms=true:=by
 unfold alwA;rw[f,MR];unfold faF at e;exact List.find?_some e
theorem uP{h w g:Int}{Mf:List RR}{cl:List Int}{ks:List TK}{t:TK}{r z:Int}{n:Nat}{m0:List Int}(g0:1<=g)(g6:g<=6)(tk:t∈ks)(hn:n=(h*w).toNat)(f:∀ s,1<=s->s<=g->formB h w g Mf t r z s=true):
  ∀(ss:List Int) (nb:List Int × List Tho),ss.Nodup->(∀ s∈ss,(1<=s/\s<=g)/\stB (nb.1.getD z.toNat 0) s=true)->MkP g n nb.1->(∀ k,k<n->(k:Int)≠z->nb.1.getD k 0≠0)->Wlk h w g Mf cl ks m0 nb.2 nb.1->
  Wlk h w g Mf cl ks m0 (ss.foldl (fbS h w g Mf cl t r z) nb).2 (ss.foldl (fbS h w g Mf cl t r z) nb).1/\MkP g n (ss.foldl (fbS h w g Mf cl t r z) nb).1
 | [],nb,_,_,M,_,W=>⟨W,M⟩
 | s::ss,nb,nd,hs,M,nz,W=>by
  have p64:=kN g0 g6;have h1:=hs s MD;have zf:=dY (f 1 (by decide) g0);have ml:=M.len;have mz:=M.mm _ (kr (k:=z.toNat) (ms:=nb.1) (by omega));rw[Nm] at nd;rw[NJ]
  have no0:(0:Int)∉nb.1:=fun h0=>by
   obtain⟨k,hk,e⟩:=NY.mp h0;have ek:nb.1.getD k 0=0:=by rw[List.getD,Mt hk,e];rfl
   by_cases kz:(k:Int)=z
   . have:z.toNat=k:=by omega
     rw[this,ek,Iu] at h1;cases h1.2
   . exact nz k (by omega) kz ek
  have hst:=AI (s:=s) mz.1 (by omega) h1.1.1 (by omega)
  cases e:faF h w g Mf cl nb.1 t r z s with
  | none=>
   have e2:fbS h w g Mf cl t r z nb s=nb:=by unfold fbS;rw[e]
   rw[e2];exact uP g0 g6 tk hn f ss nb nd.2 (fun x hx=>hs x (MI _ hx)) M nz W
  | some ms=>
   have e2:fbS h w g Mf cl t r z nb s=(stL nb.1 z s,nb.2++[⟨t,r,z,s,ms⟩]):=by unfold fbS;rw[e]
   rw[e2];refine uP g0 g6 tk hn f ss _ nd.2 (fun x hx=>?_) (M.stL g0 g6 h1.1.1 (by omega)) (fun k hk kz=>?_) ?_
   . have hx2:=hs x (MI _ hx);refine⟨hx2.1,?_⟩;show stB ((stL nb.1 z s).getD z.toNat 0) x=true;rw[EZ (by omega),MU (by omega),hst.2.1 x hx2.1.1 (by omega) (fun e'=>nd.1 (e' ▸ hx))];exact hx2.2
   . show(stL nb.1 z s).getD k 0≠0;rw[EZ (by omega),MP kz];exact nz k hk kz
   . exact W.snoc (th:=⟨t,r,z,s,ms⟩) ⟨no0,tk,⟨zf.1,zf.2.1⟩,h1.1,h1.2,Iv (f s h1.1.1 h1.1.2) e⟩
theorem AM{h w g:Int}{Mf:List RR}{cl:List Int}{ks:List TK}{t:TK}{r:Int}{n:Nat}{m0:List Int}(g0:1<=g)(g6:g<=6)(tk:t∈ks)(hn:n=(h*w).toNat):
  ∀(zs:List Int) (nb:List Int × List Tho),(∀ z∈zs,∀ s,1<=s->s<=g->formB h w g Mf t r z s=true)->0∉nb.1->MkP g n nb.1->Wlk h w g Mf cl ks m0 nb.2 nb.1->∃ m',Wlk h w g Mf cl ks m0 (fbL h w g Mf cl t r zs nb) m'
 | [],nb,_,_,_,W=>⟨_,W⟩
 | z::zs,nb,f,h0,M,W=>by
  have zf:=dY (f z MD 1 (by decide) g0);have ml:=M.len;have p64:=kN g0 g6;have mz:=M.mm _ (kr (k:=z.toNat) (ms:=nb.1) (by omega));have c:=uP (cl:=cl) g0 g6 tk hn (f z MD) (sgL (nb.1.getD z.toNat 0)) nb (Il _) (fun s hs=>⟨EY g0 g6 mz.1 mz.2 hs,(sZ mz.1 s).mp hs⟩) M (fun k hk _ e=>h0 (by rw[← e];exact kr (by omega))) W;unfold fbL
  split
  . exact⟨_,c.1⟩
  . rename_i hn0
    exact AM g0 g6 tk hn zs _ (fun z hz=>f z (MI _ hz)) hn0 c.2 c.1
theorem AN{c:RCl RK}{h w g:Int}{Mf:List RR}{cl:List Int}{ks:List TK}{t:TK}{Mc:List Int}(R:g7 c h w g Mf)(tk:t∈ks)(M:MkP g (h*w).toNat Mc)(h0:0∉Mc):∀ rs:List Int,(∀ r∈rs,RuOk Mf t r)->∃ m',Wlk h w g Mf cl ks Mc (ffR h w g Mf cl Mc t rs) m'
 | [],_=>⟨_,rfl⟩
 | r::rs,ok=>by
  unfold ffR
  split
  . exact AN R tk M h0 rs fun r hr=>ok r (MI _ hr)
  . exact AM R.F.g0 R.F.g1 tk rfl _ (Mc,[]) (fun z hz s s0 s1=>AJ R (ok r MD) hz s0 s1) h0 M rfl
theorem AO(R:g7 c h w g Mf)(M:MkP g (h*w).toNat Mc)(h0:0∉Mc):∃ m',Wlk h w g Mf cl ks Mc (ffF h w g Mf cl Mc ks) m':=by
 have go:∀ ts:List TK,(∀ t∈ts,t∈ks)->∃ m',Wlk h w g Mf cl ks Mc (ffT h w g Mf cl Mc ts) m':=fun ts=>by
  induction ts with
  | nil=>exact fun _=>⟨_,rfl⟩
  | cons t ts ih=>
   intro ht;unfold ffT
   split
   . exact ih fun t h=>ht t (MI _ h)
   . exact AN R (ht t MD) M h0 _ fun r hr=>Gc hr
 exact go _ fun t ht=>MG (MK.mp ht).2
def btA(ms:List Int):Nat:=(ms.map fun m=>(sgL m).length).sum
theorem AQ(f:Int->Nat):∀(ms:List Int) (k:Nat) (x:Int),k<ms.length->((ms.set k x).map f).sum+f (ms.getD k 0)=(ms.map f).sum+f x
 | [],_,_,h=>by simp at h
 | m::r,0,x,_=>by simp;omega
 | m::r,k+1,x,h=>by
  have ih:=AQ f r k x (by simpa using h);simp only[List.set_cons_succ,M4,N9,List.getD_cons_succ];omega
theorem G4(z0:0<=z):stL ms z s=ms.set z.toNat (woI (ms.getD z.toNat 0) s):=by
 refine N1 fun i=>?_;unfold stL;rw[MA,List.getElem?_set];by_cases hi:i<ms.length
 . rw[Ny hi];show some (if (i:Int)=z then woI (ms.getD i 0) s else ms.getD i 0)=_;by_cases e:z.toNat=i
   . rw[MU (by omega),MU e,MU (by omega),e]
   . rw[MP (by omega),MP e,List.getD,Mt hi];rfl
 . rw[M7 (by rw[Nv];omega)]
   split
   . rw[MP (by omega)];rfl
   . rw[M7 (by omega)];rfl
theorem OkT.bits{m:List Int}{th:Tho}(X:OkT h w g Mf cl ks m th)(M:MkP g (h*w).toNat m)(g0:1<=g)(g6:g<=6):btA (stL m th.z th.s)+1=btA m:=by
 obtain⟨_,_,z,s,st,_⟩:=X;have p64:=kN g0 g6;have ml:=M.len;have mz:=M.mm _ (kr (k:=th.z.toNat) (ms:=m) (by omega));have a:=(AI (s:=th.s) mz.1 (by omega) s.1 (by omega)).2.2 st;have b:=AQ (fun m=>(sgL m).length) m th.z.toNat (woI (m.getD th.z.toNat 0) th.s) (by omega);unfold btA;rw[G4 z.1]
 try dsimp only at b
 omega
abbrev runA(m:List Int)(Mm:List Tho):List Int:=Mm.foldl (fun m th=>stL m th.z th.s) m
theorem Wlk.run{h w g:Int}{Mf:List RR}{cl:List Int}{ks:List TK}:∀{a:List Tho} {m m':List Int},Wlk h w g Mf cl ks m a m'->m'=runA m a
 | [],_,_,h=>(show _=_ from h).symm
 | th::r,m,m',h=>Wlk.run (a:=r) h.2
theorem Wlk.pre{h w g:Int}{Mf:List RR}{cl:List Int}{ks:List TK}:∀{a b:List Tho} {m m':List Int},Wlk h w g Mf cl ks m (a++b) m'->Wlk h w g Mf cl ks m a (runA m a)/\Wlk h w g Mf cl ks (runA m a) b m'
 | [],_,_,_,h=>⟨rfl,h⟩
 | th::r,b,m,m',h=>⟨⟨h.1,(Wlk.pre (a:=r) h.2).1⟩,(Wlk.pre (a:=r) h.2).2⟩
theorem Wlk.okM{h w g:Int}{Mf:List RR}{cl:List Int}{ks:List TK}(g0:1<=g)(g6:g<=6):∀{a:List Tho} {m m':List Int},Wlk h w g Mf cl ks m a m'->MkP g (h*w).toNat m->MkP g (h*w).toNat m'/\btA m'+a.length=btA m
 | [],_,_,h,M=>by cases (show _=_ from h);exact⟨M,by simp⟩
 | th::r,m,m',h,M=>by
  have s:=h.1.2.2.2.1;have b:=h.1.bits M g0 g6;have:=Wlk.okM g0 g6 (a:=r) h.2 (M.stL g0 g6 s.1 (by omega));refine⟨this.1,?_⟩;rw[M3];omega
theorem Iw(g0:1<=g)(g6:g<=6)(M:MkP g n ms)(hn:n<=16):btA ms<=96:=by
 have p64:=kN g0 g6
 have go:∀ xs:List Int,(∀ m∈xs,0<=m/\m<64)->btA xs<=6*xs.length:=fun xs=>by
  induction xs with
  | nil=>exact fun _=>MW _
  | cons x r ih=>
   intro hx;have a:=ih fun m hm=>hx m (MI _ hm);have b:=hx x MD;have c:=AK b.1 b.2;unfold btA at a ⊢;rw[M4,N9,M3];omega
 have:=go ms fun m hm=>by have:=M.mm m hm;omega
 have:=M.len;omega
inductive Go(h w g:Int)(Mf:List RR)(cl:List Int)(ks:List TK)(m0:List Int):List Tho->List Int->Prop
 | nil:Go h w g Mf cl ks m0 [] m0
 | step {b:List Tho} {m:List Int}:Go h w g Mf cl ks m0 b m->0∉m->ffF h w g Mf cl m ks≠[]->Go h w g Mf cl ks m0 (b++ffF h w g Mf cl m ks) (runA m (ffF h w g Mf cl m ks))
inductive ThR(h w g:Int)(Mf:List RR)(cl:List Int)(ks:List TK):List Int->List Tho->List Int->Prop
 | stop {m:List Int}:(0∈m\/ffF h w g Mf cl m ks=[])->ThR h w g Mf cl ks m [] m
 | go {m:List Int} {r:List Tho} {x:List Int}:0∉m->ffF h w g Mf cl m ks≠[]->ThR h w g Mf cl ks (runA m (ffF h w g Mf cl m ks)) r x->ThR h w g Mf cl ks m (ffF h w g Mf cl m ks++r) x
variable{b:List Tho}{m0:List Int}
theorem Go.th{m:List Int}(a:Go h w g Mf cl ks m0 b m):∀{r:List Tho} {x:List Int},ThR h w g Mf cl ks m r x->ThR h w g Mf cl ks m0 (b++r) x:=by
 induction a with
 | nil=>exact fun t=>t
 | step a n f ih=>
  intro r x t;rw[NL];exact ih (.go n f t)
abbrev End(h w g:Int)(Mf:List RR)(cl:List Int)(ks:List TK)(m:List Int):Prop:=0∈m\/ffF h w g Mf cl m ks=[]
theorem Go.full{m:List Int}(a:Go h w g Mf cl ks m0 b m)(e:End h w g Mf cl ks m):ThR h w g Mf cl ks m0 b m:=by
 have:=a.th (.stop e);rw[P1] at this;exact this
theorem ThR.empty{m:List Int}{a:List Tho}{x:List Int}(t:ThR h w g Mf cl ks m a x):a=[]↔End h w g Mf cl ks m:=by
 cases t with
 | stop e=>exact⟨fun _=>e,fun _=>rfl⟩
 | go n f _=>exact⟨fun e=>absurd (List.append_eq_nil_iff.mp e).1 f,fun e=>absurd e (fun e=>e.elim n f)⟩
theorem IsBk.keep{x:Addr}{bs:List Addr}{xs ys:List V}(X:IsBk H l bs Ms Mm)(hx:H x=some (.lst xs))(nl:l≠x)(nM:x∉Ms):IsBk (upd H x (.lst ys)) l bs Ms Mm:=
 ⟨by rw[aq nl];exact X.top,X.len,X.lnM,X.nl,fun i b M th h1 h2 h3=>by
  have z:=X.at_ i b M th h1 h2 h3;have nM':M≠x:=fun e=>nM (by rw[← e];exact Mz h2);exact⟨by rw[aq (fun e=>by have:=z.T;rw[e,hx] at this;cases this)];exact z.T,by rw[aq nM'];exact z.M,z.n⟩⟩
def ThkP(Q:VK)(H:Hp)(h w g:Int)(Mf:List RR)(cl Mc:List Int)(ks:List TK):Prop:=∀(T N B:Addr) (bs Ms:List Addr) (now:List Int) (Mm:List Tho) (H':Hp),Same H H'->H T=none->H N=none->H B=none->(∀ b∈bs,H b=none)->(∀ M∈Ms,H M=none)->H' T=some (.tup [.ref N,.ref B])->H' N=some (.lst (now.map V.int))->IsBk H' B bs Ms Mm->N≠B->Wlk h w g Mf cl ks Mc Mm now->(0∈now\/ffF h w g Mf cl now ks=[])->ThR h w g Mf cl ks Mc Mm now->Q (.ref T) H'
def uQ(K:Frag)(c:RCl RK)(d:RCl PzK):Sp:=fun vs H Q _=>∃(P L G A Kd:Addr) (h w g:Int) (Mf:List RR) (cl Mc:List Int) (ks:List TK),vs=[.ref P,.ref A,.ref Kd]/\Lk H c d P L G A h w g Mf cl Mc/\KdK K H Kd ks/\ThkP Q H h w g Mf cl Mc ks
def thin(K:Frag)(c:RCl RK)(d:RCl PzK):TS:=
 (tFor (iList K (tVar 5)) (gName 6)
  (tSeq (tDrop (tBM K "list" bo (tVar 4) (tCons (tVar 6) tNil)))
  (tAsg (tCall (nE K) [] E0 (tCons (tVar 3) (tCons (tOp cIx (tVar 6) (tC (.int 2))) (tCons (tOp cIx (tVar 6) (tC (.int 3))) tNil)))) (gName 3))))
def uR(K:Frag)(c:RCl RK)(d:RCl PzK):TS:=
 (tSeq (tAsg (tCB kList (tCons (tVar 1) tNil)) (gName 3))
  (tSeq (tAsg (tLst tNil) (gName 4))
  (tSeq (zL (tNot (tB (tCall (dq K) [] E0 (tCons (tVar 3) tNil))))
  (tSeq (tAsg (tCall (gl K c d) [] E0 (tCons (tVar 0) (tCons (tVar 3) (tCons (tVar 2) tNil)))) (gName 5))
  (tSeq (tIfS (tTest (tOp (cEq K) (tVar 5) (tLst tNil))) (tRet (tTup (tCons (tVar 3) (tCons (tVar 4) tNil)))) tNext)
  (thin K c d))))
  (tRet (tTup (tCons (tVar 3) (tCons (tVar 4) tNil)))))))
theorem G5 {N F:Addr} {bs bs2 Ms2:List Addr} {Mm m':_} {v6:Option V} (X:Fb H0 H c d P L G N B bs Ms h w g Mf cl nb) (fN:H0 N=none) (Y:IsBk H F bs2 Ms2 Mm) (nF:F≠B) (nM:B∉Ms2) (fb2:∀ b∈bs2,H0 b=none) (fM2:∀ M∈Ms2,H0 M=none) (W:Wlk h w g Mf cl ks nb.1 Mm m') (bl:nb.2.length+Mm.length<=96)
  (k:∀(N2:Addr) (v6:Option V) (H':Hp),Fb H0 H' c d P L G N2 B (bs++bs2) (Ms++Ms2) h w g Mf cl (m',nb.2++Mm)->H0 N2=none->D.nx [some (.ref P),v1,v2,some (.ref N2),some (.ref B),some (.ref F),v6] H'):
  thin K c d D [some (.ref P),v1,v2,some (.ref N),some (.ref B),some (.ref F),v6] H:=by
 have g0:=X.pz.R.F.g0;have g6:=X.pz.R.F.g1;have m16:=X.pz.R.F.m;have l1:=Y.len;have l2:=Y.lnM;unfold thin;symm;refine⟨⟨_,MO Y.top⟩,?_⟩
 refine bp (K:=K) (xs:=bs2.map V.ref) (fun i σ H'=>∃(N2:Addr) (v6:Option V),σ=[some (.ref P),v1,v2,some (.ref N2),some (.ref B),some (.ref F),v6]/\Fb H0 H' c d P L G N2 B (bs++bs2.take i) (Ms++Ms2.take i) h w g Mf cl (runA nb.1 (Mm.take i),nb.2++Mm.take i)/\H0 N2=none/\IsBk H' F bs2 Ms2 Mm)
  ⟨N,_,rfl,by simpa using X,fN,Y⟩ (fun i σ H' _ ⟨_,_,_,_,_,y⟩=>MO y.top) ?_ ?_
 . rintro i v σ H1 hv ⟨N2,v6,rfl,X1,fN2,Y1⟩;obtain⟨b,hb,rfl⟩:=bx hv;have hi:i<bs2.length:=(My.mp hb).1;have eM:Ms2[i]? =some Ms2[i]:=Mt (by omega);have et:Mm[i]? =some Mm[i]:=Mt (by omega);have Th:=Y1.at_ i b _ _ hb eM et;have hMm:Ms2[i]∈Ms2:=MT _;have tb:bs2.take (i+1)=bs2.take i++[b]:=by rw[NM,hb];rfl
   have tM:Ms2.take (i+1)=Ms2.take i++[Ms2[i]]:=by rw[NM,eM];rfl
   have tt:Mm.take (i+1)=Mm.take i++[Mm[i]]:=by rw[NM,et];rfl
   have W1:Wlk h w g Mf cl ks nb.1 (Mm.take i++Mm.drop i) m':=by rw[P8];exact W
   have W2:=W1.pre.2;rw[NW (show i<Mm.length by omega)] at W2;have ok:=W2.1;have M1:=X1.mp;dsimp only at M1;have tl:(Mm.take i).length<=Mm.length:=by rw[NO];omega
   generalize hM:Ms2[i]=M at*;generalize hth:Mm[i]=th at*;rw[tb,tM,tt];have er:runA nb.1 (Mm.take i++[th])=stL (runA nb.1 (Mm.take i)) th.z th.s:=by unfold runA;rw[Oh];rfl
   rw[er];generalize runA nb.1 (Mm.take i)=nw at*;have MB:M≠B:=fun e=>nM (e ▸ hMm);have bkl:=X1.bk.len;rw[M6] at bkl;symm;refine⟨bq X1.bk.top,?_⟩;rw[fP X1.bk.top];refine⟨by rw[Mr,X1.bk.len,M6];exact aK (by omega),?_⟩;have Bk:=X1.bk.app (th:=th) (Mw H1) Th MB;have s4:=X1.sm.own (o:=.lst ((bs++bs2.take i).map V.ref++[V.ref b])) X.fB;have n4:(upd H1 B (.lst ((bs++bs2.take i).map V.ref++[V.ref b]))) N2=some (.lst (nw.map V.int)):=by rw[aq X1.nB];exact X1.nw
   have Y4:=Y1.keep (ys:=(bs++bs2.take i).map V.ref++[V.ref b]) X1.bk.top nF nM;have Th4:=Y4.at_ i b M th hb (by rw[eM]) (by rw[et]);generalize upd H1 B (.lst ((bs++bs2.take i).map V.ref++[V.ref b]))=H4 at*;symm;refine ixT Th4.T (v:=V.int th.z) rfl ?_;symm;refine ixT Th4.T (v:=V.int th.s) rfl ?_;symm;have sb:=ok.2.2.2.1;refine⟨N2,nw,th.z,th.s,rfl,n4,by have:=M1.len;omega,by omega,fun N3 H5 s5 hN3 eN3=>?_⟩;refine⟨N3,_,rfl,⟨s4.trans s5,X.pz,eN3,M1.stL g0 g6 sb.1 (by omega),?_,fun e'=>?_,X.fB,fun x hx=>?_,fun x hx=>?_⟩,s4.free hN3,Y4.same s5⟩
   . have:=Bk.same s5;rw[NL,NL,NL] at this;exact this
   . rw[e',Bk.top] at hN3;cases hN3
   . rw[← NL] at hx;rcases M0.mp hx with hx | hx
     . exact X1.fb x hx
     . rw[MN.mp hx];exact fb2 b (Mz hb)
   . rw[← NL] at hx;rcases M0.mp hx with hx | hx
     . exact X1.fM x hx
     . rw[MN.mp hx];exact fM2 M hMm
 . rintro σ H1 ⟨N2,v6,rfl,X1,fN2,Y1⟩;rw[Mr,Nt,show bs2.length=Ms2.length by omega,Nt,show Ms2.length=Mm.length by omega,Nt] at X1;rw[← W.run] at X1;exact k N2 v6 H1 X1 fN2
theorem FT(h:uQ K c d vs H Q E):uR K c d (eD9 Q) (start ["puzzle","masks","kinds","now","book","found","thought"] vs) H:=by
 obtain⟨P,L,G,A,Kd,h,w,g,Mf,cl,Mc,ks,rfl,X,hK,q⟩:=h;have g0:=X.P.R.F.g0;have g6:=X.P.R.F.g1;have m16:=X.P.R.F.m;have b96:=Iw g0 g6 X.mkp (by omega);show uR K c d _ [some (.ref P),some (.ref A),some (.ref Kd),none,none,none,none] H;unfold uR;symm;refine mn X.A fun N hN=>?_;obtain⟨H1,z9,s1,eN⟩:=aY (.lst (Mc.map V.int)) hN;rw[z9];symm;refine⟨aR (by decide),fun B hB=>?_⟩;have s2:Same H1 (upd H1 B (.lst [])):=(Mw H1).laid hB;have eB:(upd H1 B (.lst [])) B=some (.lst []):=ak;have nNB:N≠B:=fun e=>by rw[e] at eN;rw[eN] at hB;cases hB
 generalize upd H1 B (.lst [])=H2 at*;have s12:=s1.trans s2;have X0:Fb H H2 c d P L G N B [] [] h w g Mf cl (Mc,[]):=⟨s12,X.P,s2 _ _ eN,X.mkp,IsBk.nil eB,nNB,s1.free hB,(fun b hb=>by cases hb),(fun b hb=>by cases hb)⟩
 refine⟨fun m σ H'=>∃(N:Addr) (bs Ms:List Addr) (v5 v6:Option V) (nb:List Int × List Tho),σ=[some (.ref P),some (.ref A),some (.ref Kd),some (.ref N),some (.ref B),v5,v6]/\Fb H H' c d P L G N B bs Ms h w g Mf cl nb/\H N=none/\Wlk h w g Mf cl ks Mc nb.2 nb.1/\Go h w g Mf cl ks Mc nb.2 nb.1/\m=btA nb.1,
  ⟨_,N,[],[],none,none,(Mc,[]),rfl,X0,hN,rfl,.nil,rfl⟩,?_⟩
 rintro m σ H3 ⟨N2,bs,Ms,v5,v6,nb,rfl,X3,fN,W,Gg,rfl⟩
 have ret:∀(H4:Hp),Same H3 H4->(0∈nb.1\/ffF h w g Mf cl nb.1 ks=[])->([V.ref N2,V.ref B]:List V).length<=sizeLine/\∀ p,H4 p=none->Q (.ref p) (upd H4 p (.tup [V.ref N2,V.ref B])):=fun H4 s4 hend=>by
  have X4:=X3.same s4;refine⟨lnR rfl,fun T hT=>?_⟩;have s5:Same H4 (upd H4 T (.tup [V.ref N2,V.ref B])):=(Mw H4).laid hT;exact q T N2 B bs Ms nb.1 nb.2 _ (X4.sm.trans s5) (X4.sm.free hT) fN X3.fB X3.fb X3.fM ak (s5 _ _ X4.nw) (X4.bk.same s5) X3.nB W hend (Gg.full hend)
 have ob:=W.okM g0 g6 X.mkp;symm;refine⟨N2,nb.1,rfl,X3.nw,?_⟩;by_cases h0:(0:Int)∈nb.1
 . rw[Mv h0];refine⟨true,rfl,iteF ?_⟩;symm;exact ret H3 (Mw _) (.inl h0)
 . rw[Mu h0];refine⟨false,rfl,iteT ?_⟩
   refine⟨fun σ H'=>∃(N:Addr) (bs Ms:List Addr) (v5 v6:Option V) (nb2:List Int × List Tho),σ=[some (.ref P),some (.ref A),some (.ref Kd),some (.ref N),some (.ref B),v5,v6]/\Fb H H' c d P L G N B bs Ms h w g Mf cl nb2/\H N=none/\Wlk h w g Mf cl ks Mc nb2.2 nb2.1/\Go h w g Mf cl ks Mc nb2.2 nb2.1/\btA nb2.1<btA nb.1,
    fun σ' H' ⟨N',bs',Ms',v5',v6',nb',e,X',fN',W',G',lt⟩=>⟨_,lt,N',bs',Ms',v5',v6',nb',e,X',fN',W',G',rfl⟩,?_⟩
   symm;refine⟨P,L,G,N2,Kd,h,w,g,Mf,cl,nb.1,ks,rfl,X3.lk,hK.same X3.sm,fun F bs2 Ms2 H4 s4 hF hb2 hM2 Y=>?_⟩;obtain⟨m',W2⟩:=AO (cl:=cl) (ks:=ks) X.P.R X3.mp h0;symm;rw[aA];symm;refine⟨aR (by decide),fun E hE=>?_⟩;obtain⟨H5,z9,s5,eE⟩:=aY (.lst []) hE;rw[z9];have s45:=s4.trans s5;refine AL (Y.same s5) eE ?_;by_cases hl:(ffF h w g Mf cl nb.1 ks).length=0
   . rw[Mv hl];refine⟨_,rfl,iteT ?_⟩;symm;exact ret H5 s45 (.inr (OK.mp hl))
   . rw[Mu hl];refine⟨_,rfl,iteF ?_⟩;have ob2:=W2.okM g0 g6 X3.mp;have X5:=X3.same s45;have nF:F≠B:=fun e=>by rw[e,X3.bk.top] at hF;cases hF
     have nM:B∉Ms2:=fun hm=>by have:=hM2 B hm;rw[X3.bk.top] at this;cases this
     refine G5 X5 fN (Y.same s5) nF nM (fun b hb=>X3.sm.free (hb2 b hb)) (fun M hM=>X3.sm.free (hM2 M hM)) W2 (by omega) fun N3 v6 H6 X6 fN3=>?_;exact⟨N3,_,_,_,_,_,rfl,X6,fN3,W.trans W2,(by have:=Go.step Gg h0 (fun e=>hl (by rw[e];rfl));rw[← W2.run] at this;exact this),by show btA m'<btA nb.1;omega⟩
structure FU(H:Hp)(f C:Addr)(fl:List Int)(cs:List Nat):Prop where
 f:H f=some (.lst (fl.map V.int))
 C:H C=some (.lst ((cs.map fun(n:Nat)=>(n:Int)).map V.int))
 lt:∀ c∈cs,c<fl.length
 len:cs.length<=16
 sg:∀ x∈fl,1<=x/\x<=6
abbrev iN(cs:List Nat):List Int:=cs.map fun(n:Nat)=>(n:Int)
variable{cs:List Nat}
theorem AR{c:Int}(h:c∈iN cs):0<=c/\c.toNat∈cs:=by
 obtain⟨n,hn,rfl⟩:=MJ.mp h;exact⟨by omega,by rw[NU];exact hn⟩
def ku(K:Frag):Sp:=fun vs H Q _=>∃(f C:Addr) (fl:List Int) (cs:List Nat),vs=[.ref f,.ref C]/\FU H f C fl cs/\Q (.int (seenN (sgAt fl (iN cs))).2) H
def kx(K:Frag):TS:=
 (tSeq (tAsg (tC (.int 0)) (gName 2))
  (tSeq (tAsg (tC (.int 0)) (gName 3))
  (tSeq (tFor (iList K (tVar 1)) (gName 4)
  (tSeq (tAsg (tOp cAdd (tVar 2) (tCB np (tCons (tOp (cCmp fun i j=>decide (j<i)) (tOp cIx (tVar 0) (tVar 4)) (tVar 3)) tNil))) (gName 2))
  (tAsg (tCB kMax (tCons (tVar 3) (tCons (tOp cIx (tVar 0) (tVar 4)) tNil))) (gName 3))))
  (tRet (tVar 2)))))
theorem BW(h:xs[i]? =some x):seenN (xs.take (i+1))=if (seenN (xs.take i)).1<x then(x,(seenN (xs.take i)).2+1) else seenN (xs.take i):=by
 unfold seenN;rw[OB,h,Oh];rfl
theorem xH(h:ku K vs H Q E):kx K (eD9 Q) (start ["_law_filling","_law_cells_here","_law_count","_law_highest","_law_cell"] vs) H:=by
 obtain⟨f,C,fl,cs,rfl,X,q⟩:=h;show kx K _ [some (.ref f),some (.ref C),none,none,none] H;unfold kx;symm;refine⟨⟨_,MO X.C⟩,?_⟩;refine bp (K:=K) (xs:=(iN cs).map V.int) (fun i σ H'=>H'=H/\∃ v4:Option V,σ=[some (.ref f),some (.ref C),some (.int (seenN ((sgAt fl (iN cs)).take i)).2),some (.int (seenN ((sgAt fl (iN cs)).take i)).1),v4]) ⟨rfl,none,rfl⟩ (fun i σ H' _ ⟨e,_⟩=>by rw[e];exact MO X.C) ?_ ?_
 . rintro i v σ H1 hv ⟨rfl,v4,rfl⟩;obtain⟨c,hc,rfl⟩:=aQ hv;have cm:=AR (Mz hc);have cl:=X.lt _ cm.2;have hx:(sgAt fl (iN cs))[i]? =some (fl.getD c.toNat 0):=by unfold sgAt;rw[MA,hc];rfl
   rw[BW hx];generalize seenN ((sgAt fl (iN cs)).take i)=p at*;symm;refine ixI X.f cm.1 (by omega) ?_;symm;refine ixI X.f cm.1 (by omega) ?_;symm;refine⟨trivial,some (V.int c),?_⟩;by_cases h0:p.1<fl.getD c.toNat 0
   . rw[MU h0,Mv h0,MU (show fl.getD c.toNat 0>p.1 from h0)];rfl
   . rw[MP h0,Mu h0,MP (show ¬ fl.getD c.toNat 0>p.1 from h0)];show _=[some (V.ref f),some (V.ref C),some (V.int p.2),some (V.int p.1),some (V.int c)];simp
 . rintro σ H1 ⟨rfl,v4,rfl⟩;symm;rw[Mr,show(iN cs).length=(sgAt fl (iN cs)).length by unfold sgAt;simp,Nt];exact q
def Chn(b:Bool)(fl:List Int)(ds:List Nat):Prop:=if b=true then risB (sgAt fl (iN ds))=true else(sgAt fl (iN ds)).Nodup
def fK(K:Frag):Sp:=fun vs H Q _=>∃(f C:Addr) (fl:List Int) (cs:List Nat) (b:Bool),vs=[.ref f,.ref C,.bl b]/\FU H f C fl cs/\∀(l:Addr) (ds:List Nat) (H':Hp),Same H H'->H l=none->H' l=some (.lst ((iN ds).map V.int))->ds.Sublist cs->(cs≠[]->ds≠[])->Chn b fl ds->Q (.ref l) H'
def FV(K:Frag):TS:=
 (tIfS (tOr (tTest (tOp (cEq K) (tCB kLen (tCons (tVar 3) tNil)) (tC (.int 0)))) (tOr (tAnd (tB (tVar 2)) (tTest (tOp (cCmp fun i j=>decide (j<i)) (tOp cIx (tVar 0) (tVar 4)) (tOp cIx (tVar 5) (tUn (rU fun i=>.int (-i)) (tC (.int 1))))))) (tAnd (tNot (tB (tVar 2))) (tTest (tOp (cIn K true) (tOp cIx (tVar 0) (tVar 4)) (tVar 5)))))) (tDrop (tBM K "list" bo (tVar 3) (tCons (tVar 4) tNil))) tNext)
def jQ(K:Frag):TS:=
 (tSeq (tAsg (tLst tNil) (gName 3))
  (tSeq (tFor (iList K (tVar 1)) (gName 4)
  (tSeq (sComp 5 [none,none,some 0] (iList K (tVar 3)) (gName 1) tTrue (tOp cIx (tVar 2) (tVar 1)))
  (FV K)))
  (tRet (tVar 3))))
theorem AS:∀{xs:List Int} {x:Int},risB xs=true->(∀ y,xs.getLast? =some y->y<x)->risB (xs++[x])=true
 | [],_,_,_=>rfl
 | [y],x,_,h=>by
  show(decide (y<x)&&risB [x])=true;rw[Mv (h y rfl)];rfl
 | y::z::r,x,h1,h2=>by
  have e:risB (y::z::r)=(decide (y<z)&&risB (z::r)):=rfl;rw[e,MH] at h1;show(decide (y<z)&&risB (z::r++[x]))=true;rw[h1.1,AS h1.2 (fun u hu=>h2 u (by rw[List.getLast?_cons_cons];exact hu))];rfl
theorem yB(fl:List Int)(ds:List Nat)(n:Nat):sgAt fl (iN (ds++[n]))=sgAt fl (iN ds)++[fl.getD n 0]:=by
 unfold sgAt iN;simp
variable{fl:List Int}
theorem G6 {R S:Addr} {ds:List Nat} {b:Bool} (ef:H f=some (.lst (fl.map V.int))) (eR:H R=some (.lst ((iN ds).map V.int))) (eS:H S=some (.lst ((sgAt fl (iN ds)).map V.int))) (hl:ds.length<=16) (hn:n<fl.length) (hC:Chn b fl ds)
  (k1:Chn b fl (ds++[n])->D.nx [some (.ref f),v1,some (.bl b),some (.ref R),some (.int (n:Int)),some (.ref S)] (upd H R (.lst ((iN (ds++[n])).map V.int))))
  (k2:ds≠[]->D.nx [some (.ref f),v1,some (.bl b),some (.ref R),some (.int (n:Int)),some (.ref S)] H):
  FV K D [some (.ref f),v1,some (.bl b),some (.ref R),some (.int (n:Int)),some (.ref S)] H:=by
 have app:Chn b fl (ds++[n])->tyV K "list" (V.ref R) H/\bo (V.ref R) [V.int (n:Int)] H fun x H1=>D.nx [some (.ref f),v1,some (.bl b),some (.ref R),some (.int (n:Int)),some (.ref S)] H1:=fun c=>⟨bq eR,by
  rw[fP eR];exact⟨by rw[Mr,Mr];exact aK (by omega),by have:=k1 c;unfold iN at this ⊢;rw[OG,OG] at this;exact this⟩⟩
 have sl:(sgAt fl (iN ds)).length=ds.length:=by unfold sgAt iN;simp
 unfold FV;rw[aA];symm;rw[bc eR];symm;by_cases h0:ds=[]
 . rw[MU (by rw[h0];rfl)];refine app ?_;rw[h0];unfold Chn;cases b <;> simp[sgAt,risB,iN]
 . have dp:0<ds.length:=List.length_pos_iff.mpr h0;rw[MP (by simp[h0])];have la:atI ((sgAt fl (iN ds)).map V.int) (-1)=some (V.int ((sgAt fl (iN ds)).getD ((sgAt fl (iN ds)).length-1) 0)):=vR (by omega);have ef':∀ Q':VK,Q' (.int (fl.getD n 0)) H->cIx (.ref f) (.int (n:Int)) H Q':=fun Q' q'=>ixI ef (by omega) (by omega) (by rw[NU];exact q')
   cases b with
   | true=>
    refine iteT (ef' _ ?_);refine ixL eS la ?_;symm;by_cases h1:(sgAt fl (iN ds)).getD ((sgAt fl (iN ds)).length-1) 0<fl.getD n 0
    . rw[MU (Mv h1)];refine app ?_;unfold Chn at hC ⊢;rw[MU rfl] at hC ⊢;rw[yB];refine AS hC fun y hy=>?_;rw[List.getLast?_eq_getElem?] at hy;rw[List.getD,hy] at h1;exact h1
    . rw[MP (by rw[Mu h1];decide)];exact k2 h0
   | false=>
    refine iteF (iteT (ef' _ ?_));rw[lR eS];by_cases h1:fl.getD n 0∈sgAt fl (iN ds)
    . rw[Mv h1];exact⟨_,rfl,iteF (k2 h0)⟩
    . rw[Mu h1];refine⟨_,rfl,iteT (app ?_)⟩;unfold Chn at hC ⊢;rw[MP (by decide)] at hC ⊢;rw[yB,Of];exact⟨hC,List.pairwise_singleton _ _,fun a ha b hb e=>h1 (by rw[← MN.mp hb,← e];exact ha)⟩
theorem wf(h:fK K vs H Q E):jQ K (eD9 Q) (start ["_law_answer","_law_cells_here","_law_strictly","_law_some","_law_cell","_law_signs"] vs) H:=by
 obtain⟨f,C,fl,cs,b,rfl,X,q⟩:=h;show jQ K _ [some (.ref f),some (.ref C),some (.bl b),none,none,none] H;unfold jQ;symm;refine⟨aR (by decide),fun R hR=>?_⟩;obtain⟨H1,z9,s1,eR⟩:∃ z,upd H R (.lst [])=z/\Same H z/\z R=some (.lst ((iN []).map V.int)):=aY _ hR;rw[z9];refine⟨⟨_,MO (s1 _ _ X.C)⟩,?_⟩;have c0:Chn b fl []:=by unfold Chn;cases b <;> simp[sgAt,risB]
 refine bp (K:=K) (xs:=(iN cs).map V.int) (fun i σ H'=>∃(v4 v5:Option V) (ds:List Nat),σ=[some (.ref f),some (.ref C),some (.bl b),some (.ref R),v4,v5]/\Same H H'/\H' R=some (.lst ((iN ds).map V.int))/\ds.Sublist (cs.take i)/\(0<i->ds≠[])/\Chn b fl ds) ⟨none,none,[],rfl,s1,eR,List.nil_sublist _,fun h=>absurd h (NS _),c0⟩ (fun i σ H' _ ⟨_,_,_,_,s,_⟩=>MO (s _ _ X.C)) ?_ ?_
 . rintro i v σ H2 hv ⟨v4,v5,ds,rfl,s2,e2,sub,ne,hC⟩;obtain⟨c,hc,rfl⟩:=aQ hv
   have hcn:∃ n,cs[i]? =some n/\c=(n:Int):=by
    unfold iN at hc;rw[MA] at hc;obtain⟨n,hn,rfl⟩:=NT.mp hc;exact⟨n,hn,rfl⟩
   obtain⟨n,hn,rfl⟩:=hcn;have dl:ds.length<=16:=ML sub.length_le (by rw[NO];have:=X.len;omega);have dlt:∀ x∈ds,x<fl.length:=fun x hx=>X.lt x (List.mem_of_mem_take (sub.subset hx));symm;refine⟨⟨_,MO e2⟩,?_⟩;refine aX (fun _=>true) (fun x=>fl.getD x.toNat 0) (by unfold iN;rw[Mr];omega) (MO e2) ?_ ?_ ?_
   . intro x H4 R4 hx s4 k4;exact k4 _ (Mw _)
   . intro x H4 Q4 hx hb4 s4 k4;show tOp cIx _ _ [none,some (.int x),some (.ref f)] H4 Q4;symm;have xm:=AR hx;exact ixI (s4 _ _ (s2 _ _ X.f)) xm.1 (by have:=dlt _ xm.2;omega) (k4 _ (Mw _))
   . intro S H3 hS s3 eS;have eS:H3 S=some (.lst ((sgAt fl (iN ds)).map V.int)):=by rw[Oi.mpr (fun _ _=>rfl)] at eS;exact eS
     have s23:=s2.trans s3;have tk:cs.take (i+1)=cs.take i++[n]:=by rw[OB,hn];rfl
     refine G6 (s23 _ _ X.f) (s3 _ _ e2) eS dl (X.lt n (Mz hn)) hC (fun c=>?_) (fun h0=>?_)
     . exact⟨_,_,ds++[n],rfl,s23.own hR,ak,by rw[tk];exact sub.append (List.Sublist.refl _),fun _=>by simp,c⟩
     . exact⟨_,_,ds,rfl,s23,s3 _ _ e2,sub.trans (by rw[tk];exact List.sublist_append_left _ _),fun _=>h0,hC⟩
 . rintro σ H2 ⟨v4,v5,ds,rfl,s2,e2,sub,ne,hC⟩;rw[Mr,Mr] at ne;rw[Mr,Mr,Nt] at sub;symm;exact q R ds H2 s2 hR e2 sub (fun h=>ne (by cases cs with | nil=>exact absurd rfl h | cons _ _=>simp)) hC
structure Ln58(K:Frag)(H:Hp)(c:RCl RK)(a p f:Addr)(ns:List Int)(h w g:Int)(fl:List Int):Prop where
 S:SqL K H a (ns.map V.int)
 n:ns.length<=63
 p:IsFl H p h w g
 F:FlOk h w g
 m1:1<=h*w
 f:H f=some (.lst (fl.map V.int))
 fll:fl.length=(h*w).toNat
 sg:∀ x∈fl,1<=x/\x<=g
 hk:∀ k,k≠.Rule->c.ok k=true
theorem Ln58.same(X:Ln58 K H c a p f ns h w g fl)(s:Same H H'):Ln58 K H' c a p f ns h w g fl:=⟨s.seq X.S,X.n,s _ _ X.p,X.F,X.m1,s _ _ X.f,X.fll,X.sg,X.hk⟩
def kO(h w g:Int)(fl:List Int)(r:RR):Prop:=r.Ok h w g/\hoB r.k h w r.cs r.n r.m fl=true
def ky(K:Frag)(c:RCl RK):Sp:=fun vs H Q _=>∃(a p f:Addr) (ns:List Int) (at_ h w g:Int) (fl:List Int),vs=[.ref a,.int at_,.ref p,.ref f]/\Ln58 K H c a p f ns h w g fl/\0<=at_/\at_<=900/\∀(r:RR) (H':Hp),Same H H'->kO h w g fl r->Q (.str r.txt) H'
def gf(K:Frag)(c:RCl RK):TS:=
 (tRet (tOp cAdd (tOp cAdd (tOp cAdd (tC (.str (tx [115,117,109,32]))) (tCB kStr (tCons (tCB kSum (tCons (tComp [none,none,some 3] (iList K (tVar 6)) (gName 1) tTrue (tOp cIx (tVar 2) (tVar 1))) tNil)) tNil))) (tC (.str (tx [32])))) (tVar 9)))
def gF(K:Frag)(c:RCl RK):TS:=
 (tSeq (tIfS (tTest (tOp (cEq K) (tOp cMod (tVar 4) (tC (.int 8))) (tC (.int 4)))) (tRet (tOp cAdd (tOp cAdd (tOp cAdd (tOp cAdd (tOp cAdd (tC (.str (tx [99,111,117,110,116,32]))) (tCB kStr (tCons (tCB kLen (tCons (tComp [none,none,some 3,some 7] (iList K (tVar 6)) (gName 1) (tTest (tOp (cEq K) (tCB kStr (tCons (tOp cIx (tVar 2) (tVar 1)) tNil)) (tVar 3))) (tVar 1)) tNil)) tNil))) (tC (.str (tx [32])))) (tVar 7)) (tC (.str (tx [32])))) (tVar 9))) tNext)
  (gf K c))
def gG(K:Frag)(c:RCl RK):TS:=
 (tSeq (tIfS (tTest (tOp (cEq K) (tOp cMod (tVar 4) (tC (.int 8))) (tC (.int 3)))) (tRet (tOp cAdd (tOp cAdd (tOp cAdd (tC (.str (tx [115,101,101,110,32]))) (tCB kStr (tCons (tCall (ku K) [] E0 (tCons (tVar 3) (tCons (tVar 6) tNil))) tNil))) (tC (.str (tx [32])))) (tVar 9))) tNext)
  (gF K c))
def gH(K:Frag)(c:RCl RK):TS:=
 (tSeq (tAsg (tBM K "str" kW (tC (.str (tx [32]))) (tCons (tComp [none,none] (iList K (tVar 6)) (gName 1) tTrue (tCB kStr (tCons (tVar 1) tNil))) tNil)) (gName 9))
  (gG K c))
def gI(K:Frag)(c:RCl RK):TS:=
 (tSeq (tIfS (tTest (tOp (cEq K) (tOp cMod (tVar 4) (tC (.int 8))) (tC (.int 2)))) (tSeq (tAsg (tCall (fK K) [] E0 (tCons (tVar 3) (tCons (tVar 6) (tCons (tC (.bl true)) tNil)))) (gName 6))
  (tRet (tOp cAdd (tC (.str (tx [114,105,115,105,110,103,32]))) (tBM K "str" kW (tC (.str (tx [32]))) (tCons (tComp [none,none] (iList K (tVar 6)) (gName 1) tTrue (tCB kStr (tCons (tVar 1) tNil))) tNil))))) tNext)
  (gH K c))
def gJ(K:Frag)(c:RCl RK):TS:=
 (tSeq (tIfS (tTest (tOp (cEq K) (tOp cMod (tVar 4) (tC (.int 8))) (tC (.int 1)))) (tSeq (tAsg (tCall (fK K) [] E0 (tCons (tVar 3) (tCons (tVar 6) (tCons (tC (.bl false)) tNil)))) (gName 6))
  (tRet (tOp cAdd (tC (.str (tx [117,110,108,105,107,101,32]))) (tBM K "str" kW (tC (.str (tx [32]))) (tCons (tComp [none,none] (iList K (tVar 6)) (gName 1) tTrue (tCB kStr (tCons (tVar 1) tNil))) tNil))))) tNext)
  (gI K c))
def gK(K:Frag)(c:RCl RK):TS:=
 (tSeq (tIfS (tTest (tOp (cIn K false) (tOp cMod (tVar 4) (tC (.int 8))) (tTup (tCons (tC (.int 5)) (tCons (tC (.int 6)) (tCons (tC (.int 7)) tNil)))))) (tSeq (tAsg (tOp cAdd (tOp cIx (tLst (tCons (tC (.str (tx [106,111,105,110,101,100,32]))) (tCons (tC (.str (tx [110,111,115,113,117,97,114,101,32]))) (tCons (tC (.str (tx [114,105,110,103,32]))) tNil)))) (tOp cSub (tOp cMod (tVar 4) (tC (.int 8))) (tC (.int 5)))) (tVar 7)) (gName 8))
  (tIfS (tB (aD c c.ok "holds" (cN K c) (tCall (ji K c) [] E0 (tCons (tVar 2) (tCons (tVar 8) tNil))) (tCons (tVar 3) tNil))) (tRet (tVar 8)) tNext)) tNext)
  (gJ K c))
def kA(K:Frag)(c:RCl RK):TS:=
 (tSeq (tAsg (tCall (bA K) [] E0 (tCons (tVar 0) (tCons (tVar 1) tNil))) (gName 4))
  (tSeq (tAsg (tOp cMul (tOp cIx (tVar 2) (tC (.int 0))) (tOp cIx (tVar 2) (tC (.int 1)))) (gName 5))
  (tSeq (tAsg (tCall (kc K) [] E0 (tCons (tVar 0) (tCons (tOp cAdd (tVar 1) (tC (.int 1))) (tCons (tVar 5) (tCons (tOp cAdd (tC (.int 1)) (tOp cMod (tOp cDiv (tVar 4) (tC (.int 8))) (tVar 5))) tNil))))) (gName 6))
  (tSeq (tAsg (tCB kStr (tCons (tOp cIx (tVar 3) (tOp cIx (tVar 6) (tC (.int 0)))) tNil)) (gName 7))
  (gK K c)))))
theorem zG{i:Int}(h0:0<=i)(h1:i<100):Str.ofString (toString i)=tx (numC i.toNat)/\i.natAbs.log2<1920:=by
 have e:i=((i.toNat:Nat):Int):=by omega
 have a:=xf (n:=i.toNat) (by omega);have b:=xt (n:=i.toNat) (by omega);rw[← e] at a b;exact⟨a,b⟩
variable{C:Addr}
theorem Ix{σ:St}(hi:σ[i]? =some (some (.ref C)))(hC:H C=some (.lst ((iN cs).map V.int)))(hl:cs.length<=16)(hc:∀ c∈cs,c<100)(q:∀ H',Same H H'->Q (.str (tx (catL 32 (cs.map numC)))) H'):tBM K "str" kW (tC (.str (tx [32]))) (tCons (tComp [none,none] (iList K (tVar i)) (gName 1) tTrue (tCB kStr (tCons (tVar 1) tNil))) tNil) σ H Q:=by
 simp only[gp,w_c,b9,dG,bD,F7];refine⟨zC,V.ref C,hi,C,rfl,⟨_,MO hC⟩,?_⟩;refine rz hC (by omega) hc fun l H1 hl s1 el=>?_
 refine xg el (mr (by simp;omega) (fun t ht=>by
  obtain⟨z,hz,rfl⟩:=MJ.mp ht;obtain⟨x,_,rfl⟩:=MJ.mp hz;rw[bN];exact ML dP (by decide)) (by rw[bN];decide)) ?_
 rw[uz,oW];exact q _ s1
structure Cs58(h w:Int)(cs:List Nat):Prop where
 ne:cs≠[]
 nd:cs.Nodup
 lt:∀ c∈cs,(c:Int)<h*w
 len:cs.length<=16
theorem Cs58.sub{ds:List Nat}(X:Cs58 h w cs)(s:ds.Sublist cs)(ne:ds≠[]):Cs58 h w ds:=⟨ne,X.nd.sublist s,fun c hc=>X.lt c (s.subset hc),ML s.length_le X.len⟩
theorem Cs58.lt100(X:Cs58 h w cs)(F:FlOk h w g):∀ c∈cs,c<100:=fun c hc=>by
 have:=X.lt c hc;have:=F.m;omega
theorem Cs58.ac(Y:Cs58 h w cs)(X:Ln58 K H c a p f ns h w g fl)(eC:H C=some (.lst ((iN cs).map V.int))):FU H f C fl cs:=⟨X.f,eC,fun c hc=>by have:=Y.lt c hc;have:=X.fll;omega,Y.len,fun x hx=>by have:=X.sg x hx;have:=X.F.g1;omega⟩
theorem Do(Y:Cs58 h w cs)(fll:fl.length=(h*w).toNat)(sg:∀ x∈fl,1<=x/\x<=g){x:Int}(hx:x∈iN cs):0<=x/\x<fl.length/\1<=fl.getD x.toNat 0/\fl.getD x.toNat 0<=g:=by
 have m:=AR hx;have l:=Y.lt _ m.2;have:x.toNat<fl.length:=by omega
 have e:fl.getD x.toNat 0=fl[x.toNat]:=by rw[List.getD,Mt this];rfl
 have:=sg _ (MT this);rw[e];omega
theorem wg{k:RK}{m:Nat}(F:FlOk h w g)(Y:Cs58 h w cs)(ha:allK k=false)(k0:k≠.Rule)(n0:n<=99)(nz:numK k=false->n=0)(m0:sgnK k=true->1<=(m:Int)/\(m:Int)<=g)(mz:sgnK k=false->m=0)(ho:hoB k h w (iN cs) n m fl=true):kO h w g fl ⟨k,n,m,cs,iN cs⟩:=⟨Dm F Y.ne Y.lt Y.nd Y.len ha k0 n0 nz m0 mz,ho⟩
theorem mR(h:cs≠[]):cs.map numC≠[]:=by simp[h]
theorem AT:∀(xs:List Int),(∀ x∈xs,0<=x/\x<=6)->0<=xs.sum/\xs.sum<=6*xs.length
 | [],_=>by simp
 | x::r,h=>by
  have a:=h x MD;have b:=AT r fun y hy=>h y (MI _ hy);rw[N9,M3];omega
theorem E6(xs:List Int):0<=(seenN xs).2/\(seenN xs).2<=xs.length:=by
 have go:∀(xs:List Int) (a:Int × Int),a.2<=(xs.foldl (fun a x=>if a.1<x then(x,a.2+1) else a) a).2/\(xs.foldl (fun a x=>if a.1<x then(x,a.2+1) else a) a).2<=a.2+xs.length:=fun xs=>by
  induction xs with
  | nil=>intro a;simp
  | cons x r ih=>
   intro a;rw[NJ,M3];have:=ih (if a.1<x then(x,a.2+1) else a);by_cases h:a.1<x
   . rw[if_pos h] at this ⊢;dsimp only at this;omega
   . rw[MP h] at this ⊢;omega
 have:=go xs (0,0);unfold seenN;dsimp only at this;omega
theorem zc{v4 v7:Option V}(X:Ln58 K H c a p f ns h w g fl)(Y:Cs58 h w cs)(eC:H C=some (.lst ((iN cs).map V.int)))(q:∀(r:RR) (H':Hp),Same H H'->kO h w g fl r->Q (.str r.txt) H'):
  gf K c (eD9 Q) [some (.ref a),v1,some (.ref p),some (.ref f),v4,v5,some (.ref C),v7,v8,some (.str (tx (catL 32 (cs.map numC))))] H:=by
 have g6:=X.F.g1;have cl:=Y.len;have jl:=hV cl;unfold gf;symm;refine⟨⟨_,MO eC⟩,?_⟩;refine aX (fun _=>true) (fun x=>fl.getD x.toNat 0) (by unfold iN;rw[Mr];omega) (MO eC) ?_ ?_ ?_
 . intro x H4 R4 hx s4 k4;exact k4 _ (Mw _)
 . intro x H4 Q4 hx hb4 s4 k4;show tOp cIx _ _ [none,some (.int x),some (.ref f)] H4 Q4;symm;have b:=Do Y X.fll X.sg hx;exact ixI (s4 _ _ X.f) b.1 b.2.1 (k4 _ (Mw _))
 . intro S H3 hS s3 eS;have eS:H3 S=some (.lst ((sgAt fl (iN cs)).map V.int)):=by rw[Oi.mpr (fun _ _=>rfl)] at eS;exact eS
   have bd:∀ x∈sgAt fl (iN cs),0<=x/\x<=6:=fun x hx=>by
    unfold sgAt at hx;obtain⟨z,hz,rfl⟩:=MJ.mp hx;have b:=Do Y X.fll X.sg hz;omega
   have sl:(sgAt fl (iN cs)).length=cs.length:=by unfold sgAt iN;simp
   have sb:=AT _ bd;symm;refine zD eS (fun x hx=>by have:=bd x hx;omega) (by omega) ?_;have s99:(sgAt fl (iN cs)).sum<100:=by omega
   generalize hsm:(sgAt fl (iN cs)).sum=sm at*;have t:=zG (i:=sm) sb.1 s99;symm;rw[t.1];simp only[oV];have ln:(numC sm.toNat).length<=2:=dP;have sz:∀ x y:List Nat,x.length+y.length<=1000->(tx x).length+(tx y).length<=sizeLine:=fun x y h=>by rw[bN,bN];exact aR h
   refine⟨t.2,sz _ _ (by simp;omega),sz _ _ (by simp;omega),sz _ _ (by simp;omega),?_⟩
   have e:[115,117,109,32]++numC sm.toNat++[32]++catL 32 (cs.map numC)=catL 32 (rowW .Sum sm.toNat 0 cs):=by
    show _=catL 32 (nmC .Sum::numC sm.toNat::cs.map numC);rw[dw (by simp),dw (mR Y.ne),show nmC .Sum=[115,117,109] from rfl];simp
   rw[e];refine q ⟨.Sum,sm.toNat,0,cs,iN cs⟩ H3 s3 (wg X.F Y rfl (by decide) (by omega) (fun e=>by cases e) (fun e=>by cases e) (fun _=>rfl) ?_);show decide ((sgAt fl (iN cs)).sum=((sm.toNat:Nat):Int))=true;rw[Mx,hsm];omega
theorem E7:((List.range 7).all fun a=>(List.range 7).all fun b=>decide (decide (tx (numC a)=tx (numC b))=decide (a=b)))=true:=by decide+kernel
theorem E8{a b:Int}(a0:0<=a)(ha:a<=6)(b0:0<=b)(hb:b<=6):decide (tx (numC a.toNat)=tx (numC b.toNat))=decide (a=b):=by
 have t:=MG (MC.mp (MC.mp E7 a.toNat (MF.mpr (by omega))) b.toNat (MF.mpr (by omega)));rw[t,MZ,Mx,Mx];omega
theorem AU(X:Ln58 K H c a p f ns h w g fl)(Y:Cs58 h w cs)(eC:H C=some (.lst ((iN cs).map V.int)))(m0:1<=m)(m1:m<=g)(q:∀(r:RR) (H':Hp),Same H H'->kO h w g fl r->Q (.str r.txt) H'):
  gF K c (eD9 Q) [some (.ref a),v1,some (.ref p),some (.ref f),some (.int y),v5,some (.ref C),some (.str (tx (numC m.toNat))),v8,some (.str (tx (catL 32 (cs.map numC))))] H:=by
 have g6:=X.F.g1;have cl:=Y.len;have jl:=hV cl;unfold gF;rw[aE,aA];symm;refine⟨by decide,?_⟩;by_cases h4:y%8=4
 . rw[Mv h4];refine iteT ?_;refine⟨⟨_,MO eC⟩,?_⟩;refine aX (fun x=>decide (fl.getD x.toNat 0=m)) (fun x=>x) (by unfold iN;rw[Mr];omega) (MO eC) ?_ ?_ ?_
   . intro x H4 R4 hx s4 k4;show tTest _ [none,some (.int x),some (.ref f),some (.str (tx (numC m.toNat)))] H4 R4;symm;have b:=Do Y X.fll X.sg hx;refine ixI (s4 _ _ X.f) b.1 b.2.1 ?_;have t:=zG (i:=fl.getD x.toNat 0) (by omega) (by omega);symm;rw[t.1];refine⟨t.2,?_⟩;symm;rw[E8 (by omega) (by omega) (by omega) (by omega)];exact k4 _ (Mw _)
   . intro x H4 Q4 hx hb4 s4 k4;show tVar 1 [none,some (.int x),some (.ref f),some (.str (tx (numC m.toNat)))] H4 Q4;symm;exact k4 _ (Mw _)
   . intro S H3 hS s3 eS;have eS:H3 S=some (.lst ((mkAt fl (iN cs) m).map V.int)):=by rw[NN] at eS;exact eS
     have sl:(mkAt fl (iN cs) m).length<=cs.length:=by unfold mkAt;have:=MM (fun c=>decide (fl.getD c.toNat 0=m)) (iN cs);unfold iN at this ⊢;rw[Mr] at this;exact this
     symm;rw[bc eS,Mr];generalize hN:(mkAt fl (iN cs) m).length=N at*;symm;rw[xf (show N<100 by omega)];simp only[oV];have ln:(numC N).length<=2:=dP;have lm:(numC m.toNat).length<=2:=dP;have sz:∀ x y:List Nat,x.length+y.length<=1000->(tx x).length+(tx y).length<=sizeLine:=fun x y h=>by rw[bN,bN];exact aR h
     refine⟨xt (by omega),sz _ _ (by simp;omega),sz _ _ (by simp;omega),sz _ _ (by simp;omega),sz _ _ (by simp;omega),sz _ _ (by simp;omega),?_⟩
     have e:[99,111,117,110,116,32]++numC N++[32]++numC m.toNat++[32]++catL 32 (cs.map numC)=catL 32 (rowW .Count N m.toNat cs):=by
      show _=catL 32 (nmC .Count::numC N::numC m.toNat::cs.map numC);rw[dw (by simp),dw (by simp),dw (mR Y.ne),show nmC .Count=[99,111,117,110,116] from rfl];simp
     rw[e];refine q ⟨.Count,N,m.toNat,cs,iN cs⟩ H3 s3 (wg X.F Y rfl (by decide) (by omega) (fun e=>by cases e) (fun _=>by omega) (fun e=>by cases e) ?_);show decide (((mkAt fl (iN cs) ((m.toNat:Nat):Int)).length:Int)=(N:Int))=true;rw[show((m.toNat:Nat):Int)=m by omega,hN,Mv rfl]
 . rw[Mu h4];refine iteF ?_;symm;exact zc X Y eC q
theorem AV(X:Ln58 K H c a p f ns h w g fl)(Y:Cs58 h w cs)(eC:H C=some (.lst ((iN cs).map V.int)))(m0:1<=m)(m1:m<=g)(q:∀(r:RR) (H':Hp),Same H H'->kO h w g fl r->Q (.str r.txt) H'):
  gG K c (eD9 Q) [some (.ref a),v1,some (.ref p),some (.ref f),some (.int y),v5,some (.ref C),some (.str (tx (numC m.toNat))),v8,some (.str (tx (catL 32 (cs.map numC))))] H:=by
 have cl:=Y.len;have jl:=hV cl;unfold gG;rw[aE,aA];symm;refine⟨by decide,?_⟩;by_cases h3:y%8=3
 . rw[Mv h3];refine iteT ?_;refine⟨f,C,fl,cs,rfl,Y.ac X eC,?_⟩;have sb:=E6 (sgAt fl (iN cs));have sl:(sgAt fl (iN cs)).length=cs.length:=by unfold sgAt iN;simp
   generalize hsm:(seenN (sgAt fl (iN cs))).2=sm at*;have t:=zG (i:=sm) sb.1 (by omega);symm;rw[t.1];simp only[oV];have ln:(numC sm.toNat).length<=2:=dP;have sz:∀ x y:List Nat,x.length+y.length<=1000->(tx x).length+(tx y).length<=sizeLine:=fun x y h=>by rw[bN,bN];exact aR h
   refine⟨t.2,sz _ _ (by simp;omega),sz _ _ (by simp;omega),sz _ _ (by simp;omega),?_⟩
   have e:[115,101,101,110,32]++numC sm.toNat++[32]++catL 32 (cs.map numC)=catL 32 (rowW .Seen sm.toNat 0 cs):=by
    show _=catL 32 (nmC .Seen::numC sm.toNat::cs.map numC);rw[dw (by simp),dw (mR Y.ne),show nmC .Seen=[115,101,101,110] from rfl];simp
   rw[e];refine q ⟨.Seen,sm.toNat,0,cs,iN cs⟩ H (Mw _) (wg X.F Y rfl (by decide) (by omega) (fun e=>by cases e) (fun e=>by cases e) (fun _=>rfl) ?_);show decide ((seenN (sgAt fl (iN cs))).2=((sm.toNat:Nat):Int))=true;rw[Mx,hsm];omega
 . rw[Mu h3];refine iteF ?_;symm;exact AU X Y eC m0 m1 q
theorem AW(X:Ln58 K H c a p f ns h w g fl)(Y:Cs58 h w cs)(eC:H C=some (.lst ((iN cs).map V.int)))(m0:1<=m)(m1:m<=g)(q:∀(r:RR) (H':Hp),Same H H'->kO h w g fl r->Q (.str r.txt) H'):
  gH K c (eD9 Q) [some (.ref a),v1,some (.ref p),some (.ref f),some (.int y),v5,some (.ref C),some (.str (tx (numC m.toNat))),v8,none] H:=by
 unfold gH;rw[aE,bI];refine Ix rfl eC Y.len (Y.lt100 X.F) fun H1 s1=>?_;symm;exact AV (X.same s1) Y (s1 _ _ eC) m0 m1 fun r H' s' R=>q r H' (s1.trans s') R
theorem AX(X:Ln58 K H c a p f ns h w g fl)(Y:Cs58 h w cs)(eC:H C=some (.lst ((iN cs).map V.int)))(m0:1<=m)(m1:m<=g)(q:∀(r:RR) (H':Hp),Same H H'->kO h w g fl r->Q (.str r.txt) H'):
  gI K c (eD9 Q) [some (.ref a),v1,some (.ref p),some (.ref f),some (.int y),v5,some (.ref C),some (.str (tx (numC m.toNat))),v8,none] H:=by
 unfold gI;rw[aE,aA];symm;refine⟨by decide,?_⟩;by_cases h2:y%8=2
 . rw[Mv h2];refine iteT ?_;refine⟨f,C,fl,cs,true,rfl,Y.ac X eC,fun D ds H1 s1 hD eD sub ne hC=>?_⟩;have Y1:=Y.sub sub (ne Y.ne);have jl:=hV Y1.len;have eD:H1 D=some (.lst ((ds.map fun(n:Nat)=>(n:Int)).map V.int)):=eD;symm;refine⟨zC,⟨_,MO eD⟩,?_⟩;refine rz eD (by have:=Y1.len;omega) (Y1.lt100 X.F) fun l H2 hl s2 el=>?_
   refine xg el (mr (by have:=Y1.len;simp;omega) (fun t ht=>by
    obtain⟨z,hz,rfl⟩:=MJ.mp ht;obtain⟨x,_,rfl⟩:=MJ.mp hz;rw[bN];exact ML dP (by decide)) (by rw[bN];decide)) ?_
   rw[uz,oW];refine strL (a:=[114,105,115,105,110,103,32]) (b:=catL 32 (ds.map numC)) (by simp) (by omega) ?_
   have e:[114,105,115,105,110,103,32]++catL 32 (ds.map numC)=catL 32 (rowW .Rising 0 0 ds):=by
    show _=catL 32 (nmC .Rising::ds.map numC);rw[dw (mR Y1.ne),show nmC .Rising=[114,105,115,105,110,103] from rfl];simp
   rw[e];refine q ⟨.Rising,0,0,ds,iN ds⟩ H2 (s1.trans s2) (wg X.F Y1 rfl (by decide) (by decide) (fun _=>rfl) (fun e=>by cases e) (fun _=>rfl) ?_);unfold Chn at hC;rw[MU rfl] at hC;exact hC
 . rw[Mu h2];refine iteF ?_;symm;exact AW X Y eC m0 m1 q
theorem rR(X:Ln58 K H c a p f ns h w g fl)(Y:Cs58 h w cs)(eC:H C=some (.lst ((iN cs).map V.int)))(m0:1<=m)(m1:m<=g)(q:∀(r:RR) (H':Hp),Same H H'->kO h w g fl r->Q (.str r.txt) H'):
  gJ K c (eD9 Q) [some (.ref a),v1,some (.ref p),some (.ref f),some (.int y),v5,some (.ref C),some (.str (tx (numC m.toNat))),v8,none] H:=by
 unfold gJ;rw[aE,aA];symm;refine⟨by decide,?_⟩;by_cases h2:y%8=1
 . rw[Mv h2];refine iteT ?_;refine⟨f,C,fl,cs,false,rfl,Y.ac X eC,fun D ds H1 s1 hD eD sub ne hC=>?_⟩;have Y1:=Y.sub sub (ne Y.ne);have jl:=hV Y1.len;have eD:H1 D=some (.lst ((ds.map fun(n:Nat)=>(n:Int)).map V.int)):=eD;symm;refine⟨zC,⟨_,MO eD⟩,?_⟩;refine rz eD (by have:=Y1.len;omega) (Y1.lt100 X.F) fun l H2 hl s2 el=>?_
   refine xg el (mr (by have:=Y1.len;simp;omega) (fun t ht=>by
    obtain⟨z,hz,rfl⟩:=MJ.mp ht;obtain⟨x,_,rfl⟩:=MJ.mp hz;rw[bN];exact ML dP (by decide)) (by rw[bN];decide)) ?_
   rw[uz,oW];refine strL (a:=[117,110,108,105,107,101,32]) (b:=catL 32 (ds.map numC)) (by simp) (by omega) ?_
   have e:[117,110,108,105,107,101,32]++catL 32 (ds.map numC)=catL 32 (rowW .Unlike 0 0 ds):=by
    show _=catL 32 (nmC .Unlike::ds.map numC);rw[dw (mR Y1.ne),show nmC .Unlike=[117,110,108,105,107,101] from rfl];simp
   rw[e];refine q ⟨.Unlike,0,0,ds,iN ds⟩ H2 (s1.trans s2) (wg X.F Y1 rfl (by decide) (by decide) (fun _=>rfl) (fun e=>by cases e) (fun _=>rfl) ?_);unfold Chn at hC;rw[MP (by decide)] at hC;exact Mv ((uE _).mpr hC)
 . rw[Mu h2];refine iteF ?_;symm;exact AX X Y eC m0 m1 q
theorem FW{j:Int}(j0:0<=j)(j1:j<3):∃ k:RK,k≠.Rule/\allK k=true/\numK k=false/\sgnK k=true/\(nmC k).length<=10/\atI [V.str (tx [106,111,105,110,101,100,32]),V.str (tx [110,111,115,113,117,97,114,101,32]),V.str (tx [114,105,110,103,32])] j=some (V.str (tx (nmC k++[32]))):=by
 have e:j=0\/j=1\/j=2:=by omega
 rcases e with rfl | rfl | rfl
 . exact⟨.Joined,by decide,rfl,rfl,rfl,by decide,rfl⟩
 . exact⟨.NoSquare,by decide,rfl,rfl,rfl,by decide,rfl⟩
 . exact⟨.Ring,by decide,rfl,rfl,rfl,by decide,rfl⟩
theorem AY(X:Ln58 K H c a p f ns h w g fl)(Y:Cs58 h w cs)(eC:H C=some (.lst ((iN cs).map V.int)))(m0:1<=m)(m1:m<=g)(q:∀(r:RR) (H':Hp),Same H H'->kO h w g fl r->Q (.str r.txt) H'):
  gK K c (eD9 Q) [some (.ref a),v1,some (.ref p),some (.ref f),some (.int y),v5,some (.ref C),some (.str (tx (numC m.toNat))),none,none] H:=by
 have g6:=X.F.g1;have hn:(numC m.toNat).length<=2:=dP;unfold gK;rw[aE,aA];symm;refine⟨by decide,lnR rfl,fun U hU=>?_⟩;have s1:Same H (upd H U (.tup (([5,6,7]:List Int).map V.int))):=(Mw H).laid hU;have eU:(upd H U (.tup (([5,6,7]:List Int).map V.int))) U=some (.tup (([5,6,7]:List Int).map V.int)):=ak;show cIn K false (V.int (y%8)) (V.ref U) (upd H U (.tup (([5,6,7]:List Int).map V.int))) _;generalize upd H U (.tup (([5,6,7]:List Int).map V.int))=H1 at*;rw[EK eU];have X1:=X.same s1;by_cases h5:y%8∈([5,6,7]:List Int)
 . rw[Mv h5];refine⟨true,rfl,iteT ?_⟩;have b:5<=y%8/\y%8<8:=by simp only[MS,NP,O5] at h5;omega
   obtain⟨k,k0,ka,kn,ks,kl,ek⟩:=FW (j:=y%8-5) (by omega) (by omega);symm;refine⟨lnR rfl,fun U2 hU2=>?_⟩;refine⟨by decide,?_⟩;obtain⟨H2,z9,s2,e2⟩:=aY (.lst [V.str (tx [106,111,105,110,101,100,32]),V.str (tx [110,111,115,113,117,97,114,101,32]),V.str (tx [114,105,110,103,32])]) hU2;rw[z9];refine ixL e2 ek ?_;refine strL (by simp;omega) (by omega) ?_
   have e:nmC k++[32]++numC m.toNat=catL 32 (rowW k 0 m.toNat []):=by
    unfold rowW;rw[kn,ks];show _=nmC k++32::numC m.toNat;simp
   rw[e];have s12:=s1.trans s2;have X2:=X.same s12;have Ok:RR.Ok ⟨k,0,m.toNat,[],rngL 0 (h*w)⟩ h w g:=EJ ka k0 kn ks (by omega) (by omega);symm;rw[aA,w_b];unfold aD;symm;refine⟨k,p,h,w,g,0,m.toNat,[],rngL 0 (h*w),rfl,X2.p,X.F,Ok,X.hk k k0,fun r H3 s3 hr xr=>?_⟩;obtain⟨dx,W,C2,h1,h2,h3⟩:=xr.ex;have s13:=s12.trans s3;have X3:=X.same s13;refine⟨r,k,dx,_,rfl,xr.ok,h1,by rfl,?_⟩;symm;refine⟨r,p,f,_,_,fl,_,_,h,w,g,rfl,xr,X3.p,X.F,X3.f,by rw[X.fll];exact O7 Ok X.F,fun x hx=>by have:=X.sg x hx;omega,fun H4 s4=>?_⟩;have s14:=s13.trans s4
   cases hb:hoB k h w (rngL 0 (h*w)) ((0:Nat):Int) ((m.toNat:Nat):Int) fl with
   | true=>
    refine⟨true,rfl,iteT ?_⟩;symm;exact q ⟨k,0,m.toNat,[],rngL 0 (h*w)⟩ H4 s14 ⟨Ok,hb⟩
   | false=>
    refine⟨false,rfl,iteF ?_⟩;symm;exact rR (X.same s14) Y (s14 _ _ eC) m0 m1 fun r H' s' R=>q r H' (s14.trans s') R
 . rw[Mu h5];refine⟨false,rfl,iteF ?_⟩;symm;exact rR X1 Y (s1 _ _ eC) m0 m1 fun r H' s' R=>q r H' (s1.trans s') R
theorem xI(h:ky K c vs H Q E):kA K c (eD9 Q) (start ["_law_script","_law_at","_law_floor","_law_answer","_law_number","_law_many","_law_cells_here","_law_sign","_law_line_here","_law_told"] vs) H:=by
 obtain⟨a,p,f,ns,at_,h,w,g,fl,rfl,X,a0,a9,q⟩:=h;have m16:=X.F.m;have m1:=X.m1;have g6:=X.F.g1;show kA K c _ [some (.ref a),some (.int at_),some (.ref p),some (.ref f),none,none,none,none,none,none] H;unfold kA;symm;refine⟨a,ns,at_,rfl,X.S,X.n,a0,by omega,?_⟩;generalize ce ns at_=y at*;symm;refine ixT X.p (v:=V.int h) rfl ?_;symm;refine ixT X.p (v:=V.int w) rfl ?_;symm;have b0:=NV (y/8) (show h*w≠0 by omega);have b1:=NH (y/8) (show 0<h*w by omega);refine⟨no X.F.h0 X.F.h1,⟨by decide,by decide⟩,by omega,?_⟩;refine⟨a,ns,at_+1,h*w,_,rfl,X.S,X.n,by omega,by omega,m16,by omega,by omega,fun C H1 cs s1 hC eC nd lt len=>?_⟩;have X1:=X.same s1;have ne:cs≠[]:=fun e=>by rw[e] at len;simp at len;omega
 have Y:Cs58 h w cs:=⟨ne,nd,lt,by omega⟩;obtain⟨n0,r0,ec⟩:∃ n0 r0,cs=n0::r0:=by cases cs with | nil=>exact absurd rfl ne | cons x r=>exact⟨x,r,rfl⟩
 symm;refine ixL eC (v:=V.int (n0:Int)) (dJ (j:=0) (by rw[ec];rfl)) ?_;have b:=Do Y X.fll X.sg (x:=(n0:Int)) (by rw[ec];exact MD);refine ixI X1.f b.1 b.2.1 ?_;have t:=zG (i:=fl.getD (n0:Int).toNat 0) (by omega) (by omega);symm;rw[t.1];exact⟨t.2,AY X1 Y eC b.2.2.1 b.2.2.2 fun r H' s' R=>q r H' (s1.trans s') R⟩
def Dp:List (Int × Int × Int)->(St->Hp->(List V->Hp->Prop)->Prop)
 | []=>tNil
 | p::r=>tCons (tTup (tCons (tC (.int p.1)) (tCons (tC (.int p.2.1)) (tCons (tC (.int p.2.2)) tNil)))) (Dp r)
theorem AZ{σ:St}:∀(ps:List (Int × Int × Int)) (H:Hp) (Q:List V->Hp->Prop),(∀(as:List Addr) (H':Hp),Same H H'->as.length=ps.length->(∀(j:Nat) (a:Addr) (p:Int × Int × Int),as[j]? =some a->ps[j]? =some p->H' a=some (.tup [.int p.1,.int p.2.1,.int p.2.2]))->Q (as.map V.ref) H')->Dp ps σ H Q
 | [],H,Q,h=>h [] H (Mw H) rfl fun j a p e _=>by simp at e
 | p::r,H,Q,h=>by
  unfold Dp;symm;refine⟨lnR rfl,fun t ht=>?_⟩;obtain⟨H1,z9,s1,et⟩:=aY (.tup [V.int p.1,V.int p.2.1,V.int p.2.2]) ht;rw[z9];refine AZ r H1 _ fun as H2 s2 hl ha=>?_;refine h (t::as) H2 (s1.trans s2) (by simp[hl]) fun j a q e1 e2=>?_
  match j,e1,e2 with
  | 0,e1,e2=>
   simp at e1 e2;subst e1 e2;exact s2 _ _ et
  | j+1,e1,e2=>exact ha j a q (by simpa using e1) (by simpa using e2)
def fl58:List (Int × Int × Int):=[(2,2,2),(2,2,3),(1,3,3),(1,4,2),(1,4,3),(2,3,2),(1,5,2)]
theorem G7:∀ p∈fl58,1<=p.1/\p.1<=6/\1<=p.2.1/\p.2.1<=6/\1<=p.1*p.2.1/\p.1*p.2.1<=6/\2<=p.2.2/\p.2.2<=3:=by decide
structure Dq(c:RCl RK)(h w g:Int)(fl:List Int)(Mf:List RR):Prop where
 F:FlOk h w g
 m1:1<=h*w
 m6:h*w<=6
 g2:2<=g
 g3:g<=3
 fll:fl.length=(h*w).toNat
 sg:∀ x∈fl,1<=x/\x<=g
 R:g7 c h w g Mf
 n3:Mf.length<=3
 ho:∀ r∈Mf,hoB r.k h w r.cs r.n r.m fl=true
def jR(K:Frag)(c:RCl RK):Sp:=fun vs H Q _=>∃(a:Addr) (ns:List Int),vs=[.ref a]/\SqL K H a (ns.map V.int)/\ns.length<=63/\(∀ k,k≠.Rule->c.ok k=true)/\
 ∀(T p L f:Addr) (h w g:Int) (fl:List Int) (Mf:List RR) (H':Hp),Same H H'->H T=none->H f=none->H L=none->H' T=some (.tup [.ref p,.ref L,.ref f])->IsFl H' p h w g->H' L=some (.lst ((Mf.map RR.txt).map V.str))->H' f=some (.lst (fl.map V.int))->Dq c h w g fl Mf->Q (.ref T) H'
def k9(K:Frag)(c:RCl RK):TS:=
 (tSeq (sComp 6 [none,none,some 5,some 2,some 0,some 4,some 3] (gi (tCons (tOp cMod (tOp cDiv (tVar 1) (tC (.int 7))) (tC (.int 4))) tNil)) (gName 1) tTrue (tCall (ky K c) [] E0 (tCons (tVar 4) (tCons (tOp cAdd (tC (.int 420)) (tOp cMul (tC (.int 20)) (tVar 1))) (tCons (tTup (tCons (tVar 3) (tCons (tVar 6) (tCons (tVar 5) tNil)))) (tCons (tVar 2) tNil))))))
  (tRet (tTup (tCons (tTup (tCons (tVar 2) (tCons (tVar 3) (tCons (tVar 4) tNil)))) (tCons (tVar 6) (tCons (tVar 5) tNil))))))
def gg(K:Frag)(c:RCl RK):TS:=
 (tSeq (tAsg (tComp [none,none,some 0,some 4] (gi (tCons (tOp cMul (tVar 2) (tVar 3)) tNil)) (gName 1) tTrue (tOp cAdd (tC (.int 1)) (tOp cMod (tCall (bA K) [] E0 (tCons (tVar 2) (tCons (tOp cAdd (tC (.int 410)) (tVar 1)) tNil))) (tVar 3)))) (gName 5))
  (k9 K c))
def lc(K:Frag)(c:RCl RK):TS:=
 (tSeq (tAsg (tOp cIx (tLst (tCons (tTup (tCons (tC (.int 2)) (tCons (tC (.int 2)) (tCons (tC (.int 2)) tNil)))) (tCons (tTup (tCons (tC (.int 2)) (tCons (tC (.int 2)) (tCons (tC (.int 3)) tNil)))) (tCons (tTup (tCons (tC (.int 1)) (tCons (tC (.int 3)) (tCons (tC (.int 3)) tNil)))) (tCons (tTup (tCons (tC (.int 1)) (tCons (tC (.int 4)) (tCons (tC (.int 2)) tNil)))) (tCons (tTup (tCons (tC (.int 1)) (tCons (tC (.int 4)) (tCons (tC (.int 3)) tNil)))) (tCons (tTup (tCons (tC (.int 2)) (tCons (tC (.int 3)) (tCons (tC (.int 2)) tNil)))) (tCons (tTup (tCons (tC (.int 1)) (tCons (tC (.int 5)) (tCons (tC (.int 2)) tNil)))) tNil)))))))) (tOp cMod (tVar 1) (tC (.int 7)))) (gTup K 3 (gCons (gName 2) (gCons (gName 3) (gCons (gName 4) gNil)))))
  (gg K c))
def jS(K:Frag)(c:RCl RK):TS:=
 (tSeq (tAsg (tCall (bA K) [] E0 (tCons (tVar 0) (tCons (tC (.int 400)) tNil))) (gName 1))
  (lc K c))
theorem BX {fin:Addr->Hp->Prop} (P:RR->Prop) (hn:n<=12)
  (he:∀ i H Q,i<n->Same H1 H->(∀(r:RR) (H':Hp),Same H H'->P r->Q (.str r.txt) H')->te (σ0.set 1 (some (.int (0+(i:Int))))) H Q)
  (hd:∀(l:Addr) (Mf:List RR) (H:Hp),H1 l=none->Same H1 H->H l=some (.lst ((Mf.map RR.txt).map V.str))->Mf.length=n->(∀ r∈Mf,P r)->fin l H):
  CompR (Itr 0 n) (gName 1) tTrue te fin σ0 H1:=by
 refine p6 (fun l i σ H=>(σ=σ0\/∃ cv,σ=σ0.set 1 cv)/\Same H1 H/\∃ Mf:List RR,H l=some (.lst ((Mf.map RR.txt).map V.str))/\Mf.length=i/\∀ r∈Mf,P r) (fun l hl=>⟨.inl rfl,(Mw H1).laid hl,[],by rw[ak];rfl,rfl,fun _ h=>nomatch h⟩) ?_ (fun l σ H hl ⟨_,s1,Mf,el,hl2,hP⟩=>hd l Mf H hl s1 el hl2 hP);rintro l i σ H hl hi ⟨hσ,s1,Mf,el,hl2,hP⟩;rw[bf]
 have e:σ.set 1 (some (.int (0+(i:Int))))=σ0.set 1 (some (.int (0+(i:Int)))):=by
  rcases hσ with rfl | ⟨cv,rfl⟩
  . rfl
  . exact N8 ..
 rw[e,cB,MU rfl];refine he i H _ hi s1 fun r H2 s2 hr=>⟨_,s2 _ _ el,by simp;exact aK (by omega),.inr ⟨_,rfl⟩,(s1.trans s2).own hl,Mf++[r],by rw[ak];simp,by simp[hl2],fun z hz=>?_⟩;rcases M0.mp hz with hz | hz
 . exact hP z hz
 . rw[MN.mp hz];exact hr
theorem zd (s0:Same H0 H) (hS:SqL K H a (ns.map V.int)) (hn:ns.length<=63) (hk:∀ k,k≠.Rule->c.ok k=true) (F:FlOk h w g) (m1:1<=h*w) (m6:h*w<=6) (g2:2<=g) (g3:g<=3)
  (q:∀(T p L f:Addr) (h w g:Int) (fl:List Int) (Mf:List RR) (H':Hp),Same H0 H'->H0 T=none->H0 f=none->H0 L=none->H' T=some (.tup [.ref p,.ref L,.ref f])->IsFl H' p h w g->H' L=some (.lst ((Mf.map RR.txt).map V.str))->H' f=some (.lst (fl.map V.int))->Dq c h w g fl Mf->Q (.ref T) H'):
  gg K c (eD9 Q) [some (.ref a),some (.int y),some (.int h),some (.int w),some (.int g),none,none] H:=by
 unfold gg;symm;refine⟨no F.h0 F.h1,_,rfl,by omega,by omega,?_⟩;refine oh (fun _=>true) (fun(i:Nat)=>1+ce ns (410+(i:Int))%g) (by omega) ?_ ?_ ?_
 . intro i H4 R4 hi s4 k4;exact k4 _ (Mw _)
 . intro i H4 Q4 hi hb4 s4 k4;have hi':i < (h*w).toNat:=hi;show tOp cAdd _ _ [none,some (.int (0+(i:Int))),some (.ref a),some (.int g)] H4 Q4;rw[Og];symm;refine⟨a,ns,_,rfl,s4.seq hS,hn,by omega,by omega,?_⟩;symm;exact⟨by omega,k4 _ (Mw _)⟩
 . intro f H1 hf s1 ef;rw[aZ] at ef;have fll:((List.range (h*w).toNat).map fun(i:Nat)=>1+ce ns (410+(i:Int))%g).length=(h*w).toNat:=by simp
   have sg:∀ x∈(List.range (h*w).toNat).map fun(i:Nat)=>1+ce ns (410+(i:Int))%g,1<=x/\x<=g:=fun x hx=>by
    obtain⟨i,_,rfl⟩:=MJ.mp hx;have b0:=NV (ce ns (410+(i:Int))) (show g≠0 by omega);have b1:=NH (ce ns (410+(i:Int))) (show 0<g by omega);omega
   generalize ((List.range (h*w).toNat).map fun(i:Nat)=>1+ce ns (410+(i:Int))%g)=fl at*;unfold k9;symm;have b0:=NV (y/7) (show(4:Int)≠0 by decide);have b1:=NH (y/7) (show(0:Int)<4 by decide);refine⟨⟨by decide,by decide⟩,by decide,_,rfl,by omega,by omega,?_⟩;generalize y/7%4=x at*;refine BX (kO h w g fl) (by omega) ?_ ?_
   . intro i H4 Q4 hi s4 k4;have hi':i<x.toNat:=hi;show tCall _ _ _ _ [none,some (.int (0+(i:Int))),some (.ref f),some (.int h),some (.ref a),some (.int g),some (.int w)] H4 Q4;rw[Og];symm;refine⟨.inl ⟨by decide,by decide⟩,lnR rfl,fun p hp=>?_⟩;have s5:Same H4 (upd H4 p (.tup [V.int h,V.int w,V.int g])):=(Mw H4).laid hp;have s45:=s4.trans s5;exact⟨a,p,f,ns,_,h,w,g,fl,rfl,⟨(s1.trans s45).seq hS,hn,ak,F,m1,s45 _ _ ef,fll,sg,hk⟩,by omega,by omega,fun r H' s' R=>k4 r H' (s5.trans s') R⟩
   . intro L Mf H2 hL s2 eL rl hP;have s12:=s1.trans s2;symm;refine⟨lnR rfl,fun p hp=>?_⟩;have s3:Same H2 (upd H2 p (.tup [V.int h,V.int w,V.int g])):=(Mw H2).laid hp;have ep:IsFl (upd H2 p (.tup [V.int h,V.int w,V.int g])) p h w g:=ak;generalize upd H2 p (.tup [V.int h,V.int w,V.int g])=H3 at*;refine⟨lnR rfl,fun T hT=>?_⟩;have s4:Same H3 (upd H3 T (.tup [V.ref p,V.ref L,V.ref f])):=(Mw H3).laid hT;have s34:=s3.trans s4;exact q T p L f h w g fl Mf _ ((s0.trans s12).trans s34) ((s0.trans s12).free (s3.free hT)) (s0.free hf) ((s0.trans s1).free hL) ak (s4 _ _ ep) (s34 _ _ eL) ((s2.trans s34) _ _ ef) ⟨F,m1,m6,g2,g3,fll,sg,⟨F,by omega,fun r hr=>(hP r hr).1,fun r hr=>hk _ (hP r hr).1.k0⟩,by omega,fun r hr=>(hP r hr).2⟩
theorem wj(h:jR K c vs H Q E):jS K c (eD9 Q) (start ["_law_script","_law_first","_law_high","_law_wide","_law_signs","_law_answer","_law_lines"] vs) H:=by
 obtain⟨a,ns,rfl,hS,hn,hk,q⟩:=h;show jS K c _ [some (.ref a),none,none,none,none,none,none] H;unfold jS;symm;refine⟨a,ns,400,rfl,hS,hn,by decide,by decide,?_⟩;generalize ce ns 400=y at*;unfold lc;rw[aE,bI,gn,dZ];refine AZ fl58 H _ fun as H1 s1 hl ha=>?_;have hl7:as.length=7:=hl;refine⟨by rw[Mr];exact aR (by omega),fun U hU=>?_⟩;obtain⟨H2,z9,s2,eU⟩:=aY (.lst (as.map V.ref)) hU;rw[z9];symm;refine⟨by decide,?_⟩;have j0:=NV y (show(7:Int)≠0 by decide);have j1:=NH y (show(0:Int)<7 by decide);have ej:y%7=(((y%7).toNat:Nat):Int):=by omega
 have hj:(y%7).toNat<fl58.length:=by show _<7;omega
 rw[ej];generalize (y%7).toNat=j at*;have ea:as[j]? =some (as[j]'(by omega)):=Mt (by omega);have ep:fl58[j]? =some fl58[j]:=Mt hj;have et:=ha j _ _ ea ep;have ok2:=G7 _ (MT hj);generalize fl58[j]=pr at*;refine ixL eU (v:=V.ref (as[j]'(by omega))) (dJ (by rw[MA,ea];rfl)) ?_;refine Ey (s2 _ _ et) rfl ?_;rw[Av];symm;exact zd (s1.trans s2) ((s1.trans s2).seq hS) hn hk ⟨ok2.1,ok2.2.1,ok2.2.2.1,ok2.2.2.2.1,by omega,by omega,by omega⟩ ok2.2.2.2.2.1 ok2.2.2.2.2.2.1 ok2.2.2.2.2.2.2.1 ok2.2.2.2.2.2.2.2 q
def dH(K:Frag):Sp:=fun vs H Q _=>∃(a p f:Addr) (ns:List Int) (at_ h w g:Int) (fl:List Int),vs=[.ref a,.int at_,.ref p,.ref f]/\SqL K H a (ns.map V.int)/\ns.length<=63/\0<=at_/\at_<=900/\IsFl H p h w g/\1<=g/\g<=6/\H f=some (.lst (fl.map V.int))/\fl.length<=16/\(∀ x∈fl,1<=x/\x<=g)/\
 ∀(l:Addr) (es:List Int) (H':Hp),Same H H'->H l=none->H' l=some (.lst (es.map V.int))->es.length=fl.length->(∀ x∈es,0<=x/\x<=g)->Q (.ref l) H'
def Dr(K:Frag):TS:=
 (tDrop (tBM K "list" bo (tVar 5) (tCons (tOp cMul (tVar 8) (tCB np (tCons (tOp (cCmp fun i j=>decide (i<j)) (tOp cMod (tOp cDiv (tVar 7) (tC (.int 15))) (tC (.int 4))) (tOp cIx (tLst (tCons (tC (.int 1)) (tCons (tC (.int 2)) (tCons (tC (.int 3)) (tCons (tC (.int 4)) tNil))))) (tOp cMod (tOp cDiv (tVar 4) (tC (.int 3))) (tC (.int 4))))) tNil))) tNil)))
def gL(K:Frag):TS:=
 (tSeq (tAsg (tCall (bA K) [] E0 (tCons (tVar 0) (tCons (tVar 1) tNil))) (gName 4))
  (tSeq (tAsg (tLst tNil) (gName 5))
  (tSeq (tFor (gi (tCons (tCB kLen (tCons (tVar 3) tNil)) tNil)) (gName 6)
  (tSeq (tAsg (tCall (bA K) [] E0 (tCons (tVar 0) (tCons (tOp cAdd (tOp cAdd (tVar 1) (tC (.int 1))) (tVar 6)) tNil))) (gName 7))
  (tSeq (tAsg (tOp cIx (tVar 3) (tVar 6)) (gName 8))
  (tSeq (tIfS (tAnd (tTest (tOp (cEq K) (tOp cMod (tVar 7) (tC (.int 5))) (tC (.int 0)))) (tTest (tOp (cCmp fun i j=>decide (j<i)) (tOp cMod (tVar 4) (tC (.int 3))) (tC (.int 0))))) (tAsg (tOp cAdd (tC (.int 1)) (tOp cMod (tOp cDiv (tVar 7) (tC (.int 5))) (tOp cIx (tVar 2) (tC (.int 2))))) (gName 8)) tNext)
  (Dr K)))))
  (tRet (tVar 5)))))
theorem Iy{i:Int}(h0:0<=i)(h1:i<4):atI [V.int 1,V.int 2,V.int 3,V.int 4] i=some (V.int (1+i)):=by
 have e:i=0\/i=1\/i=2\/i=3:=by omega
 rcases e with rfl | rfl | rfl | rfl <;> rfl
theorem G8 {R:Addr} {dr sg:Int} {es:List Int} {v0 v3 v6:Option V} (eR:H R=some (.lst (es.map V.int))) (hl:es.length<=16) (s0:1<=sg) (s1:sg<=g) (g6:g<=6)
  (k:∀(x:Int) (H1:Hp),Same H H1->0<=x->x<=g->H1 R=some (.lst (es.map V.int))->D.nx [v0,v1,v2,v3,some (.int y),some (.ref R),v6,some (.int dr),some (.int sg)] (upd H1 R (.lst ((es++[x]).map V.int)))):
  Dr K D [v0,v1,v2,v3,some (.int y),some (.ref R),v6,some (.int dr),some (.int sg)] H:=by
 unfold Dr;symm;refine⟨bq eR,⟨by decide,by decide⟩,by decide,lnR rfl,fun U hU=>?_⟩;obtain⟨H1,z9,s2,eU⟩:=aY (.lst [V.int 1,V.int 2,V.int 3,V.int 4]) hU;rw[z9];refine⟨⟨by decide,by decide⟩,by decide,?_⟩;refine ixL eU (Iy (NV _ (by decide)) (NH _ (by decide))) ?_;symm
 have b:∃ x:Int,sg*(if decide (dr/15%4<1+y/3%4)=true then 1 else 0)=x/\0<=x/\x<=g/\∃ j:Int,(if decide (dr/15%4<1+y/3%4)=true then(1:Int) else 0)=j/\0<=j/\j<=1:=by
  by_cases h:decide (dr/15%4<1+y/3%4)=true
  . rw[MU h];exact⟨sg,by omega,by omega,s1,1,rfl,by decide,by decide⟩
  . rw[MP h];exact⟨0,by omega,by decide,by omega,0,rfl,by decide,by decide⟩
 obtain⟨x,ex,x0,x1,j,ej,j0,j1⟩:=b;rw[ex,ej];refine⟨.inl ⟨by omega,by omega⟩,?_⟩;rw[fP (s2 _ _ eR)];refine⟨by rw[Mr];exact aK (by omega),?_⟩;have:=k x H1 s2 x0 x1 (s2 _ _ eR);rw[OG] at this;exact this
theorem tH(h:dH K vs H Q E):gL K (eD9 Q) (start ["_law_script","_law_at","_law_floor","_law_answer","_law_number","_law_entries_here","_law_k","_law_drawn_here","_law_sign"] vs) H:=by
 obtain⟨a,p,f,ns,at_,h,w,g,fl,rfl,hS,hn,a0,a9,hp,g0,g6,ef,fll,sg,q⟩:=h;show gL K _ [some (.ref a),some (.int at_),some (.ref p),some (.ref f),none,none,none,none,none] H;unfold gL;symm;refine⟨a,ns,at_,rfl,hS,hn,a0,by omega,?_⟩;generalize ce ns at_=y at*;symm;refine⟨aR (by decide),fun R hR=>?_⟩;obtain⟨H1,z9,s1,eR⟩:∃ z,upd H R (.lst [])=z/\Same H z/\z R=some (.lst (([]:List Int).map V.int)):=aY _ hR;rw[z9];rw[bc (s1 _ _ ef),Mr];refine⟨_,rfl,by omega,by omega,?_⟩;refine nc (fun i σ H'=>∃(v6 v7 v8:Option V) (es:List Int),σ=[some (.ref a),some (.int at_),some (.ref p),some (.ref f),some (.int y),some (.ref R),v6,v7,v8]/\Same H H'/\H' R=some (.lst (es.map V.int))/\es.length=i/\∀ x∈es,0<=x/\x<=g) ⟨none,none,none,[],rfl,s1,eR,rfl,fun x hx=>by cases hx⟩ ?_ ?_
 . rintro i σ H2 hi ⟨v6,v7,v8,es,rfl,s2,e2,el,ex⟩;have hi':i<fl.length:=by have:i < ((fl.length:Nat):Int).toNat:=hi;omega
   rw[Og];symm;refine⟨a,ns,_,rfl,s2.seq hS,hn,by omega,by omega,?_⟩;generalize ce ns (at_+1+(i:Int))=dr at*;symm;refine ixI (s2 _ _ ef) (by omega) (by omega) ?_;rw[NU];have sb:=sg _ (show fl.getD i 0∈fl by rw[List.getD,Mt hi'];exact MT hi')
   have fin:∀(D:Ends),(∀(u:Int) (H3:Hp),Same H H3->0<=u->u<=g->∀ v8:Option V,D.nx [some (.ref a),some (.int at_),some (.ref p),some (.ref f),some (.int y),some (.ref R),some (.int (i:Int)),some (.int dr),v8] (upd H3 R (.lst ((es++[u]).map V.int))))->∀(x:Int),1<=x->x<=g->Dr K D [some (.ref a),some (.int at_),some (.ref p),some (.ref f),some (.int y),some (.ref R),some (.int (i:Int)),some (.int dr),some (.int x)] H2:=fun D hD x x0 x1=>by
    exact G8 e2 (by omega) x0 x1 g6 fun u H3 s3 u0 u1 e3=>hD u H3 (s2.trans s3) u0 u1 _
   have app:∀(u:Int) (H3:Hp),Same H H3->0<=u->u<=g->∀ v8:Option V,∃(v6 v7 v8':Option V) (es':List Int),[some (V.ref a),some (.int at_),some (.ref p),some (.ref f),some (.int y),some (.ref R),some (.int (i:Int)),some (.int dr),v8]=[some (.ref a),some (.int at_),some (.ref p),some (.ref f),some (.int y),some (.ref R),v6,v7,v8']/\Same H (upd H3 R (.lst ((es++[u]).map V.int)))/\(upd H3 R (.lst ((es++[u]).map V.int))) R=some (.lst (es'.map V.int))/\es'.length=i+1/\∀ x∈es',0<=x/\x<=g:=fun u H3 s3 u0 u1 v8=>⟨_,_,_,es++[u],rfl,s3.own hR,ak,by simp[el],fun z hz=>by
    rcases M0.mp hz with hz | hz
    . exact ex z hz
    . rw[MN.mp hz];exact⟨u0,u1⟩⟩
   rw[aA];symm;refine⟨by decide,?_⟩;by_cases h5:dr%5=0
   . rw[Mv h5];symm;refine⟨by decide,?_⟩;by_cases h3:0<y%3
     . rw[Mv h3];symm;refine⟨⟨by decide,by decide⟩,?_⟩;refine ixT (s2 _ _ hp) (v:=V.int g) rfl ?_;symm;have b0:=NV (dr/5) (show g≠0 by omega);have b1:=NH (dr/5) (show 0<g by omega);exact⟨by omega,fin _ app _ (by omega) (by omega)⟩
     . rw[Mu h3];symm;exact fin _ app _ sb.1 sb.2
   . rw[Mu h5];symm;exact fin _ app _ sb.1 sb.2
 . rintro σ H2 ⟨v6,v7,v8,es,rfl,s2,e2,el,ex⟩;symm;exact q R es H2 s2 hR e2 (by have:es.length=((fl.length:Nat):Int).toNat:=el;omega) ex
def rS(K:Frag):List V->Hp->VK->Prop:=fun xs H Q=>∃ p ys,xs=[.ref p]/\(SqL K H p ys\/SqT K H p ys)/\∀ l,H l=none->Q (.ref l) (upd H l (.lst ys))
theorem oJ{X:Cx}:CallR X (.type "list") (rS X.K):=qY
def mS(K:Frag):Sp:=fun vs H Q _=>∃(a:Addr) (h w g:Int),vs=[.ref a]/\IsFl H a h w g/\1<=g/\g<=6/\Q (.int (2^g.toNat-1)) H
def mT(K:Frag):TS:=
 (tRet (tOp cSub (tCall (kX K) [] E0 (tCons (tOp cAdd (tOp cIx (tVar 0) (tC (.int 2))) (tC (.int 1))) tNil)) (tC (.int 1))))
variable{K:Frag}{vs:List V}{H:Hp}{Q:VK}{E:XK}
theorem A0(h:mS K vs H Q E):mT K (eD9 Q) (start ["floor"] vs) H:=by
 obtain⟨a,h,w,g,rfl,ha,g0,g1,q⟩:=h;show mT K _ [some (.ref a)] H;unfold mT;symm;refine ixT ha (v:=V.int g) rfl ?_;symm;refine⟨g+1,rfl,by omega,by omega,?_⟩;symm;rw[Int.add_sub_cancel];exact q
def mbI(g x:Int):Int:=if x=0 then 2^g.toNat-1 else 2^(x-1).toNat
def kP(K:Frag):Sp:=fun vs H Q _=>∃(a p:Addr) (h w g:Int) (xs:List Int),vs=[.ref a,.ref p]/\IsFl H a h w g/\1<=g/\g<=6/\H p=some (.lst (xs.map V.int))/\xs.length<=900/\(∀ x∈xs,0<=x/\x<=6)/\∀ l H',Same H H'->H l=none->H' l=some (.lst ((xs.map (mbI g)).map V.int))->Q (.ref l) H'
def oK(K:Frag):TS:=
 (tRet (tComp [none,none,some 0] (iList K (tVar 1)) (gName 1) tTrue (tIf (tTest (tOp (cEq K) (tVar 1) (tC (.int 0)))) (tCall (mS K) [] E0 (tCons (tVar 2) tNil)) (tCall (kX K) [] E0 (tCons (tVar 1) tNil)))))
theorem BY(h:kP K vs H Q E):oK K (eD9 Q) (start ["floor","filling"] vs) H:=by
 obtain⟨a,p,h,w,g,xs,rfl,ha,g0,g1,hp,hn,hb,k⟩:=h;show oK K _ [some (.ref a),some (.ref p)] H;unfold oK;symm;refine⟨⟨_,MO hp⟩,?_⟩;refine aX (xs:=xs) (fun _=>true) (mbI g) hn (MO hp) ?_ ?_ ?_
 . intro x H1 R hx s1 k1;exact k1 _ (Mw _)
 . intro x H1 Q1 hx hb' s1 k1;have hx6:=hb x hx;show tIf _ _ _ [none,some (.int x),some (.ref a)] H1 Q1;symm;have q:=k1 _ (Mw H1);unfold mbI at q;by_cases hc:x=0
   . rw[MU hc] at q;rw[Mv hc];exact iteT ⟨a,h,w,g,rfl,s1 _ _ ha,g0,g1,q⟩
   . rw[MP hc] at q;rw[Mu hc];exact iteF ⟨x,rfl,by omega,by omega,q⟩
 . intro l H1 hl s1 el;rw[aZ] at el;exact k l H1 s1 hl el
theorem Iz:((List.range 7).all fun g=>(List.range 7).all fun x=>!(decide (1<=g)&&decide (x<=g))||(decide (0<=mbI (g:Int) (x:Int)/\mbI (g:Int) (x:Int)<2^g)&&((List.range 6).all fun s=>decide (stB (mbI (g:Int) (x:Int)) (1+(s:Int))=(decide (s<g)&&(decide (x=0)||decide (x=1+s)))))))=true:=by decide+kernel
variable{g:Int}
theorem Ge{x:Int}(g0:1<=g)(g6:g<=6)(x0:0<=x)(x1:x<=g):(0<=mbI g x/\mbI g x<2^g.toNat)/\∀ s,1<=s->s<=6->stB (mbI g x) s=(decide (s<=g)&&(decide (x=0)||decide (x=s))):=by
 have t:=MC.mp (MC.mp Iz g.toNat (MF.mpr (by omega))) x.toNat (MF.mpr (by omega));have e1:((g.toNat:Nat):Int)=g:=by omega
 have e2:((x.toNat:Nat):Int)=x:=by omega
 rw[e1,e2,Mv (show 1<=g.toNat by omega),Mv (show x.toNat<=g.toNat by omega),MR,Oa,NC,MH,Mx] at t;refine⟨t.1,fun s s0 s6=>?_⟩;have u:=MG (MC.mp t.2 (s-1).toNat (MF.mpr (by omega)));have e3:1+(((s-1).toNat:Nat):Int)=s:=by omega
 rw[e3] at u;rw[u]
 congr 1
 . exact PP.mpr (by omega)
 . congr 1
   . exact PP.mpr (by omega)
   . exact PP.mpr (by omega)
structure En62(H:Hp)(e:Addr)(m g:Int)(es:List Int):Prop where
 e:H e=some (.lst (es.map V.int))
 n:es.length=m.toNat
 ok:∀ x∈es,0<=x/\x<=g
variable{m:Int}{es:List Int}
theorem En62.same{H':Hp}{e:Addr}(X:En62 H e m g es)(s:Same H H'):En62 H' e m g es:=⟨s _ _ X.e,X.n,X.ok⟩
theorem En62.mk'{e:Addr}(X:En62 H e m g es)(g0:1<=g)(g6:g<=6):MkP g m.toNat (es.map (mbI g)):=⟨by rw[Mr];exact X.n,fun z hz=>by
 obtain⟨x,hx,rfl⟩:=MJ.mp hz;exact(Ge g0 g6 (X.ok x hx).1 (X.ok x hx).2).1⟩
def IA(Q:VK)(H:Hp)(o:Option Tho):Prop:=(o=none->∀ H',Same H H'->Q .non H')/\∀(th:Tho) (T M:Addr) (H':Hp),o=some th->Same H H'->H T=none->H M=none->IsTh H' T M th.t th.r th.z th.s th.ms->Q (.ref T) H'
def tp(K:Frag)(c:RCl RK)(d:RCl PzK):Sp:=fun vs H Q _=>∃(P L G e:Addr) (h w g:Int) (Mf:List RR) (cl es:List Int),vs=[.ref P,.ref e]/\IsPz H c d P L G h w g Mf cl/\En62 H e (h*w) g es/\IA Q H (ntF h w g Mf cl (es.map (mbI g)) allT)
def xJ(K:Frag)(c:RCl RK)(d:RCl PzK):TS:=
 (tRet (tCall (dt K c d) [] E0 (tCons (tVar 0) (tCons (tCall (kP K) [] E0 (tCons (aD d d.ok "place" (d3 K c d) (tVar 0) tNil) (tCons (tVar 1) tNil))) (tCons (tGT K bu) tNil)))))
theorem G9{c:RCl RK}{d:RCl PzK}(h:tp K c d vs H Q E):xJ K c d (eD9 Q) (start ["puzzle","entries"] vs) H:=by
 obtain⟨P,L,G,e,h,w,g,Mf,cl,es,rfl,X,Y,q⟩:=h;obtain⟨dx,p,rs,h1,h2,h3⟩:=X.ex;have g0:=X.R.F.g0;have g6:=X.R.F.g1;have m16:=X.R.F.m;have yn:=Y.n;show xJ K c d _ [some (.ref P),some (.ref e)] H;unfold xJ;symm;refine methE (k:=.Puzzle) rfl X.ok h1 (by rfl) ?_;symm;refine⟨P,L,G,h,w,g,Mf,cl,rfl,X,fun p2 hp2=>?_⟩;symm;refine⟨p2,e,h,w,g,es,rfl,hp2,g0,g6,Y.e,by omega,fun x hx=>by have:=Y.ok x hx;omega,fun A H1 s1 hA eA=>?_⟩;dsimp only;rw[FQ];intro u hu;rw[l0] at hu;have mk:=Y.mk' g0 g6;refine⟨P,L,G,A,u,h,w,g,Mf,cl,_,allT,rfl,⟨X.same s1,eA,mk.1,mk.2⟩,.inr hu,fun e0 H' s'=>q.1 e0 H' (s1.trans s'),fun th T M H' e0 s' hT hM Th=>q.2 th T M H' e0 (s1.trans s') (s1.free hT) (s1.free hM) Th⟩
def kQ(h w m:Int)(fl:List Int):List Int:=(rngL 0 (h*w)).filter fun c=>decide (fl.getD c.toNat 0=m)
theorem rng29{n x:Int}:x∈rngL 0 n↔0<=x/\x<n:=by
 unfold rngL;rw[MJ];constructor
 . rintro⟨k,hk,rfl⟩;have:=MF.mp hk;omega
 . rintro⟨a,b⟩;exact⟨x.toNat,MF.mpr (by omega),by omega⟩
variable{h w:Int}{fl:List Int}
theorem sgC29_mem{c:Int}:c∈kQ h w m fl↔(0<=c/\c<h*w)/\fl.getD c.toNat 0=m:=by
 unfold kQ;rw[MK,rng29,Mx]
abbrev o5(h w m:Int)(fl:List Int):Prop:=∀ a∈kQ h w m fl,∀ b∈kQ h w m fl,RC h w (kQ h w m fl) a b
abbrev zH(h w m:Int)(fl:List Int):Prop:=∀ a∈kQ h w m fl,((besL h w a).filter fun c=>decide (fl.getD c.toNat 0=m)).length=2
abbrev wk(h w m:Int)(fl:List Int):Prop:=∀ i:Nat,i < (h*w).toNat->cornB h w i=true->∃ c∈sqL w i,fl.getD c.toNat 0≠m
def Ds(h w m:Int)(k:RK)(fl:List Int):Prop:=match k with
 | .Joined=>o5 h w m fl
 | .Ring=>o5 h w m fl/\zH h w m fl
 | .NoSquare=>wk h w m fl
 | _=>False
structure Ans29(h w g m:Int)(k:RK)(Mc fl:List Int):Prop where
 F:FlOk h w g
 fll:fl.length=(h*w).toNat
 ml:Mc.length=(h*w).toNat
 mm:∀ x∈Mc,0<=x/\x<64
 sg:∀ x∈fl,1<=x/\x<=g
 st:∀ k,k<fl.length->stB (Mc.getD k 0) (fl.getD k 0)=true
 m0:1<=m
 m1:m<=g
 R:Ds h w m k fl
variable{Mc:List Int}
theorem Ans29.at_{k:RK}(A:Ans29 h w g m k Mc fl){c:Int}(c0:0<=c)(c1:c<h*w):(0<=Mc.getD c.toNat 0/\Mc.getD c.toNat 0<64)/\(1<=fl.getD c.toNat 0/\fl.getD c.toNat 0<=g)/\stB (Mc.getD c.toNat 0) (fl.getD c.toNat 0)=true:=by
 have hf:=A.fll;have hm:=A.ml;have h1:c.toNat<fl.length:=by omega
 have h2:c.toNat<Mc.length:=by omega
 refine⟨?_,?_,A.st _ h1⟩
 . rw[List.getD,Mt h2];exact A.mm _ (MT h2)
 . rw[List.getD,Mt h1];exact A.sg _ (MT h1)
theorem Ans29.one{k:RK}(A:Ans29 h w g m k Mc fl){c:Int}(c0:0<=c)(c1:c<h*w)(hw:woI (Mc.getD c.toNat 0) m=0):fl.getD c.toNat 0=m:=by
 have a:=A.at_ c0 c1;have g6:=A.F.g1;have m1:=A.m1;exact Ay a.1.1 a.1.2 A.m0 (by omega) a.2.1.1 (by omega) hw a.2.2
theorem CF{cs ds:List Int}{a b:Int}(sub:∀ c∈cs,c∈ds)(r:RC h w cs a b)(hb:(!rcB h w ds a b)=true):False:=by
 unfold rcB at hb;rw[Nz] at hb;exact(@of_decide_eq_false _ (Classical.propDecidable _) hb) (r.less sub)
variable{ms:List Int}
theorem Jf{k:RK}{z s:Int}(A:Ans29 h w g m k Mc fl)(J:o5 h w m fl)(z0:0<=z)(z1:z<h*w)(hb:reaB h w (rngL 0 (h*w)) m Mc z s ms=true):fl.getD z.toNat 0≠s:=by
 intro e;unfold reaB at hb;rw[MH] at hb
 have an:∀ o∈ms,(0<=o/\o<h*w)/\o≠z/\fl.getD o.toNat 0=m:=fun o ho=>by
  have:=MC.mp hb.1 o ho;unfold anoB at this;simp only[MH,Mx,Nz,NE] at this;exact⟨this.1,this.2.1,A.one this.1.1 this.1.2 this.2.2⟩
 have h2:=hb.2;by_cases es:s=m
 . rw[MU es] at h2;rw[MH] at h2;have hl:=MG h2.1
   match ms,hl with
   | [o],_=>
    have a:=an o MD;refine CF (fun c hc=>?_) (J z (sgC29_mem.mpr ⟨⟨z0,z1⟩,e.trans es⟩) o (sgC29_mem.mpr ⟨a.1,a.2.2⟩)) h2.2;obtain⟨c1,c2⟩:=sgC29_mem.mp hc;by_cases cz:c=z
    . rw[cz];exact M0.mpr (.inr MD)
    . refine M0.mpr (.inl ?_);unfold thrL;refine MK.mpr ⟨MK.mpr ⟨rng29.mpr c1,by simp[cz]⟩,?_⟩;have:=(A.at_ c1.1 c1.2).2.2;rw[c2] at this;exact this
 . rw[MP es] at h2;rw[MH,MH] at h2;have hl:=MG h2.1
   match ms,hl with
   | [o,o2],_=>
    have a:=an o MD;have b:=an o2 (MI _ MD);refine CF (fun c hc=>?_) (J o (sgC29_mem.mpr ⟨a.1,a.2.2⟩) o2 (sgC29_mem.mpr ⟨b.1,b.2.2⟩)) h2.2.2;obtain⟨c1,c2⟩:=sgC29_mem.mp hc;have cz:c≠z:=fun cz=>es (by rw[cz] at c2;exact e.symm.trans c2);unfold thrL;refine MK.mpr ⟨MK.mpr ⟨rng29.mpr c1,by simp[cz]⟩,?_⟩;have:=(A.at_ c1.1 c1.2).2.2;rw[c2] at this;exact this
theorem Jg{k:RK}{z s:Int}(A:Ans29 h w g m k Mc fl)(J:wk h w m fl)(hb:squB h w m Mc z s ms=true):fl.getD z.toNat 0≠s:=by
 intro e;unfold squB at hb;simp only[MH,Mx,Nz,NE] at hb;obtain⟨es,_,hne,hl⟩:=hb;generalize ms.getD 0 0=c at*;have w0:=A.F.w0
 have rin:∀ x∈rosL h w c z,0<=x/\x<h*w:=fun x hx=>by
  have:=(EL (n:=(h*w).toNat) (c:=c) (z:=z) A.F rfl).2 x hx;omega
 have all:∀ x∈rosL h w c z,woI (Mc.getD x.toNat 0) s=0:=fun x hx=>by
  have hl2:((sgAt Mc (rosL h w c z)).filter fun k=>decide (woI k s=0)).length=(sgAt Mc (rosL h w c z)).length:=by rw[hl];unfold sgAt;rw[Mr]
  have:=OQ.mp hl2 (Mc.getD x.toNat 0) (by unfold sgAt;exact MJ.mpr ⟨x,hx,rfl⟩);exact MG this
 unfold rosL at hne all rin
 cases hf:(squL h w).find? (rosP c z) with
 | none=>rw[hf] at hne;exact hne rfl
 | some q=>
  rw[hf] at all rin;dsimp only at all rin;obtain⟨i,hi,hc,rfl⟩:=oZ (Pu hf);obtain⟨x,hx,nx⟩:=J i hi hc;by_cases xz:x=z
  . rw[xz] at nx;exact nx (e.trans es)
  . have hx2:x∈(sqL w i).filter fun x=>!decide (x=z):=MK.mpr ⟨hx,by simp[xz]⟩;have r:=rin x hx2;have a:=all x hx2;rw[es] at a;exact nx (A.one r.1 r.2 a)
theorem Dt{p:Int->Bool}{z:Int}:∀{l:List Int},z∈l->p z=true->((l.filter fun x=>!decide (x=z)).filter p).length+1<=(l.filter p).length
 | [],h,_=>by cases h
 | x::r,h,hp=>by
  have le:((r.filter fun x=>!decide (x=z)).filter p).length<=(r.filter p).length:=by
   rw[Pq,← N6,← N6];exact P9 fun a _ ha=>(by rw[MH] at ha;exact ha.1)
  by_cases e:x=z
  . subst e;rw[On (by simp),N4 (p:=p) hp,M3];omega
  . have ih:=Dt (l:=r) (p:=p) ((MS.mp h).resolve_left (Pg e)) hp;rw[N4 (by simp[e])];by_cases px:p x=true
    . rw[N4 px,N4 px,M3,M3];omega
    . rw[On px,On px];exact ih
theorem o6{f g:Int->Bool}{l:List Int}(h:∀ x∈l,f x=true->g x=true):(l.filter f).length<=(l.filter g).length:=by
 rw[← N6,← N6];exact P9 h
theorem E9(cs:List Int):mayN Mc m cs=(cs.filter fun c=>stB (Mc.getD c.toNat 0) m).length:=by
 unfold mayN sgAt;rw[Ot,Mr];rfl
theorem Fa(cs:List Int):onlN Mc m cs=(cs.filter fun c=>decide (woI (Mc.getD c.toNat 0) m=0)).length:=by
 unfold onlN sgAt;rw[Ot,Mr];rfl
theorem IB{k:RK}{z s:Int}(A:Ans29 h w g m k Mc fl)(J:zH h w m fl)(z0:0<=z)(z1:z<h*w)(hb:turnB h w m Mc z s ms=true):fl.getD z.toNat 0≠s:=by
 intro e;have bin:∀ a,0<=a->a<h*w->∀ x∈besL h w a,0<=x/\x<h*w:=fun a a0 a1=>(rK A.F a0 a1).2
 have may:∀ cs:List Int,(∀ x∈cs,0<=x/\x<h*w)->(cs.filter fun c=>decide (fl.getD c.toNat 0=m)).length<=mayN Mc m cs:=fun cs hc=>by
  rw[E9];refine o6 fun x hx ex=>?_;have:=(A.at_ (hc x hx).1 (hc x hx).2).2.2;rw[MG ex] at this;exact this
 have onl:∀ cs:List Int,(∀ x∈cs,0<=x/\x<h*w)->onlN Mc m cs<=(cs.filter fun c=>decide (fl.getD c.toNat 0=m)).length:=fun cs hc=>by
  rw[Fa];refine o6 fun x hx ex=>Mv ?_;exact A.one (hc x hx).1 (hc x hx).2 (MG ex)
 unfold turnB at hb;by_cases e0:ms=[]
 . rw[MU e0] at hb;simp only[MH,Os,Mx] at hb;obtain⟨es,hb⟩:=hb;have t:=J z (sgC29_mem.mpr ⟨⟨z0,z1⟩,e.trans es⟩);have a:=may _ (bin z z0 z1);have b:=onl _ (bin z z0 z1);omega
 . rw[MP e0] at hb;simp only[MH,Mx] at hb;obtain⟨_,ho,hw,hb⟩:=hb;generalize ms.getD 0 0=o at*;have o1:=bin z z0 z1 o ho;have fo:=A.one o1.1 o1.2 hw;have zo:z∈besL h w o:=z7 (by have:=A.F.w0;omega) z0 z1 ho;have t:=J o (sgC29_mem.mpr ⟨o1,fo⟩);have ain:∀ x∈arL h w o z,0<=x/\x<h*w:=fun x hx=>bin o o1.1 o1.2 x (MK.mp hx).1;by_cases es:s=m
   . rw[MU es,Mx] at hb;have b:=onl _ ain;have c:=Dt (p:=fun c=>decide (fl.getD c.toNat 0=m)) zo (Mv (e.trans es));unfold arL at b hb;omega
   . rw[MP es,Mx] at hb;have a:=may _ ain
     have c:((besL h w o).filter fun c=>decide (fl.getD c.toNat 0=m)).length<=((arL h w o z).filter fun c=>decide (fl.getD c.toNat 0=m)).length:=by
      unfold arL;rw[Pq];refine o6 fun x _ ex=>?_;have:x≠z:=fun xz=>es (by rw[xz] at ex;exact e.symm.trans (MG ex));simp only[ex,this,Ql,Oc,O1]
     omega
structure AnsA(h w g:Int)(Mf:List RR)(cl Mc fl:List Int):Prop where
 F:FlOk h w g
 fll:fl.length=(h*w).toNat
 ml:Mc.length=(h*w).toNat
 mm:∀ m∈Mc,0<=m/\m<64
 sg:∀ x∈fl,1<=x/\x<=g
 st:∀ k,k<fl.length->stB (Mc.getD k 0) (fl.getD k 0)=true
 cu:∀ k,k<fl.length->cl.getD k 0=0\/cl.getD k 0=fl.getD k 0
 ok:∀ x∈Mf,x.Ok h w g
 ho:∀ x∈Mf,hoB x.k h w x.cs x.n x.m fl=true
variable{h w g:Int}{Mf:List RR}{Mc fl:List Int}
theorem AnsA.at_{cl:List Int}(A:AnsA h w g Mf cl Mc fl)(c:Int)(c0:0<=c)(c1:c<h*w):(0<=Mc.getD c.toNat 0/\Mc.getD c.toNat 0<64)/\(1<=fl.getD c.toNat 0/\fl.getD c.toNat 0<=g)/\stB (Mc.getD c.toNat 0) (fl.getD c.toNat 0)=true:=by
 have hf:=A.fll;have hm:=A.ml;have h1:c.toNat<fl.length:=by omega
 have h2:c.toNat<Mc.length:=by omega
 refine⟨?_,?_,A.st _ h1⟩
 . rw[List.getD,Mt h2];exact A.mm _ (MT h2)
 . rw[List.getD,Mt h1];exact A.sg _ (MT h1)
abbrev AtA(m g:Int)(Mc fl:List Int):Prop:=∀ c:Int,0<=c->c<m->(0<=Mc.getD c.toNat 0/\Mc.getD c.toNat 0<64)/\(1<=fl.getD c.toNat 0/\fl.getD c.toNat 0<=g)/\stB (Mc.getD c.toNat 0) (fl.getD c.toNat 0)=true
variable{m z s:Int}{ms:List Int}
theorem oM{y:RR}{t:TK}(g6:g<=6)(s0:1<=s)(s1:s<=g)(at_:AtA m g Mc fl)(ci:∀ c∈y.cs,0<=c/\c<m)(nd:(y.cs.map fun c=>fl.getD c.toNat 0).Nodup)(hz:z∈y.cs)(ht:t=.only\/t=.place\/t=.pair)(q1:kY g t y Mc z s ms=true):fl.getD z.toNat 0≠s:=by
 intro e;rcases ht with rfl | rfl | rfl
 . unfold kY onlyB at q1;simp only[MH,Mx,MK,Nz,NE] at q1;obtain⟨_,⟨ho,hne⟩,hw⟩:=q1;generalize ms.getD 0 0=o at*;have co:=ci o ho;have a:=at_ _ co.1 co.2;have es:=Ay a.1.1 a.1.2 s0 (by omega) a.2.1.1 (by omega) hw a.2.2;exact zF nd ho hz hne (es.trans e.symm)
 . unfold kY vN at q1;simp only[MH,Mx,Nz,NE] at q1;obtain⟨hl,_,hne,⟨t0,t1⟩,hno⟩:=q1;generalize ms.getD 0 0=x at*
   have hx:=Ij (x:=x) nd (fun v hv=>by
    obtain⟨c,hc',rfl⟩:=MJ.mp hv;exact(at_ _ (ci c hc').1 (ci c hc').2).2.1) (by rw[Mr];exact hl) t0 t1
   obtain⟨o,ho,eo⟩:=MJ.mp hx;have a:=at_ _ (ci o ho).1 (ci o ho).2;by_cases hoz:o=z
   . rw[hoz] at eo;exact hne (eo.symm.trans e)
   . have hin:Mc.getD o.toNat 0∈(sgAt Mc (y.cs.filter fun x=>!decide (x=z))).filter fun m=>stB m x:=by
      refine MK.mpr ⟨?_,?_⟩
      . unfold sgAt;exact MJ.mpr ⟨o,MK.mpr ⟨ho,by simp[hoz]⟩,rfl⟩
      . have:=a.2.2;rw[eo] at this;exact this
     rw[OK.mp hno] at hin;cases hin
 . unfold kY pairB at q1;rw[MH] at q1;obtain⟨ho,hl⟩:=q1;unfold ordB at ho;simp only[MH,Mx] at ho hl;obtain⟨_,m0,m1,hlt⟩:=ho;unfold orM at hl;generalize ms.getD 0 0=a at*;generalize ms.getD 1 0=b at*;have fa:=MK.mp m0;have fb:=MK.mp m1;simp only[Nz,NE] at fa fb;have hab:a≠b:=fun e'=>by rw[e'] at hlt;exact absurd hlt (NS _)
   have ca:=ci a fa.1;have cb:=ci b fb.1;have xa:=at_ _ ca.1 ca.2;have xb:=at_ _ cb.1 cb.2;have na:=zF nd fa.1 hz fa.2;have nb:=zF nd fb.1 hz fb.2;have nab:=zF nd fa.1 fb.1 hab;have ia:=Cz xa.1.1 xa.1.2 xb.1.1 xb.1.2 xa.2.1.1 (by omega) (.inl xa.2.2);have ib:=Cz xa.1.1 xa.1.2 xb.1.1 xb.1.2 xb.2.1.1 (by omega) (.inr xb.2.2);have ja:fl.getD a.toNat 0∈(sgL (Builtin.bitOr (Mc.getD a.toNat 0) (Mc.getD b.toNat 0))).filter fun x=>!decide (x=s):=MK.mpr ⟨ia,by rw[Mu (fun e'=>na (e'.trans e.symm))];rfl⟩;have jb:fl.getD b.toNat 0∈(sgL (Builtin.bitOr (Mc.getD a.toNat 0) (Mc.getD b.toNat 0))).filter fun x=>!decide (x=s):=MK.mpr ⟨ib,by rw[Mu (fun e'=>nb (e'.trans e.symm))];rfl⟩;have:=GT ja jb nab;omega
theorem RR.ndA{r:RR}(O:r.Ok h w g):r.cs.Nodup:=by
 cases hk:allK r.k with
 | false=>
  obtain⟨c1,c2,c3,c4,e⟩:=O.cl.told hk;rw[e];exact List.Pairwise.map _ (fun a b (h:a≠b)=>by show((a:Nat):Int)≠_;omega) c4
 | true=>
  rw[(O.cl.all hk).2];unfold rngL;exact List.Pairwise.map _ (fun a b (h:a≠b)=>by show(0:Int)+(a:Int)≠0+(b:Int);omega) PK
theorem A1(f:Int->Int){z:Int}:∀{cs:List Int},cs.Nodup->z∈cs->(cs.map f).sum=f z+((othL cs z).map f).sum
 | [],_,h=>by cases h
 | x::r,nd,h=>by
  rw[Nm] at nd;unfold othL;by_cases e:x=z
  . subst e
    have hr:(r.filter fun y=>!decide (y=x))=r:=Oi.mpr fun y hy=>by
     have:y≠x:=fun e=>nd.1 (e ▸ hy);simp[this]
    rw[On (by simp),hr,M4,N9]
  . have ih:=A1 f nd.2 ((MS.mp h).resolve_left (Pg e));unfold othL at ih;rw[N4 (by simp[e]),M4,N9,M4,N9,ih];omega
theorem FX:((List.range 64).all fun m=>(List.range 6).all fun j=>!stB (m:Int) (1+(j:Int))||decide (loM (m:Int)<=1+(j:Int)/\1+(j:Int)<=hiM (m:Int)))=true:=by decide+kernel
theorem CG{x:Int}(m0:0<=m)(m1:m<64)(x0:1<=x)(x6:x<=6)(h:stB m x=true):loM m<=x/\x<=hiM m:=by
 have t:=MC.mp (MC.mp FX m.toNat (MF.mpr (by omega))) (x-1).toNat (MF.mpr (by omega));have e1:((m.toNat:Nat):Int)=m:=by omega
 have e3:1+(((x-1).toNat:Nat):Int)=x:=by omega
 rw[e1,e3,h] at t
 simpa using t
theorem xK{α:Type}(f g:α->Int):∀{cs:List α},(∀ c∈cs,f c<=g c)->(cs.map f).sum<=(cs.map g).sum
 | [],_=>Int.le_refl _
 | x::r,h=>by
  have:=xK f g (cs:=r) fun c hc=>h c (MI _ hc);have:=h x MD;rw[M4,M4,N9,N9];omega
variable{cs:List Int}
theorem oth_memA{c:Int}:c∈othL cs z↔c∈cs/\c≠z:=by
 unfold othL;rw[MK];simp
theorem IC(at_:AtA m g Mc fl)(ci:∀ c∈cs,0<=c/\c<m):(0:Int)∉sgAt Mc cs:=fun h=>by
 unfold sgAt at h;obtain⟨c,hc,e⟩:=MJ.mp h;have a:=at_ c (ci c hc).1 (ci c hc).2;rw[e,Iu] at a;exact absurd a.2.2 (by decide)
theorem Du{n:Int}(g6:g<=6)(at_:AtA m g Mc fl)(ci:∀ c∈cs,0<=c/\c<m)(nd:cs.Nodup)(hz:z∈cs)(ho:(sgAt fl cs).sum=n)(q:sumB cs n Mc z s ms=true):fl.getD z.toNat 0≠s:=by
 intro e;have cio:∀ c∈othL cs z,0<=c/\c<m:=fun c hc=>ci c (oth_memA.mp hc).1
 have lo:=xK (fun c=>loM (Mc.getD c.toNat 0)) (fun c=>fl.getD c.toNat 0) (cs:=othL cs z) fun c hc=>by
  have a:=at_ c (cio c hc).1 (cio c hc).2;exact(CG a.1.1 a.1.2 a.2.1.1 (by omega) a.2.2).1
 have hi:=xK (fun c=>fl.getD c.toNat 0) (fun c=>hiM (Mc.getD c.toNat 0)) (cs:=othL cs z) fun c hc=>by
  have a:=at_ c (cio c hc).1 (cio c hc).2;exact(CG a.1.1 a.1.2 a.2.1.1 (by omega) a.2.2).2
 have su:=A1 (fun c=>fl.getD c.toNat 0) nd hz;unfold sumB smB at q;rw[Mu (IC at_ cio),NC,MH,Os] at q;simp only[Mx] at q;unfold sgAt at q ho;rw[Na,Na] at q;have l1:((othL cs z).map (loM ∘ fun c=>Mc.getD c.toNat 0)).sum=((othL cs z).map fun c=>loM (Mc.getD c.toNat 0)).sum:=rfl;have l2:((othL cs z).map (hiM ∘ fun c=>Mc.getD c.toNat 0)).sum=((othL cs z).map fun c=>hiM (Mc.getD c.toNat 0)).sum:=rfl;rw[l1,l2] at q;have q2:=q.2;omega
theorem Dv{n k:Int}(g6:g<=6)(k0:1<=k)(k6:k<=6)(at_:AtA m g Mc fl)(ci:∀ c∈cs,0<=c/\c<m)(hz:z∈cs)(ho:((mkAt fl cs k).length:Int)=n)(q:cntB cs n k Mc z s ms=true):fl.getD z.toNat 0≠s:=by
 intro e;have cio:∀ c∈othL cs z,0<=c/\c<m:=fun c hc=>ci c (oth_memA.mp hc).1;unfold cntB at q;rw[MH] at q;have q2:=q.2;by_cases es:s=k
 . rw[MU es,Mx] at q2;have o:=Fa (Mc:=Mc) (m:=s) (othL cs z);unfold onlN at o;rw[o] at q2
   have le:=o6 (f:=fun c=>decide (woI (Mc.getD c.toNat 0) s=0)) (g:=fun c=>decide (fl.getD c.toNat 0=k)) (l:=othL cs z) fun x hx ex=>by
    have a:=at_ x (cio x hx).1 (cio x hx).2;exact Mv ((Ay a.1.1 a.1.2 (by omega) (by omega) a.2.1.1 (by omega) (MG ex) a.2.2).trans es)
   have c:=Dt (p:=fun c=>decide (fl.getD c.toNat 0=k)) hz (Mv (e.trans es));unfold mkAt at ho;unfold othL at le q2;omega
 . rw[MP es,Mx] at q2;have o:=E9 (Mc:=Mc) (m:=k) (othL cs z);unfold mayN at o;rw[o] at q2
   have le:=o6 (f:=fun c=>decide (fl.getD c.toNat 0=k)) (g:=fun c=>stB (Mc.getD c.toNat 0) k) (l:=othL cs z) fun x hx ex=>by
    have a:=at_ x (cio x hx).1 (cio x hx).2;rw[MG ex] at a;exact a.2.2
   have c:((cs.filter fun c=>decide (fl.getD c.toNat 0=k)).length)<=((othL cs z).filter fun c=>decide (fl.getD c.toNat 0=k)).length:=by
    unfold othL;rw[Pq];refine o6 fun x _ ex=>?_;have:x≠z:=fun xz=>es (by rw[xz] at ex;exact e.symm.trans (MG ex));simp only[ex,this,Ql,Oc,O1]
   unfold mkAt at ho;omega
theorem xM:∀{xs:List Int} {j:Nat},risB xs=true->j+1<xs.length->xs.getD j 0<xs.getD (j+1) 0
 | [],j,_,h=>by simp at h
 | [x],j,_,h=>by simp at h
 | x::y::r,0,hb,_=>by
  unfold risB at hb;rw[MH,Mx] at hb;exact hb.1
 | x::y::r,j+1,hb,h=>by
  unfold risB at hb;rw[MH] at hb;exact xM (xs:=y::r) (j:=j) hb.2 (by simpa using h)
theorem ID(h:z∈cs):cs.getD (dA cs z) 0=z:=by
 have hl:=zE h;rw[List.getD,Mt hl];have:=List.findIdx_getElem (w:=hl);exact eq_of_beq this
theorem nI{j:Nat}(hj:j<cs.length):(sgAt fl cs).getD j 0=fl.getD (cs.getD j 0).toNat 0:=by
 unfold sgAt;rw[List.getD,MA,Mt hj];show fl.getD (cs[j]).toNat 0=_;rw[show cs.getD j 0=cs[j] by rw[List.getD,Mt hj];rfl]
theorem BZ(g6:g<=6)(at_:AtA m g Mc fl)(ci:∀ c∈cs,0<=c/\c<m)(hz:z∈cs)(ho:risB (sgAt fl cs)=true)(q:stepB cs Mc z s ms=true):fl.getD z.toNat 0≠s:=by
 intro e;unfold stepB stpB at q;rw[MH,Os] at q;have il:=zE hz;have iz:=ID hz;have sl:(sgAt fl cs).length=cs.length:=by unfold sgAt;rw[Mr]
 rcases q.2 with q | q
 . obtain⟨o,ho',hn⟩:=Ob.mp q;have co:=ci o (Cs hz ho');have a:=at_ o co.1 co.2;unfold ahdL at ho';by_cases h0:0<dA cs z
   . rw[MU h0] at ho';have eo:=MN.mp ho';have r:=xM (j:=dA cs z-1) ho (by omega);rw[show dA cs z-1+1=dA cs z by omega,nI (by omega),nI il,iz,← eo,e] at r;unfold nogB at hn;have:=MG (MC.mp hn _ ((sZ a.1.1 _).mpr a.2.2));omega
   . rw[MP h0] at ho';cases ho'
 . obtain⟨o,ho',hn⟩:=Ob.mp q;have co:=ci o (Ct ho');have a:=at_ o co.1 co.2;unfold behL at ho';by_cases h0:dA cs z+1<cs.length
   . rw[MU h0] at ho';have eo:=MN.mp ho';have r:=xM (j:=dA cs z) ho (by omega);rw[nI il,nI h0,iz,← eo,e] at r;unfold nolB at hn;have:=MG (MC.mp hn _ ((sZ a.1.1 _).mpr a.2.2));omega
   . rw[MP h0] at ho';cases ho'
theorem FY{k:RK}{n:Int}{xs ys:List Int}(e:∀ c∈cs,xs.getD c.toNat 0=ys.getD c.toNat 0):hoB k h w cs n m xs=hoB k h w cs n m ys:=by
 have e1:sgAt xs cs=sgAt ys cs:=by unfold sgAt;exact OF e
 have e2:∀ m,mkAt xs cs m=mkAt ys cs m:=fun m=>by
  unfold mkAt;exact PB fun c hc=>by rw[e c hc]
 unfold hoB;cases k <;> simp only[e1,e2]
theorem yC{f:List Int}{c:Nat}(hc:c<f.length):(setL f z s).getD c 0=if (c:Int)=z then s else f.getD c 0:=by
 unfold setL;rw[List.getD,MA,Ny hc];rfl
theorem A2{Mc fl:List Int}:∀{rest:List Int} {fs:List (List Int)} {f:List Int},f∈fs->(∀ o∈rest,fl.getD o.toNat 0∈sgL (Mc.getD o.toNat 0))->rest.foldl (fun f o=>setL f o (fl.getD o.toNat 0)) f∈wfold Mc rest fs
 | [],_,_,hf,_=>hf
 | o::r,fs,f,hf,h=>by
  unfold wfold;rw[NJ,NJ];refine A2 (fs:=extS fs o (sgL (Mc.getD o.toNat 0))) ?_ fun o' ho'=>h o' (MI _ ho');unfold extS;exact PN.mpr ⟨f,hf,MJ.mpr ⟨_,h o MD,rfl⟩⟩
theorem CH{fl:List Int}{c:Int}(c0:0<=c):∀{rest f:List Int},c.toNat<f.length->((rest.foldl (fun f o=>setL f o (fl.getD o.toNat 0)) f).getD c.toNat 0=if c∈rest then fl.getD c.toNat 0 else f.getD c.toNat 0)
 | [],f,_=>by simp
 | o::r,f,h=>by
  rw[NJ,CH c0 (rest:=r) (by rw[qp];exact h),yC h];by_cases hr:c∈r
  . rw[MU hr,MU (MI _ hr)]
  . rw[MP hr];have ec:((c.toNat:Nat):Int)=c:=by omega
    rw[ec];by_cases e:c=o
    . rw[MU e,MU (by rw[e];exact MD),e]
    . rw[MP e,MP (by simp[e,hr])]
theorem B0{k:RK}{n:Int}(ml:Mc.length=(h*w).toNat)(at_:AtA (h*w) g Mc fl)(ci:∀ c∈cs,0<=c/\c<h*w)(ho:hoB k h w cs n m fl=true)(q:waysB k h w cs n m Mc z s ms=true):fl.getD z.toNat 0≠s:=by
 intro e;have cio:∀ c∈othL cs z,0<=c/\c<h*w:=fun c hc=>ci c (oth_memA.mp hc).1;unfold waysB at q;rw[Mu (IC at_ cio),NC,MH,MH,Nz] at q;have q2:=q.2.2
 have hin:=A2 (Mc:=Mc) (fl:=fl) (rest:=othL cs z) (fs:=[setL (List.replicate Mc.length 0) z s]) MD fun o hoo=>by
  have a:=at_ o (cio o hoo).1 (cio o hoo).2;exact(sZ a.1.1 _).mpr a.2.2
 have ag:hoB k h w cs n m (List.foldl (fun f o=>setL f o (fl.getD o.toNat 0)) (setL (List.replicate Mc.length 0) z s) (othL cs z))=hoB k h w cs n m fl:=FY fun c hc=>by
  have cc:=ci c hc;have hl:c.toNat < (setL (List.replicate Mc.length 0) z s).length:=by rw[qp,Ow];omega
  rw[CH cc.1 hl];by_cases hcz:c=z
  . rw[MP (fun hh=>(oth_memA.mp hh).2 hcz),yC (by rw[Ow];omega),MU (by omega),hcz,e]
  . rw[MU (oth_memA.mpr ⟨hc,hcz⟩)]
 rw[Px] at q2;have:=q2 _ hin;rw[ag,ho] at this;exact this rfl
theorem A3(w0:0<w)(ho:joinB h w (mkAt fl (rngL 0 (h*w)) m)=true):o5 h w m fl:=by
 intro a ha b hb;have ho:=@MG _ (Classical.propDecidable _) ho;have e:mkAt fl (rngL 0 (h*w)) m=kQ h w m fl:=rfl;rw[e] at ho;rcases ho with ho | ⟨_,ho⟩
 . rw[ho] at ha;cases ha
 . have hcs:∀ x∈kQ h w m fl,0<=x/\x<h*w:=fun x hx=>(sgC29_mem.mp hx).1;exact(RC.symm w0 hcs (ho a ha)).trans (ho b hb)
theorem Gf(F:FlOk h w g)(ho:(mkAt fl (rngL 0 (h*w)) m).all (twoB h w (mkAt fl (rngL 0 (h*w)) m))=true):zH h w m fl:=by
 intro a ha;have e:mkAt fl (rngL 0 (h*w)) m=kQ h w m fl:=rfl;rw[e] at ho;have t:=MG (MC.mp ho a ha);have aa:=(sgC29_mem.mp ha).1;rw[← t]
 congr 1
 refine PB fun x hx=>?_;have xin:=(rK F aa.1 aa.2).2 x hx;rw[MZ,Mx,Mx,sgC29_mem];exact⟨fun hh=>⟨xin,hh⟩,fun hh=>hh.2⟩
theorem IE(ho:(!((squL h w).any fun sq=>sq.all fun c=>decide (c∈mkAt fl (rngL 0 (h*w)) m)))=true)(sin:∀ q∈squL h w,∀ c∈q,0<=c/\c<h*w):wk h w m fl:=by
 intro i hi hc;have e:mkAt fl (rngL 0 (h*w)) m=kQ h w m fl:=rfl;rw[e,Nz,Px] at ho
 have hq:sqL w i∈squL h w:=by
  unfold squL;exact MJ.mpr ⟨i,MK.mpr ⟨MF.mpr hi,hc⟩,rfl⟩
 have:=ho _ hq;refine Pw fun hn=>this (MC.mpr fun c hcc=>Mv (sgC29_mem.mpr ⟨sin _ hq c hcc,?_⟩));exact Pw fun hne=>hn ⟨c,hcc,hne⟩
theorem Ha(F:FlOk h w g):∀ q∈squL h w,∀ c∈q,0<=c/\c<h*w:=fun q hq c hc=>by
 obtain⟨i,hi,hcn,rfl⟩:=oZ hq;have w0:=F.w0;have b:=Cq w0 (by omega:(0:Int)<=i) hcn;unfold sqL at hc;simp only[MS,NP,O5] at hc;omega
theorem IF{cl:List Int}{t:TK}{r:Int}(A:AnsA h w g Mf cl Mc fl)(hb:alwA h w g Mf cl Mc t r z s ms=true):fl.getD z.toNat 0≠s:=by
 unfold alwA at hb;rw[MH] at hb;obtain⟨f,q⟩:=hb;obtain⟨z0,z1,s0,s1,Mq⟩:=dY f;have hf:=A.fll;have g6:=A.F.g1;have w0:=A.F.w0;by_cases hc:t=.clue
 . subst hc;intro e;unfold strA at q;change hJ g Mf cl Mc .clue r z s ms=true at q;unfold hJ clueB at q;simp only[MH,Mx,Nz,NE] at q;rcases A.cu z.toNat (by omega) with c | c
   . exact q.2.1 c
   . exact q.2.2 (c.trans e)
 . obtain⟨r0,y,ey,hgo,hz⟩:=oY hc Mq;have hy:=Mz ey;have O:=A.ok y hy;have ho:=A.ho y hy;have cin:=O7 O A.F;have ci:∀ c∈y.cs,0<=c/\c<h*w:=fun c hcc=>by have:=cin.2 c hcc;omega
   have nd:=RR.ndA O;have q39:gc h w Mf Mc t r z s ms=AE h w y Mc t z s ms:=by unfold gc;rw[ey]
   have q30:kZ h w Mf Mc t r z s ms=AB h w t y Mc z s ms:=by unfold kZ;rw[ey]
   have q28:hJ g Mf cl Mc t r z s ms=kY g t y Mc z s ms:=by
    unfold hJ;cases t <;> first | exact absurd rfl hc | (dsimp only;rw[ey])
   have un:y.k=.Unlike->(y.cs.map fun c=>fl.getD c.toNat 0).Nodup:=fun ek=>by
    rw[ek] at ho;exact(uE _).mp (MG ho)
   have reg:sgnK y.k=true->allK y.k=true->Ds h w y.m y.k fl->Ans29 h w g y.m y.k Mc fl:=fun hs _ R=>⟨A.F,hf,A.ml,A.mm,A.sg,A.st,(O.m0 hs).1,(O.m0 hs).2,R⟩;have call:allK y.k=true->y.cs=rngL 0 (h*w):=fun ha=>(O.cl.all ha).2;unfold strA at q;have at_:=A.at_
   cases t with
   | clue=>exact absurd rfl hc
   | only=>
    have ek:y.k=.Unlike:=by revert hgo;cases y.k <;> intro hgo <;> first | rfl | (cases hgo;done)
    change hJ g Mf cl Mc .only r z s ms=true at q;rw[q28] at q;exact oM g6 s0 s1 at_ ci (un ek) hz (.inl rfl) q
   | place=>
    have ek:y.k=.Unlike:=by revert hgo;cases y.k <;> intro hgo <;> first | rfl | (cases hgo;done)
    change hJ g Mf cl Mc .place r z s ms=true at q;rw[q28] at q;exact oM g6 s0 s1 at_ ci (un ek) hz (.inr (.inl rfl)) q
   | pair=>
    have ek:y.k=.Unlike:=by revert hgo;cases y.k <;> intro hgo <;> first | rfl | (cases hgo;done)
    change hJ g Mf cl Mc .pair r z s ms=true at q;rw[q28] at q;exact oM g6 s0 s1 at_ ci (un ek) hz (.inr (.inr rfl)) q
   | count=>
    have ek:y.k=.Count:=by revert hgo;cases y.k <;> intro hgo <;> first | rfl | (cases hgo;done)
    change gc h w Mf Mc .count r z s ms=true at q;rw[q39] at q;rw[ek] at ho;have m0:=O.m0 (by rw[ek];rfl);exact Dv g6 m0.1 (by omega) at_ ci hz (MG ho) q
   | step=>
    have ek:y.k=.Rising:=by revert hgo;cases y.k <;> intro hgo <;> first | rfl | (cases hgo;done)
    change gc h w Mf Mc .step r z s ms=true at q;rw[q39] at q;rw[ek] at ho;exact BZ g6 at_ ci hz ho q
   | sum=>
    have ek:y.k=.Sum:=by revert hgo;cases y.k <;> intro hgo <;> first | rfl | (cases hgo;done)
    change gc h w Mf Mc .sum r z s ms=true at q;rw[q39] at q;rw[ek] at ho;exact Du g6 at_ ci nd hz (MG ho) q
   | square=>
    have ek:y.k=.NoSquare:=by revert hgo;cases y.k <;> intro hgo <;> first | rfl | (cases hgo;done)
    change kZ h w Mf Mc .square r z s ms=true at q;rw[q30] at q;have ec:=call (by rw[ek];rfl)
    have R:wk h w y.m fl:=by
     rw[ek,ec] at ho;exact IE ho (Ha A.F)
    exact Jg (reg (by rw[ek];rfl) (by rw[ek];rfl) (by rw[ek];exact R)) R q
   | reach=>
    have ek:y.k=.Joined\/y.k=.Ring:=by revert hgo;cases y.k <;> intro hgo <;> first | exact .inl rfl | exact .inr rfl | (cases hgo;done)
    change kZ h w Mf Mc .reach r z s ms=true at q;rw[q30] at q;change reaB h w y.cs y.m Mc z s ms=true at q;have ea:allK y.k=true/\sgnK y.k=true:=by rcases ek with e | e <;> rw[e] <;> exact⟨rfl,rfl⟩
    have ec:=call ea.1;rw[ec] at q
    have J:o5 h w y.m fl:=by
     rw[ec] at ho;rcases ek with e | e
     . rw[e] at ho;exact A3 (by omega) ho
     . rw[e] at ho;exact A3 (by omega) ((MH _ _).mp ho).1
    have R:Ds h w y.m y.k fl:=by
     rw[ec] at ho;rcases ek with e | e
     . rw[e];exact J
     . rw[e] at ho ⊢;exact⟨J,Gf A.F ((MH _ _).mp ho).2⟩
    exact Jf (reg ea.2 ea.1 R) J z0 z1 q
   | turn=>
    have ek:y.k=.Ring:=by revert hgo;cases y.k <;> intro hgo <;> first | rfl | (cases hgo;done)
    change kZ h w Mf Mc .turn r z s ms=true at q;rw[q30] at q;have ec:=call (by rw[ek];rfl)
    have R:o5 h w y.m fl/\zH h w y.m fl:=by
     rw[ek,ec] at ho;have ho:=(MH _ _).mp ho;exact⟨A3 (by omega) ho.1,Gf A.F ho.2⟩
    exact IB (reg (by rw[ek];rfl) (by rw[ek];rfl) (by rw[ek];exact R)) R.2 z0 z1 q
   | ways=>
    change gc h w Mf Mc .ways r z s ms=true at q;rw[q39] at q;exact B0 A.ml at_ ci ho q
structure IG(h w g:Int)(Mf:List RR)(cl fl:List Int):Prop where
 F:FlOk h w g
 fll:fl.length=(h*w).toNat
 sg:∀ x∈fl,1<=x/\x<=g
 cu:∀ k,k<fl.length->cl.getD k 0=0\/cl.getD k 0=fl.getD k 0
 ok:∀ x∈Mf,x.Ok h w g
 ho:∀ x∈Mf,hoB x.k h w x.cs x.n x.m fl=true
structure Gd62(H:Hp)(c:RCl RK)(d:RCl PzK)(P L G f e:Addr)(h w g:Int)(Mf:List RR)(cl fl es:List Int):Prop where
 P:IsPz H c d P L G h w g Mf cl
 E:En62 H e (h*w) g es
 f:H f=some (.lst (fl.map V.int))
 A:IG h w g Mf cl fl
variable{H:Hp}{c:RCl RK}{d:RCl PzK}{P L G f e:Addr}{h w g:Int}{Mf:List RR}{cl fl es:List Int}
theorem Gd62.same{H':Hp}(X:Gd62 H c d P L G f e h w g Mf cl fl es)(s:Same H H'):Gd62 H' c d P L G f e h w g Mf cl fl es:=⟨X.P.same s,X.E.same s,s _ _ X.f,X.A⟩
def Fd62(H:Hp)(v:V)(o:Option Tho):Prop:=(o=none/\v=.non)\/∃(T M:Addr) (th:Tho),o=some th/\v=.ref T/\IsTh H T M th.t th.r th.z th.s th.ms
theorem Fd62.same{H':Hp}{v:V}{o:Option Tho}(X:Fd62 H v o)(s:Same H H'):Fd62 H' v o:=by
 rcases X with X | ⟨T,M,th,h1,h2,h3⟩
 . exact .inl X
 . exact .inr ⟨T,M,th,h1,h2,h3.same s⟩
abbrev du(g:Int)(es:List Int):List Int:=es.map (mbI g)
def dR(K:Frag)(c:RCl RK)(d:RCl PzK):Sp:=fun vs H Q _=>∃(P L G f e:Addr) (h w g:Int) (Mf:List RR) (cl fl es:List Int) (v:V),vs=[.ref P,.ref f,.ref e,v]/\Gd62 H c d P L G f e h w g Mf cl fl es/\Fd62 H v (ntF h w g Mf cl (du g es) allT)/\∀ H',Same H H'->Q (.bl true) H'
def gM(K:Frag)(c:RCl RK)(d:RCl PzK):TS:=
 (tSeq (sComp 7 [none,none,some 1,some 2] (gi (tCons (tCB kLen (tCons (tVar 1) tNil)) tNil)) (gName 1) (tTest (tOp (cIn K false) (tOp cIx (tVar 3) (tVar 1)) (tTup (tCons (tC (.int 0)) (tCons (tOp cIx (tVar 2) (tVar 1)) tNil))))) (tVar 1))
  (tRet (tOrV (tOp (cCmp fun i j=>decide (i<j)) (tCB kLen (tCons (tVar 7) tNil)) (tCB kLen (tCons (tVar 1) tNil))) (tOp (cNe K) (tOp cIx (tVar 1) (tOp cIx (tVar 3) (tC (.int 2)))) (tOp cIx (tVar 3) (tC (.int 3)))))))
def gN(K:Frag)(c:RCl RK)(d:RCl PzK):TS:=
 (tSeq (tIfS (tOr (tB (tCall (dq K) [] E0 (tCons (tVar 4) tNil))) (tOr (tNot (tB (tCall (oF K c d) [] E0 (tCons (tVar 0) (tCons (tVar 4) (tCons (tVar 3) tNil)))))) (tNot (tB (tCall (dX K) [] E0 (tCons (tOp cIx (tVar 4) (tOp cIx (tVar 3) (tC (.int 2)))) (tCons (tOp cIx (tVar 3) (tC (.int 3))) tNil))))))) (tRet (tC (.bl false))) tNext)
  (gM K c d))
def gO(K:Frag)(c:RCl RK)(d:RCl PzK):TS:=
 (tSeq (tFor (iTup K (tSl (rSlT K) (tVar 3) (tPart (tC (.int 1))) (tPart (tC (.int 4))))) (gName 6)
  (tIfS (tOr (tNot (tB (tCB kIsi (tCons (tVar 6) (tCons (tC (.ty "int")) tNil))))) (tB (tCB kIsi (tCons (tVar 6) (tCons (tC (.ty "bool")) tNil))))) (tRet (tC (.bl false))) tNext))
  (gN K c d))
def gP(K:Frag)(c:RCl RK)(d:RCl PzK):TS:=
 (tSeq (tIfS (tOr (tTest (tOp (cNe K) (tVar 3) (tCall (dt K c d) [] E0 (tCons (tVar 0) (tCons (tVar 4) (tCons (tCB (rS K) (tCons (tGT K bu) tNil)) tNil)))))) (tB (tInG bu true (tOp cIx (tVar 3) (tC (.int 0)))))) (tRet (tC (.bl false))) tNext)
  (gO K c d))
def gQ(K:Frag)(c:RCl RK)(d:RCl PzK):TS:=
 (tSeq (tIfS (tOr (tNot (tB (tCB kIsi (tCons (tVar 3) (tCons (tC (.ty "tuple")) tNil))))) (tOr (tTest (tOp (cNe K) (tCB kLen (tCons (tVar 3) tNil)) (tC (.int 5)))) (tOr (tNot (tB (tCB kIsi (tCons (tOp cIx (tVar 3) (tC (.int 4))) (tCons (tC (.ty "list")) tNil))))) (tTest (tOp (cEq K) (tVar 5) (tLst tNil)))))) (tRet (tC (.bl false))) tNext)
  (gP K c d))
def gR(K:Frag)(c:RCl RK)(d:RCl PzK):TS:=
 (tSeq (tIfS (tTest (tOp rIsN (tVar 3) (tC .non))) (tRet (tAndV (tOp (cEq K) (tVar 5) (tLst tNil)) (tOp rIsN (tCall (dt K c d) [] E0 (tCons (tVar 0) (tCons (tVar 4) (tCons (tCB (rS K) (tCons (tGT K bu) tNil)) tNil)))) (tC .non)))) tNext)
  (gQ K c d))
def lL(K:Frag)(c:RCl RK)(d:RCl PzK):TS:=
 (tSeq (tAsg (tOp cIx (tCall (uQ K c d) [] E0 (tCons (tVar 0) (tCons (tVar 4) (tCons (tCB (rS K) (tCons (tGT K bu) tNil)) tNil)))) (tC (.int 1))) (gName 5))
  (gR K c d))
def kB(K:Frag)(c:RCl RK)(d:RCl PzK):TS:=
 (tSeq (tAsg (tCall (kP K) [] E0 (tCons (aD d d.ok "place" (d3 K c d) (tVar 0) tNil) (tCons (tVar 2) tNil))) (gName 4))
  (lL K c d))
theorem nt_none{m:List Int}{ks:List TK}:ntF h w g Mf cl m ks=none↔End h w g Mf cl ks m:=by
 unfold ntF;by_cases h0:(0:Int)∈m
 . rw[MU h0];exact⟨fun _=>.inl h0,fun _=>rfl⟩
 . rw[MP h0,List.head?_eq_none_iff];exact⟨.inr,fun h=>h.elim (fun a=>absurd a h0) id⟩
variable{ms:List Int}
theorem Hc{t:TK}{r z s:Int}(A:IG h w g Mf cl fl)(E:En62 H e (h*w) g es)(al:∀ k,k<fl.length->es.getD k 0=0\/es.getD k 0=fl.getD k 0)(hb:alwA h w g Mf cl (du g es) t r z s ms=true):fl.getD z.toNat 0≠s:=by
 have g0:=A.F.g0;have g6:=A.F.g1;have en:=E.n;have fn:=A.fll;have mk:=E.mk' g0 g6;have p64:=kN g0 g6;refine IF ⟨A.F,A.fll,mk.1,fun m hm=>by have:=mk.2 m hm;omega,A.sg,fun k hk=>?_,A.cu,A.ok,A.ho⟩ hb;have hk2:k<es.length:=by omega
 have em:(du g es).getD k 0=mbI g (es.getD k 0):=by rw[List.getD,MA,Mt hk2,List.getD,Mt hk2];rfl
 have ex:=E.ok _ (show es.getD k 0∈es by rw[List.getD,Mt hk2];exact MT hk2);have fx:=A.sg _ (show fl.getD k 0∈fl by rw[List.getD,Mt hk];exact MT hk);rw[em,(Ge g0 g6 ex.1 ex.2).2 _ fx.1 (by omega),Mv fx.2];rcases al k hk with a | a
 . rw[Mv a];rfl
 . rw[Mv a,Bool.or_true];rfl
variable{K:Frag}{Q:VK}{v5:Option V}
theorem A4{T M:Addr}{th:Tho}{v4 v6:Option V}(X:Gd62 H c d P L G f e h w g Mf cl fl es)(Th:IsTh H T M th.t th.r th.z th.s th.ms)(zb:0<=th.z/\th.z<h*w)(hb:alwA h w g Mf cl (du g es) th.t th.r th.z th.s th.ms=true)(q:∀ H',Same H H'->Q (.bl true) H'):
  gM K c d (eD9 Q) [some (.ref P),some (.ref f),some (.ref e),some (.ref T),v4,v5,v6,none] H:=by
 have m16:=X.A.F.m;have fn:=X.A.fll;have en:=X.E.n;have fl16:fl.length<=16:=by omega
 unfold gM;symm;rw[bc X.f,Mr];refine⟨_,rfl,by omega,by omega,?_⟩;refine oh (fun(i:Nat)=>decide (es.getD i 0∈([0,fl.getD i 0]:List Int))) (fun(i:Nat)=>(i:Int)) (by omega) ?_ ?_ ?_
 . intro i H4 R4 hi s4 k4;have hi':i<fl.length:=by have:i < ((fl.length:Nat):Int).toNat:=hi;omega
   show tTest _ [none,some (.int (0+(i:Int))),some (.ref f),some (.ref e)] H4 R4;rw[Og];symm;refine ixI (s4 _ _ X.E.e) (by omega) (by omega) ?_;symm;refine ixI (s4 _ _ X.f) (by omega) (by omega) ?_;rw[NU];refine⟨lnR rfl,fun U hU=>?_⟩;have s5:Same H4 (upd H4 U (.tup (([0,fl.getD i 0]:List Int).map V.int))):=(Mw H4).laid hU;have eU:(upd H4 U (.tup (([0,fl.getD i 0]:List Int).map V.int))) U=some (.tup (([0,fl.getD i 0]:List Int).map V.int)):=ak;show cIn K false (V.int (es.getD i 0)) (V.ref U) (upd H4 U (.tup (([0,fl.getD i 0]:List Int).map V.int))) _;rw[EK eU];exact⟨_,rfl,k4 _ s5⟩
 . intro i H4 Q4 hi hb4 s4 k4;show tVar 1 [none,some (.int (0+(i:Int))),some (.ref f),some (.ref e)] H4 Q4;rw[Og];symm;exact k4 _ (Mw _)
 . intro R H1 hR s1 eR;have X1:=X.same s1;have Th1:=Th.same s1;symm;rw[bc eR,Mr,Mr];symm;rw[bc X1.f,Mr];symm;by_cases hl:((((List.range ((fl.length:Nat):Int).toNat).filter fun(i:Nat)=>decide (es.getD i 0∈([0,fl.getD i 0]:List Int))).length:Nat):Int) < ((fl.length:Nat):Int)
   . rw[Mv hl];symm;exact q _ s1
   . rw[Mu hl]
     have hall:((List.range fl.length).filter fun(i:Nat)=>decide (es.getD i 0∈([0,fl.getD i 0]:List Int))).length=(List.range fl.length).length:=by
      have l1:=MM (fun(i:Nat)=>decide (es.getD i 0∈([0,fl.getD i 0]:List Int))) (List.range fl.length);have e1:(((fl.length:Nat):Int)).toNat=fl.length:=by omega
      rw[e1] at hl;rw[Nv] at l1 ⊢;omega
     have al:∀ k,k<fl.length->es.getD k 0=0\/es.getD k 0=fl.getD k 0:=fun k hk=>by
      have:=OQ.mp hall k (MF.mpr hk)
      simpa using this
     have ne:=Hc X.A X.E al hb;symm;refine ixT Th1.T (v:=V.int th.z) rfl ?_;refine ixI X1.f zb.1 (by omega) ?_;symm;refine ixT Th1.T (v:=V.int th.s) rfl ?_;symm;rw[Mu ne];exact q _ s1
theorem Jj{m:List Int}{th:Tho}(R:g7 c h w g Mf)(M:MkP g (h*w).toNat m)(e:ntF h w g Mf cl m allT=some th):OkT h w g Mf cl allT m th:=by
 unfold ntF at e;by_cases h0:(0:Int)∈m
 . rw[MU h0] at e;cases e
 . rw[MP h0] at e;obtain⟨m',W⟩:=AO (cl:=cl) (ks:=allT) R M h0
   cases hf:ffF h w g Mf cl m allT with
   | nil=>rw[hf] at e;cases e
   | cons x r=>
    rw[hf] at e W;cases e;exact W.1
theorem A5{A T M:Addr}{th:Tho}{v6:Option V}(X:Gd62 H c d P L G f e h w g Mf cl fl es)(eA:H A=some (.lst ((du g es).map V.int)))(Th:IsTh H T M th.t th.r th.z th.s th.ms)(ok:OkT h w g Mf cl allT (du g es) th)(q:∀ H',Same H H'->Q (.bl true) H'):
  gN K c d (eD9 Q) [some (.ref P),some (.ref f),some (.ref e),some (.ref T),some (.ref A),v5,v6,none] H:=by
 have g0:=X.A.F.g0;have g6:=X.A.F.g1;have mk:=X.E.mk' g0 g6;have p64:=kN g0 g6;have zl:th.z < (du g es).length:=by have:=X.E.n;have:=ok.2.2.1;show th.z < ((es.map (mbI g)).length:Int);rw[Mr];omega
 unfold gN;rw[aE,aA];symm;refine⟨A,_,rfl,eA,?_⟩;rw[Mu ok.1];symm;refine⟨P,L,G,A,T,M,h,w,g,Mf,cl,_,th.t,th.r,th.z,th.s,th.ms,rfl,⟨X.P,Th,eA,mk.1⟩,fun m hm=>by have:=mk.2 m hm;omega,fun H1 s1=>?_⟩;rw[ok.2.2.2.2.2];symm;refine ixT (Th.same s1).T (v:=V.int th.z) rfl ?_;refine ixI (s1 _ _ eA) ok.2.2.1.1 zl ?_;symm;refine ixT (Th.same s1).T (v:=V.int th.s) rfl ?_;refine⟨_,_,rfl,?_⟩;rw[ok.2.2.2.2.1];symm;exact A4 (X.same s1) (Th.same s1) ok.2.2.1 ok.2.2.2.2.2 fun H' s'=>q H' (s1.trans s')
theorem A6{A T M:Addr}{th:Tho}(X:Gd62 H c d P L G f e h w g Mf cl fl es)(eA:H A=some (.lst ((du g es).map V.int)))(Th:IsTh H T M th.t th.r th.z th.s th.ms)(ok:OkT h w g Mf cl allT (du g es) th)(q:∀ H',Same H H'->Q (.bl true) H'):
  gO K c d (eD9 Q) [some (.ref P),some (.ref f),some (.ref e),some (.ref T),some (.ref A),v5,none,none] H:=by
 unfold gO;rw[aE,Io];symm;refine⟨T,_,rfl,Qa Th.T,(by show ¬ (HT.sIx 5 0 (some 1)=0/\HT.sIx 5 5 (some 4)=5);decide),fun U hU=>?_⟩;have s1:Same H (upd H U (.tup (([th.r,th.z,th.s]:List Int).map V.int))):=(Mw H).laid hU;have eU:(upd H U (.tup (([th.r,th.z,th.s]:List Int).map V.int))) U=some (.tup (([th.r,th.z,th.s]:List Int).map V.int)):=ak;have ec:cutV [V.str (tx (tkC th.t)),V.int th.r,V.int th.z,V.int th.s,V.ref M] (some 1) (some 4)=([th.r,th.z,th.s]:List Int).map V.int:=by rfl
 rw[ec];generalize upd H U (.tup (([th.r,th.z,th.s]:List Int).map V.int))=H1 at*;refine⟨U,rfl,⟨_,Qa eU⟩,?_⟩;refine Gi (K:=K) (xs:=([th.r,th.z,th.s]:List Int).map V.int) (fun i σ H'=>H'=H1/\∃ v6:Option V,σ=[some (.ref P),some (.ref f),some (.ref e),some (.ref T),some (.ref A),v5,v6,none]) ⟨rfl,none,rfl⟩ (fun i σ H' _ ⟨e,_⟩=>by rw[e];exact Qa eU) ?_ ?_
 . rintro i v σ H2 hv ⟨rfl,v6,rfl⟩;obtain⟨x,hx,rfl⟩:=aQ hv;symm;rw[aA];symm;exact⟨trivial,_,rfl⟩
 . rintro σ H2 ⟨rfl,v6,rfl⟩;exact A5 (X.same s1) (s1 _ _ eA) (Th.same s1) ok fun H' s'=>q H' (s1.trans s')
theorem FZ{T M T2 M2:Addr}{t:TK}{r z s:Int}(a:IsTh H T M t r z s ms)(b:IsTh H T2 M2 t r z s ms)(q:Q (.bl false) H):cNe K (.ref T) (.ref T2) H Q:=by
 show rNeD K (.ref T) (.ref T2) H Q;refine⟨dTh t r z s ms,dTh t r z s ms,Dn a,Dn b,yA t r z s ms,yA t r z s ms,?_⟩;rw[Im];exact q
theorem xN{σ:St}(q:∀(l:Addr) (H':Hp),Same H H'->H l=none->KdL H' l allT->Q (.ref l) H'):tGT K bu σ H fun x H1=>rS K [x] H1 Q:=by
 rw[FQ];intro u hu;rw[l0] at hu;exact⟨u,_,rfl,.inr hu,fun l hl=>q l _ ((Mw H).laid hl) hl ak⟩
theorem Fc{b:Bool}{A B:Prop}(e:b=false)(h:B):if b=true then A else B:=by rw[e];exact iteF h
theorem A7{A T M:Addr}{th:Tho}(X:Gd62 H c d P L G f e h w g Mf cl fl es)(eA:H A=some (.lst ((du g es).map V.int)))(Th:IsTh H T M th.t th.r th.z th.s th.ms)(en:ntF h w g Mf cl (du g es) allT=some th)(q:∀ H',Same H H'->Q (.bl true) H'):
  gP K c d (eD9 Q) [some (.ref P),some (.ref f),some (.ref e),some (.ref T),some (.ref A),v5,none,none] H:=by
 have mk:=X.E.mk' X.A.F.g0 X.A.F.g1;have ok:=Jj X.P.R mk en;unfold gP;rw[aE,aA];symm;refine xN fun Kd H1 s1 hK eK=>?_;refine⟨P,L,G,A,Kd,h,w,g,Mf,cl,_,allT,rfl,⟨X.P.same s1,s1 _ _ eA,mk.1,mk.2⟩,.inl eK,(fun e0=>by rw[en] at e0;cases e0),fun th2 T2 M2 H2 e2 s2 hT2 hM2 Th2=>?_⟩;rw[en] at e2;cases e2;have s12:=s1.trans s2;refine FZ (Th.same s12) Th2 ?_;symm;refine ixT (Th.same s12).T (v:=V.str (tx (tkC th.t))) rfl ?_;refine⟨_,rfl,?_⟩;have hin:tx (tkC th.t)∈bu:=by rw[l0];exact MJ.mpr ⟨th.t,by cases th.t <;> decide,rfl⟩
 rw[Mv hin];symm;exact A6 (X.same s12) (s12 _ _ eA) (Th.same s12) ok fun H' s'=>q H' (s12.trans s')
variable{Mm:List Tho}
theorem A8{A T M B:Addr}{bs Ms:List Addr}{th:Tho}(X:Gd62 H c d P L G f e h w g Mf cl fl es)(eA:H A=some (.lst ((du g es).map V.int)))(Th:IsTh H T M th.t th.r th.z th.s th.ms)(en:ntF h w g Mf cl (du g es) allT=some th)(Bk:IsBk H B bs Ms Mm)(hne:Mm≠[])(q:∀ H',Same H H'->Q (.bl true) H'):
  gQ K c d (eD9 Q) [some (.ref P),some (.ref f),some (.ref e),some (.ref T),some (.ref A),some (.ref B),none,none] H:=by
 unfold gQ;rw[aE,aA];symm;refine Aa Th.T ?_;symm;rw[zY Th.T];symm;refine Fc (by rfl) ?_;refine ixT Th.T (v:=V.ref M) rfl ?_;refine z8 Th.M ?_;symm;refine⟨aR (by decide),fun E hE=>?_⟩;obtain⟨H1,z9,s1,eE⟩:=aY (.lst []) hE;rw[z9];refine AL (Bk.same s1) eE ?_;rw[Mu (fun e0=>hne (OK.mp e0))];symm;exact A7 (X.same s1) (s1 _ _ eA) (Th.same s1) en fun H' s'=>q H' (s1.trans s')
theorem A9{A B:Addr}{bs Ms:List Addr}{now:List Int}{v:V}(X:Gd62 H c d P L G f e h w g Mf cl fl es)(eA:H A=some (.lst ((du g es).map V.int)))(Fd:Fd62 H v (ntF h w g Mf cl (du g es) allT))(Bk:IsBk H B bs Ms Mm)(R:ThR h w g Mf cl allT (du g es) Mm now)(q:∀ H',Same H H'->Q (.bl true) H'):
  gR K c d (eD9 Q) [some (.ref P),some (.ref f),some (.ref e),some v,some (.ref A),some (.ref B),none,none] H:=by
 have mk:=X.E.mk' X.A.F.g0 X.A.F.g1;unfold gR;rcases Fd with ⟨en,rfl⟩ | ⟨T,M,th,en,rfl,Th⟩
 . have e0:=R.empty.mpr (nt_none.mp en);rw[aE,aA];symm;refine⟨aR (by decide),fun E hE=>?_⟩;obtain⟨H1,z9,s1,eE⟩:=aY (.lst []) hE;rw[z9];refine AL (Bk.same s1) eE ?_;rw[Mv (by rw[e0];rfl)];refine⟨true,rfl,iteT ?_⟩;refine xN fun Kd H2 s2 hK eK=>?_;have s12:=s1.trans s2;refine⟨P,L,G,A,Kd,h,w,g,Mf,cl,_,allT,rfl,⟨X.P.same s12,s12 _ _ eA,mk.1,mk.2⟩,.inl eK,fun _ H3 s3=>?_,fun th2 T2 M2 H3 e2=>by rw[en] at e2;cases e2⟩;exact q _ (s12.trans s3)
 . have hne:Mm≠[]:=fun e0=>by have:=nt_none.mpr (R.empty.mp e0);rw[en] at this;cases this
   rw[aE,aA];symm;refine Fc (Mu (by simp)) ?_;exact A8 X eA Th en Bk hne q
variable{vs:List V}
theorem xO{E:XK}(h:dR K c d vs H Q E):kB K c d (eD9 Q) (start ["_law_puzzle","_law_answer","_law_entries_here","_law_found","_law_left","_law_book","_law_number","_law_right"] vs) H:=by
 obtain⟨P,L,G,f,e,h,w,g,Mf,cl,fl,es,v,rfl,X,Fd,q⟩:=h;obtain⟨dx,p,rs,h1,h2,h3⟩:=X.P.ex;have g0:=X.A.F.g0;have g6:=X.A.F.g1;have m16:=X.A.F.m;have yn:=X.E.n;have mk:=X.E.mk' g0 g6;show kB K c d _ [some (.ref P),some (.ref f),some (.ref e),some v,none,none,none,none] H;unfold kB;symm;refine methE (k:=.Puzzle) rfl X.P.ok h1 (by rfl) ?_;symm;refine⟨P,L,G,h,w,g,Mf,cl,rfl,X.P,fun p2 hp2=>?_⟩;symm;refine⟨p2,e,h,w,g,es,rfl,hp2,g0,g6,X.E.e,by omega,fun x hx=>by have:=X.E.ok x hx;omega,fun A H1 s1 hA eA=>?_⟩;unfold lL;symm;refine xN fun Kd H2 s2 hK eK=>?_;have s12:=s1.trans s2;refine⟨P,L,G,A,Kd,h,w,g,Mf,cl,_,allT,rfl,⟨X.P.same s12,s2 _ _ eA,mk.1,mk.2⟩,.inl eK,fun T N B bs Ms now Mm H3 s3 hT hN hB hb hM eT eN Bk nNB W en R=>?_⟩;refine ixT eT (v:=V.ref B) rfl ?_;symm;have s13:=s12.trans s3;exact A9 (X.same s13) ((s2.trans s3) _ _ eA) (Fd.same s13) Bk R fun H' s'=>q H' (s13.trans s')
def Fe(K:Frag)(c:RCl RK)(d:RCl PzK):Sp:=fun vs H Q _=>∃(a:Addr) (ns:List Int),vs=[.ref a]/\SqL K H a (ns.map V.int)/\ns.length<=63/\(∀ k,k≠.Rule->c.ok k=true)/\d.ok .Puzzle=true/\∀ H',Q (.bl true) H'
def xP(K:Frag):Sp:=fun vs H Q _=>∃(a:Addr) (ns:List Int),vs=[.ref a]/\SqL K H a (ns.map V.int)/\ns.length<=63/\∀ H',Q (.bl true) H'
def uS(K:Frag)(c:RCl RK)(d:RCl PzK):TS:=
 (tIfS (tNot (tB (tCall (dR K c d) [] E0 (tCons (tVar 6) (tCons (tVar 3) (tCons (tVar 9) (tCons (tCall (tp K c d) [] E0 (tCons (tVar 6) (tCons (tVar 10) tNil))) tNil))))))) (tRet (tC (.bl false))) tNext)
def F0(K:Frag)(c:RCl RK)(d:RCl PzK):TS:=
 (tSeq (tAsg (tCB kList (tCons (tVar 9) tNil)) (gName 10))
  (tSeq (tAsg (tCall (tp K c d) [] E0 (tCons (tVar 6) (tCons (tVar 10) tNil))) (gName 11))
  (tSeq (tIfS (tOr (tTest (tOp (cNe K) (tVar 10) (tVar 9))) (tOr (tTest (tOp (cNe K) (aD d d.ok "clues" (mJ K c d) (tVar 6) tNil) (tVar 4))) (tNot (tB (tCall (dR K c d) [] E0 (tCons (tVar 6) (tCons (tVar 3) (tCons (tVar 9) (tCons (tVar 11) tNil))))))))) (tRet (tC (.bl false))) tNext)
  (tSeq (tIfS (tTest (tOp rNotN (tVar 11) (tC .non))) (tDrop (tBM K "list" bo (tOp cIx (tVar 11) (tC (.int 4))) (tCons (tC (.int 0)) tNil))) tNext)
  (uS K c d)))))
def rT(K:Frag)(c:RCl RK)(d:RCl PzK):TS:=
 (tSeq (tFor (iList K (tLst (tCons (tVar 7) (tCons (tOp cRepL (tLst (tCons (tC (.int 0)) tNil)) (tCB kLen (tCons (tVar 3) tNil))) (tCons (tVar 8) tNil))))) (gName 9)
  (F0 K c d))
  (tRet (tC (.bl true))))
def yD(K:Frag)(c:RCl RK)(d:RCl PzK):TS:=
 (tSeq (tAsg (tCall (dH K) [] E0 (tCons (tVar 0) (tCons (tC (.int 520)) (tCons (tVar 1) (tCons (tVar 3) tNil))))) (gName 7))
  (tSeq (tAsg (tCall (dH K) [] E0 (tCons (tVar 0) (tCons (tC (.int 540)) (tCons (tVar 1) (tCons (tVar 3) tNil))))) (gName 8))
  (rT K c d)))
def rV(K:Frag)(c:RCl RK)(d:RCl PzK):TS:=
 (tSeq (tAsg (tMake (d.A .Puzzle) (bZ K c d) [] E0 (tCons (tVar 1) (tCons (tVar 2) (tCons (tVar 4) tNil)))) (gName 6))
  (yD K c d))
def rW(K:Frag)(c:RCl RK)(d:RCl PzK):TS:=
 (tSeq (tAsg (tCB kList (tCons (tVar 3) tNil)) (gName 4))
  (tSeq (tFor (gi (tCons (tCB kLen (tCons (tVar 4) tNil)) tNil)) (gName 5)
  (tIfS (tTest (tOp (cEq K) (tOp cMod (tCall (bA K) [] E0 (tCons (tVar 0) (tCons (tOp cAdd (tC (.int 490)) (tVar 5)) tNil))) (tC (.int 2))) (tC (.int 0)))) (tAsg (tC (.int 0)) (gSub (tVar 4) (tVar 5) cPut)) tNext))
  (rV K c d)))
def Ba(K:Frag)(c:RCl RK)(d:RCl PzK):TS:=
 (tSeq (tAsg (tCall (jR K c) [] E0 (tCons (tVar 0) tNil)) (gTup K 3 (gCons (gName 1) (gCons (gName 2) (gCons (gName 3) gNil)))))
  (rW K c d))
theorem IH{b:Bool}{A B:Prop}(e:b=true)(h:A):if b=true then A else B:=by rw[e];exact iteT h
theorem He {D:Ends} {Hd:Addr} {v0 v1 v2 v4 v7 v8 v11:Option V} (X:Gd62 H c d P L G f e h w g Mf cl fl es) (Eh:En62 H Hd (h*w) g es)
  (k:∀ H',Same H H'->D.nx [v0,v1,v2,some (.ref f),v4,v5,some (.ref P),v7,v8,some (.ref e),some (.ref Hd),v11] H'):
  uS K c d D [v0,v1,v2,some (.ref f),v4,v5,some (.ref P),v7,v8,some (.ref e),some (.ref Hd),v11] H:=by
 unfold uS;rw[aA];symm;refine⟨P,L,G,Hd,h,w,g,Mf,cl,es,rfl,X.P,Eh,fun en H1 s1=>?_,fun th T M H1 en s1 hT hM Th=>?_⟩
 . refine⟨P,L,G,f,e,h,w,g,Mf,cl,fl,es,_,rfl,X.same s1,.inl ⟨en,rfl⟩,fun H2 s2=>?_⟩;exact⟨true,rfl,iteF (k H2 (s1.trans s2))⟩
 . refine⟨P,L,G,f,e,h,w,g,Mf,cl,fl,es,_,rfl,X.same s1,.inr ⟨T,M,th,en,rfl,Th⟩,fun H2 s2=>?_⟩;exact⟨true,rfl,iteF (k H2 (s1.trans s2))⟩
theorem Hf {D:Ends} {H0:Hp} {C:Addr} {v0 v1 v2 v7 v8 v10 v11:Option V} (X:Gd62 H0 c d P L G f e h w g Mf cl fl es) (s0:Same H0 H) (eC:H0 C=some (.lst (cl.map V.int)))
  (k:∀(v10 v11:Option V) (H':Hp),Same H0 H'->D.nx [v0,v1,v2,some (.ref f),some (.ref C),v5,some (.ref P),v7,v8,some (.ref e),v10,v11] H'):
  F0 K c d D [v0,v1,v2,some (.ref f),some (.ref C),v5,some (.ref P),v7,v8,some (.ref e),v10,v11] H:=by
 have X0:=X.same s0;have fin:∀(Hd:Addr) (v11:Option V) (H1:Hp),Same H0 H1->H1 Hd=some (.lst (es.map V.int))->uS K c d D [v0,v1,v2,some (.ref f),some (.ref C),v5,some (.ref P),v7,v8,some (.ref e),some (.ref Hd),v11] H1:=fun Hd v11 H1 s1 e1=>He (X.same s1) ⟨e1,X.E.n,X.E.ok⟩ fun H' s'=>k _ _ H' (s1.trans s');unfold F0;symm;refine mn X0.E.e fun Hd hHd=>?_;obtain⟨H1,z9,s1,eH⟩:=aY (.lst (es.map V.int)) hHd;rw[z9];have s01:=s0.trans s1
 have mid:∀(v:V) (H2:Hp),Same H1 H2->Fd62 H2 v (ntF h w g Mf cl (du g es) allT)->(∀ H3,Same H2 H3->(tSeq (tIfS (tTest (tOp rNotN (tVar 11) (tC .non))) (tDrop (tBM K "list" bo (tOp cIx (tVar 11) (tC (.int 4))) (tCons (tC (.int 0)) tNil))) tNext) (uS K c d)) D [v0,v1,v2,some (.ref f),some (.ref C),v5,some (.ref P),v7,v8,some (.ref e),some (.ref Hd),some v] H3)->(tSeq (tIfS (tOr (tTest (tOp (cNe K) (tVar 10) (tVar 9))) (tOr (tTest (tOp (cNe K) (aD d d.ok "clues" (mJ K c d) (tVar 6) tNil) (tVar 4))) (tNot (tB (tCall (dR K c d) [] E0 (tCons (tVar 6) (tCons (tVar 3) (tCons (tVar 9) (tCons (tVar 11) tNil))))))))) (tRet (tC (.bl false))) tNext) (tSeq (tIfS (tTest (tOp rNotN (tVar 11) (tC .non))) (tDrop (tBM K "list" bo (tOp cIx (tVar 11) (tC (.int 4))) (tCons (tC (.int 0)) tNil))) tNext) (uS K c d))) D [v0,v1,v2,some (.ref f),some (.ref C),v5,some (.ref P),v7,v8,some (.ref e),some (.ref Hd),some v] H2:=fun v H2 s2 Fd nx=>by
  have s02:=s01.trans s2;have X2:=X.same s02;obtain⟨dx,p,rs,h1,h2,h3⟩:=X2.P.ex;rw[aE,aA];generalize hW:(tSeq (tIfS (tTest (tOp rNotN (tVar 11) (tC .non))) (tDrop (tBM K "list" bo (tOp cIx (tVar 11) (tC (.int 4))) (tCons (tC (.int 0)) tNil))) tNext) (uS K c d))=W at*;symm;refine nk (s2 _ _ eH) X2.E.e ?_;rw[Mv rfl];symm;refine methE (k:=.Puzzle) rfl X2.P.ok h1 (by rfl) ?_;symm;refine⟨P,L,G,h,w,g,Mf,cl,rfl,X2.P,fun l hl=>?_⟩;obtain⟨H3,z9,s3,el⟩:=aY (.lst (cl.map V.int)) hl;rw[z9];symm;refine nk el ((s02.trans s3) _ _ eC) ?_;rw[Mv rfl];symm;refine⟨P,L,G,f,e,h,w,g,Mf,cl,fl,es,v,rfl,X2.same s3,Fd.same s3,fun H4 s4=>?_⟩;refine⟨true,rfl,iteF ?_⟩;exact nx H4 (s3.trans s4)
 have X1:=X.same s01;symm;refine⟨P,L,G,Hd,h,w,g,Mf,cl,es,rfl,X1.P,⟨eH,X.E.n,X.E.ok⟩,fun en H2 s2=>?_,fun th T M H2 en s2 hT hM Th=>?_⟩
 . refine mid .non H2 s2 (.inl ⟨en,rfl⟩) fun H3 s3=>?_;have s23:=s2.trans s3;rw[aE,aA];symm;exact fin Hd _ H3 (s01.trans s23) (s23 _ _ eH)
 . refine mid (.ref T) H2 s2 (.inr ⟨T,M,th,en,rfl,Th⟩) fun H3 s3=>?_;have s23:=s2.trans s3;have Th3:=Th.same s3;rw[aE,aA];symm;refine IH (by simp) ?_;refine ixT Th3.T (v:=V.ref M) rfl ?_;refine⟨bq Th3.M,?_⟩;rw[fP Th3.M];have tn:=Th3.n;refine⟨by rw[Mr];exact aK (by omega),?_⟩;have nH:Hd≠M:=fun e0=>by rw[← e0,eH] at hM;cases hM
   refine fin Hd _ _ ((s01.trans s23).own (s01.free hM)) ?_;rw[aq nH];exact s23 _ _ eH
theorem B1{e1 e2 C:Addr}{es1 es2:List Int}{v0 v1 v2:Option V}(X1:Gd62 H c d P L G f e1 h w g Mf cl fl es1)(X2:En62 H e2 (h*w) g es2)(eC:H C=some (.lst (cl.map V.int)))(k:∀ H',Q (.bl true) H'):
  rT K c d (eD9 Q) [v0,v1,v2,some (.ref f),some (.ref C),v5,some (.ref P),some (.ref e1),some (.ref e2),none,none,none] H:=by
 have fn:=X1.A.fll;have m16:=X1.A.F.m;have g0:=X1.A.F.g0;unfold rT;symm;refine⟨lnR rfl,fun O hO=>?_⟩;obtain⟨H1,z9,s1,eO⟩:=aY (.lst [V.int 0]) hO;rw[z9];rw[bc (s1 _ _ X1.f),Mr];refine Er eO (by omega) (by omega) (by simp) fun Z hZ=>?_
 have ez:(List.replicate ((fl.length:Nat):Int).toNat [V.int 0]).flatten=(List.replicate fl.length (0:Int)).map V.int:=by
  rw[NU];generalize fl.length=n
  induction n with
  | zero=>rfl
  | succ n ih=>rw[N7,Ox,ih];rfl
 rw[ez];obtain⟨H2,z9,s2,eZ⟩:=aY (.lst ((List.replicate fl.length (0:Int)).map V.int)) hZ;rw[z9];have s12:=s1.trans s2;have E2:En62 H2 Z (h*w) g (List.replicate fl.length (0:Int)):=⟨eZ,by rw[Ow];exact fn,fun x hx=>by rw[(OJ.mp hx).2];omega⟩;refine⟨lnR rfl,fun U hU=>?_⟩;have s3:Same H2 (upd H2 U (.lst (([e1,Z,e2]:List Addr).map V.ref))):=(Mw H2).laid hU;have eU:(upd H2 U (.lst (([e1,Z,e2]:List Addr).map V.ref))) U=some (.lst (([e1,Z,e2]:List Addr).map V.ref)):=ak;have hz:upd H2 U (.lst [V.ref e1,V.ref Z,V.ref e2])=upd H2 U (.lst (([e1,Z,e2]:List Addr).map V.ref)):=rfl;rw[hz];generalize upd H2 U (.lst (([e1,Z,e2]:List Addr).map V.ref))=H3 at*;have s13:=s12.trans s3;have Y1:=X1.same s13
 have all:∀ e∈([e1,Z,e2]:List Addr),∃ es,En62 H3 e (h*w) g es:=fun e he=>by
  simp only[MS,NP,O5] at he;rcases he with rfl | rfl | rfl
  . exact⟨_,Y1.E⟩
  . exact⟨_,E2.same s3⟩
  . exact⟨_,X2.same s13⟩
 refine⟨⟨_,MO eU⟩,?_⟩;refine bp (K:=K) (xs:=([e1,Z,e2]:List Addr).map V.ref) (fun i σ H'=>Same H3 H'/\∃ v9 v10 v11:Option V,σ=[v0,v1,v2,some (.ref f),some (.ref C),v5,some (.ref P),some (.ref e1),some (.ref e2),v9,v10,v11]) ⟨Mw _,_,_,_,rfl⟩ (fun i σ H' _ ⟨s,_⟩=>MO (s _ _ eU)) ?_ ?_
 . rintro i v σ H4 hv ⟨s4,v9,v10,v11,rfl⟩;obtain⟨e,he,rfl⟩:=bx hv;obtain⟨es,Ee⟩:=all e (Mz he);symm;exact Hf (H0:=H3) ⟨Y1.P,Ee,Y1.f,Y1.A⟩ s4 (s13 _ _ eC) fun v10 v11 H' s'=>⟨s',_,_,_,rfl⟩
 . rintro σ H4 ⟨s4,v9,v10,v11,rfl⟩;symm;exact k _
variable{ns:List Int}
theorem B2{a p Ll C:Addr}(hS:SqL K H a (ns.map V.int))(hn:ns.length<=63)(hp:IsFl H p h w g)(eL:H Ll=some (.lst ((Mf.map RR.txt).map V.str)))(ef:H f=some (.lst (fl.map V.int)))(eC:H C=some (.lst (cl.map V.int)))(Z:Dq c h w g fl Mf)(cn:cl.length=fl.length)(cu:∀ k,k<fl.length->cl.getD k 0=0\/cl.getD k 0=fl.getD k 0)(ok:d.ok .Puzzle=true)(k:∀ H',Q (.bl true) H'):
  rV K c d (eD9 Q) [some (.ref a),some (.ref p),some (.ref Ll),some (.ref f),some (.ref C),v5,none,none,none,none,none,none] H:=by
 have g0:=Z.F.g0;have g6:=Z.F.g1;have m16:=Z.F.m;have fn:=Z.fll;unfold rV;symm;refine HZ ok hp eL eC Z.R ⟨by omega,fun x hx=>?_⟩ fun P L G H1 s1 hP hL2 hG pz=>?_
 . obtain⟨i,hi,rfl⟩:=List.getElem_of_mem hx;have e:cl.getD i 0=cl[i]:=by rw[List.getD,Mt hi];rfl
   have hi2:i<fl.length:=by omega
   have b:=Z.sg _ (show fl.getD i 0∈fl by rw[List.getD,Mt hi2];exact MT hi2);rcases cu i hi2 with c | c
   . rw[← e,c];omega
   . rw[← e,c];omega
 . unfold yD;symm;refine⟨a,p,f,ns,520,h,w,g,fl,rfl,s1.seq hS,hn,by decide,by decide,s1 _ _ hp,g0,g6,s1 _ _ ef,by omega,Z.sg,fun e1 es1 H2 s2 h1 ee1 n1 b1=>?_⟩;have s12:=s1.trans s2;symm;refine⟨a,p,f,ns,540,h,w,g,fl,rfl,s12.seq hS,hn,by decide,by decide,s12 _ _ hp,g0,g6,s12 _ _ ef,by omega,Z.sg,fun e2 es2 H3 s3 h2 ee2 n2 b2=>?_⟩;have s13:=s12.trans s3;have s23:=s2.trans s3;symm;exact B1 (h:=h) (w:=w) (g:=g) ⟨pz.same s23,⟨s3 _ _ ee1,by omega,b1⟩,s13 _ _ ef,⟨Z.F,fn,Z.sg,cu,Z.R.ok,Z.ho⟩⟩ ⟨ee2,by omega,b2⟩ (s13 _ _ eC) k
theorem F1{i k:Nat}(hi:i<cl.length):(cl.set i 0).getD k 0=if k=i then 0 else cl.getD k 0:=by
 rw[List.getD,List.getElem?_set];by_cases h:i=k
 . subst h;rw[MU rfl,MU hi,MU rfl];rfl
 . rw[MP h,MP (Pg h)];rfl
theorem B3{a p Ll:Addr}(hS:SqL K H a (ns.map V.int))(hn:ns.length<=63)(hp:IsFl H p h w g)(eL:H Ll=some (.lst ((Mf.map RR.txt).map V.str)))(ef:H f=some (.lst (fl.map V.int)))(Z:Dq c h w g fl Mf)(ok:d.ok .Puzzle=true)(k:∀ H',Q (.bl true) H'):
  rW K c d (eD9 Q) [some (.ref a),some (.ref p),some (.ref Ll),some (.ref f),none,none,none,none,none,none,none,none] H:=by
 have m16:=Z.F.m;have fn:=Z.fll;unfold rW;symm;refine mn ef fun C hC=>?_;obtain⟨H1,z9,s1,eC⟩:=aY (.lst (fl.map V.int)) hC;rw[z9];symm;rw[bc eC,Mr];refine⟨_,rfl,by omega,by omega,?_⟩;refine nc (fun i σ H'=>∃(v5:Option V) (cl:List Int),σ=[some (.ref a),some (.ref p),some (.ref Ll),some (.ref f),some (.ref C),v5,none,none,none,none,none,none]/\Same H H'/\H' C=some (.lst (cl.map V.int))/\cl.length=fl.length/\∀ k,k<fl.length->cl.getD k 0=0\/cl.getD k 0=fl.getD k 0) ⟨none,fl,rfl,s1,eC,rfl,fun k _=>.inr rfl⟩ ?_ ?_
 . rintro i σ H2 hi ⟨v5,cl,rfl,s2,e2,cn,cu⟩;have hi':i<fl.length:=by have:i < ((fl.length:Nat):Int).toNat:=hi;omega
   rw[Og];symm;rw[aA];symm;refine⟨a,ns,_,rfl,s2.seq hS,hn,by omega,by omega,?_⟩;symm;refine⟨by decide,?_⟩;by_cases h2:ce ns (490+(i:Int))%2=0
   . rw[Mv h2];refine iteT ?_;refine IY e2 (by omega) (by rw[Mr];omega) ?_;rw[NU];refine⟨_,cl.set i 0,rfl,s2.own hC,by rw[ak,List.map_set],by rw[List.length_set];exact cn,fun j hj=>?_⟩;rw[F1 (by omega)];by_cases e:j=i
     . rw[MU e];exact .inl rfl
     . rw[MP e];exact cu j hj
   . rw[Mu h2];refine iteF ?_;exact⟨_,cl,rfl,s2,e2,cn,cu⟩
 . rintro σ H2 ⟨v5,cl,rfl,s2,e2,cn,cu⟩;exact B2 (s2.seq hS) hn (s2 _ _ hp) (s2 _ _ eL) (s2 _ _ ef) e2 Z cn cu ok k
theorem II{E:XK}(h:Fe K c d vs H Q E):Ba K c d (eD9 Q) (start ["_law_script","_law_floor","_law_lines","_law_answer","_law_clues","_law_k","_law_puzzle","_law_first","_law_second","_law_entries_here","_law_handed","_law_found"] vs) H:=by
 obtain⟨a,ns,rfl,hS,hn,hk,ok,k⟩:=h;show Ba K c d _ [some (.ref a),none,none,none,none,none,none,none,none,none,none,none] H;unfold Ba;symm;refine⟨a,ns,rfl,hS,hn,hk,fun T p L f h w g fl Mf H1 s1 hT hf hL eT ep eL ef Z=>?_⟩;refine Ey eT rfl ?_;rw[Av];symm;exact B3 (s1.seq hS) hn ep eL ef Z ok k
section
variable{X:Cx}{e:Expr}{es rs:List Expr}{te:TE}{t:TA}
theorem iI{k}{p:Pos}(ha:PE X (.Tuple rs k p) te)(hr:PA X es t):PA X (.Tuple rs k p::es) (tCons te t):=ab ha hr
theorem a7{c:Const}{k}{p:Pos}(ha:PE X (.Constant c k p) te)(hr:PA X es t):PA X (.Constant c k p::es) (tCons te t):=ab ha hr
end
structure Z5 where
 P:Program
 w:World
 K:Frag
 mg:Str->Option Value
 base:Heap
structure Bt3(Z:Z5):Prop extends Bt2 Z.mg where
 ns:∀{x:Str} {v:Value},nsIn Z.K mainGlobals x=some (some v)->Z.mg x=some v
def Nn(K:Frag)(b:Str):Prop:=nsIn K mainGlobals b=some none
def Zn(K:Frag):Prop:=Nn K "len"/\Nn K "abs"/\Nn K "min"/\Nn K "max"/\Nn K "sorted"/\Nn K "any"/\Nn K "isinstance"/\Nn K "list"/\Nn K "int"/\Nn K "bool"/\Nn K "str"/\Nn K "tuple"/\Nn K "reversed"/\Nn K "set"/\Nn K "range"/\Nn K "zip"/\Nn K "all"/\Nn K "sum"/\Nn K "enumerate"
theorem IJ{Z:Z5}{h:Heap}(X:Z.K.In h)(G:h.Ns mainGlobals Z.mg)(z:Zn Z.K):Bt3 Z:=by
 obtain⟨a,b,c,d,e,f,g,i,j,k,l,m,n,o,p,q,r,s,t⟩:=z;have N:∀{b:Str},Nn Z.K b->Z.mg b=none:=fun h=>PySem.W.mg_none_of X G h;exact⟨⟨⟨N a,N b,N c,N d,N e,N f,N g,N i,N j,N k,N l,N m,N n,N o,N p,N q⟩,N r,N s,N t⟩,fun h=>PySem.W.mg_of X G h⟩
structure De(K:Frag)(x:Str)(st:Stmt):Prop where
 ex:∃(f:Addr) (fd:FuncData),nsIn K mainGlobals x=some (some (.ref f))/\Fun K x x st f fd
structure Me(K:Frag)(x qual:Str)(st:Stmt)(f:Addr):Prop where
 ex:∃ fd:FuncData,Fun K x qual st f fd/\isFn K (.ref f)=true
structure ClsP(K:Frag)(x:Str)(A f:Addr):Prop where
 q:nsIn K mainGlobals x=some (some (.ref A))
 m1:PySem.W.makesIn K A=true
 m2:findIn K (.ref A) "__init__"=some (some (.ref f))
 m4:keepIn K (.ref A)=true
 cl:Cls K A
def mkC(x1 x2 x3 x4 x5 x6 x7 x8:Addr):RCl RK:=⟨fun k=>match k with | .Rule=>x1 | .Unlike=>x1 | .Sum=>x2 | .Rising=>x3 | .Seen=>x4 | .Count=>x5 | .Joined=>x6 | .NoSquare=>x7 | .Ring=>x8,fun k=>match k with | .Rule=>false | _=>true⟩
def mk1(c:RCl RK)(k:RK):RCl RK:=⟨c.A,match k with | .Joined=>(fun i=>match i with | .Joined=>true | _=>false) | .Ring=>(fun i=>match i with | .Ring=>true | _=>false) | _=>fun _=>false⟩
def mkD(y:Addr):RCl PzK:=⟨fun _=>y,fun _=>true⟩
theorem o7{c:RCl RK}{k i:RK}(h:(mk1 c k).ok i=true):i=k:=by cases k <;> cases i <;> first | rfl | cases h
def At8(K:Frag)(m:Str)(v:Option Value)(x1 x2 x3 x4 x5 x6 x7 x8:Addr):Prop:=findIn K (.ref x1) m=some v/\findIn K (.ref x2) m=some v/\findIn K (.ref x3) m=some v/\findIn K (.ref x4) m=some v/\findIn K (.ref x5) m=some v/\findIn K (.ref x6) m=some v/\findIn K (.ref x7) m=some v/\findIn K (.ref x8) m=some v
def C8(K:Frag)(x1 x2 x3 x4 x5 x6 x7 x8:Addr):Prop:=Cls K x1/\Cls K x2/\Cls K x3/\Cls K x4/\Cls K x5/\Cls K x6/\Cls K x7/\Cls K x8
section
variable{Z:Z5}{K:Frag}{x1 x2 x3 x4 x5 x6 x7 x8 f:Addr}{m:Str}{v:Option Value}
theorem at8(h:At8 K m v x1 x2 x3 x4 x5 x6 x7 x8)(k:RK):findIn K (.ref ((mkC x1 x2 x3 x4 x5 x6 x7 x8).A k)) m=some v:=by
 obtain⟨a,b,c,d,e,f,g,i⟩:=h;cases k <;> assumption
theorem c8(h:C8 K x1 x2 x3 x4 x5 x6 x7 x8)(k:RK):Cls K ((mkC x1 x2 x3 x4 x5 x6 x7 x8).A k):=by
 obtain⟨a,b,c,d,e,f,g,i⟩:=h;cases k <;> assumption
theorem fk8(C:C8 K x1 x2 x3 x4 x5 x6 x7 x8)(h:At8 K m none x1 x2 x3 x4 x5 x6 x7 x8):FldK K (mkC x1 x2 x3 x4 x5 x6 x7 x8) m:=⟨fun k _=>⟨c8 C k,at8 h k⟩⟩
theorem fk1{c:RCl RK}{k:RK}(hk:c.ok k=true)(F:FldK K c m):FldK K (mk1 c k) m:=⟨fun i hi=>by cases o7 hi;exact F.ex k hk⟩
variable{N ps:List Str}{k k':Nat}{sp sp':Sp}{t:TS}{x qual:Str}{st:Stmt}
abbrev Hb(Z:Z5)(N:List Str)(qual:Str)(st:Stmt)(f:Addr)(k:Nat)(t:TS):Prop:=∀{Mg:Value} {A:Around} {outer:List Env} {s:Shared} {H:Hp} {E:XK},Room k (A.deeper (envOfC qual (a6 st) s.heap.objs.size f Mg))->(A.deeper (envOfC qual (a6 st) s.heap.objs.size f Mg)).units+64<cLine->N.Nodup->PSs (cxOf CX0 Z.P Z.w Z.K Z.mg Z.base N qual (a6 st) f Mg A outer s H E).nox (b3 st) t
abbrev Rk(N:List Str)(sp:Sp)(t:TS):Prop:=∀{vs H Q E},sp vs H Q E->t (eD9 Q) (start N vs) H
abbrev Ln(ps:List Str)(sp:Sp):Prop:=∀{vs H Q E},sp vs H Q E->vs.length=ps.length
abbrev Bd(x qual:Str)(st:Stmt)(ps:List Str):Prop:=∀(kV doc pm:Value) (an:Option Addr) (Mg ct:Value) (us:List Value),us.length=ps.length->bindArgs (fnOf x qual (cU st) (b3 st) (a6 st) .none kV doc pm an Mg ct) ⟨us,[]⟩=pure (ps.zip us)
theorem okf{f:Addr}{fd:FuncData}(F:Fun Z.K x qual st f fd)(S:l8 N ps (a6 st))(rk:Rk N sp t)(hb:Hb Z N qual st f k t)(len:Ln ps sp):FnOk Z.P Z.w Z.K Z.mg Z.base CX0 (k+1) f fd ps sp:=F.ok S (fun _ _ _ _ h=>len h) fun Mg A outer s H vs Q E hr h=>⟨t,hb hr hr.units S.nd,rk h⟩
local macro_rules | `(tactic| walk_at "l")=>`(tactic| (intro vs H Q E h; (repeat obtain ⟨_,h⟩:=h); subst_vars; rfl))
theorem xQ{α:Type}{us:List α}{n:Nat}(e:us.length=n+1):∃ u t,t.length=n/\us=u::t:=by
 cases us with
 | nil=>cases e
 | cons u t=>exact⟨u,t,Nat.succ.inj e,rfl⟩
theorem bd1{a0:Str}(h:∀ kV doc pm an Mg ct u0,bindArgs (fnOf x qual (cU st) (b3 st) (a6 st) .none kV doc pm an Mg ct) ⟨[u0],[]⟩=pure ([a0].zip [u0]):=by intros;rfl):Bd x qual st [a0]:=by
 intro _ _ _ _ _ _ _ e;(iterate 1 (obtain⟨_,_,f,rfl⟩:=xQ e;clear e;have e:=f;clear f));cases NA e;exact h ..
theorem bd2{a0 a1:Str}(h:∀ kV doc pm an Mg ct u0 u1,bindArgs (fnOf x qual (cU st) (b3 st) (a6 st) .none kV doc pm an Mg ct) ⟨[u0,u1],[]⟩=pure ([a0,a1].zip [u0,u1]):=by intros;rfl):Bd x qual st [a0,a1]:=by
 intro _ _ _ _ _ _ _ e;(iterate 2 (obtain⟨_,_,f,rfl⟩:=xQ e;clear e;have e:=f;clear f));cases NA e;exact h ..
theorem bd3{a0 a1 a2:Str}(h:∀ kV doc pm an Mg ct u0 u1 u2,bindArgs (fnOf x qual (cU st) (b3 st) (a6 st) .none kV doc pm an Mg ct) ⟨[u0,u1,u2],[]⟩=pure ([a0,a1,a2].zip [u0,u1,u2]):=by intros;rfl):Bd x qual st [a0,a1,a2]:=by
 intro _ _ _ _ _ _ _ e;(iterate 3 (obtain⟨_,_,f,rfl⟩:=xQ e;clear e;have e:=f;clear f));cases NA e;exact h ..
theorem bd4{a0 a1 a2 a3:Str}(h:∀ kV doc pm an Mg ct u0 u1 u2 u3,bindArgs (fnOf x qual (cU st) (b3 st) (a6 st) .none kV doc pm an Mg ct) ⟨[u0,u1,u2,u3],[]⟩=pure ([a0,a1,a2,a3].zip [u0,u1,u2,u3]):=by intros;rfl):Bd x qual st [a0,a1,a2,a3]:=by
 intro _ _ _ _ _ _ _ e;(iterate 4 (obtain⟨_,_,f,rfl⟩:=xQ e;clear e;have e:=f;clear f));cases NA e;exact h ..
theorem bd5{a0 a1 a2 a3 a4:Str}(h:∀ kV doc pm an Mg ct u0 u1 u2 u3 u4,bindArgs (fnOf x qual (cU st) (b3 st) (a6 st) .none kV doc pm an Mg ct) ⟨[u0,u1,u2,u3,u4],[]⟩=pure ([a0,a1,a2,a3,a4].zip [u0,u1,u2,u3,u4]):=by intros;rfl):Bd x qual st [a0,a1,a2,a3,a4]:=by
 intro _ _ _ _ _ _ _ e;(iterate 5 (obtain⟨_,_,f,rfl⟩:=xQ e;clear e;have e:=f;clear f));cases NA e;exact h ..
theorem bd6{a0 a1 a2 a3 a4 a5:Str}(h:∀ kV doc pm an Mg ct u0 u1 u2 u3 u4 u5,bindArgs (fnOf x qual (cU st) (b3 st) (a6 st) .none kV doc pm an Mg ct) ⟨[u0,u1,u2,u3,u4,u5],[]⟩=pure ([a0,a1,a2,a3,a4,a5].zip [u0,u1,u2,u3,u4,u5]):=by intros;rfl):Bd x qual st [a0,a1,a2,a3,a4,a5]:=by
 intro _ _ _ _ _ _ _ e;(iterate 6 (obtain⟨_,_,f,rfl⟩:=xQ e;clear e;have e:=f;clear f));cases NA e;exact h ..
local macro_rules | `(tactic| ac_rfl)=>`(tactic| exact ⟨rfl,rfl,rfl,by decide+kernel,rfl,by decide+kernel,by decide+kernel⟩)
theorem okc(B:Bt3 Z)(D:De Z.K x st)(rk:Rk N sp t)(b:Bd x x st ps)(hb:∀{f},Hb Z N x st f k t)(S:l8 N ps (a6 st):=by ac_rfl)(len:Ln ps sp:=by walk_at "l"):Cal Z.P Z.w Z.K Z.mg Z.base (k+1) x ps sp:=
 let ⟨f,fd,a,F⟩:=D.ex
 ⟨f,fd,okf F S rk hb len,B.ns a,F.kp,F.binds b⟩
structure Mo(Z:Z5)(k:Nat)(f:Addr)(ps:List Str)(sp:Sp):Prop where
 ex:∃ fd:FuncData,FnOk Z.P Z.w Z.K Z.mg Z.base CX0 k f fd ps sp/\Binds Z.K fd ps []/\isFn Z.K (.ref f)=true/\keepIn Z.K (.ref f)=true
theorem okm(D:Me Z.K x qual st f)(rk:Rk N sp t)(b:Bd x qual st ps)(hb:Hb Z N qual st f k t)(S:l8 N ps (a6 st):=by ac_rfl)(len:Ln ps sp:=by walk_at "l"):Mo Z (k+1) f ps sp:=
 let ⟨fd,F,n⟩:=D.ex
 ⟨fd,okf F S rk hb len,F.binds b,n,F.kp⟩
theorem Mo.at{C:Addr}(T:Mo Z k f ps sp)(cl:Cls Z.K C)(a:findIn Z.K (.ref C) m=some (some (.ref f)))(imp:∀ vs H Q E,sp' vs H Q E->sp vs H Q E)(hk:k<=k':=by decide):∃(f:Addr) (fd:FuncData),Cls Z.K C/\Meth Z.K C m f/\FnOk Z.P Z.w Z.K Z.mg Z.base CX0 k' f fd ps sp'/\Binds Z.K fd ps []:=
 let ⟨fd,F,b,n,kp⟩:=T.ex
 ⟨f,fd,cl,⟨a,n,kp⟩,(F.mono hk).imp imp,b⟩
theorem Mo.mke{C:Addr}(T:Mo Z k f ps sp)(B:Bt3 Z)(c:ClsP Z.K x C f):KCal Z.P Z.w Z.K Z.mg Z.base k x C ps sp:=
 let ⟨fd,F,b,n,_⟩:=T.ex
 ⟨f,fd,⟨c.m1,c.m2,n,c.m4⟩,F,B.ns c.q,b⟩
theorem De.of{K:Frag}{f:Addr}{fd:FuncData}(a:nsIn K mainGlobals x=some (some (.ref f)))(F:Fun K x x st f fd):De K x st:=⟨f,fd,a,F⟩
theorem Me.of{K:Frag}{f:Addr}{fd:FuncData}(F:Fun K x qual st f fd)(n:isFn K (.ref f)=true):Me K x qual st f:=⟨fd,F,n⟩
structure GT0(K:Frag)(x:Str)(ws:List Str):Prop where
 ex:∃(p:Addr) (o:Obj) (Mi:Array Value) (n:Nat),nsIn K mainGlobals x=some (some (.ref p))/\K.lookup p=some o/\o.cls=.type "tuple"/\o.data=.seq Mi n/\Mi.size<=sizeLine/\Vals (ws.map V.str) Mi.toList
theorem GT0.mk'{K:Frag}{ws:List Str}{p:Addr}{o:Obj}{Mi:Array Value}{n:Nat}(a:nsIn K mainGlobals x=some (some (.ref p)))(b:K.lookup p=some o)(c:o.cls=.type "tuple")(d:o.data=.seq Mi n)(e:Mi.size<=sizeLine)(v:Vals (ws.map V.str) Mi.toList):GT0 K x ws:=⟨p,o,Mi,n,a,b,c,d,e,v⟩
theorem GT0.of{ws:List Str}(g:GT0 Z.K x ws)(B:Bt3 Z):GTup Z.K Z.mg x ws:=let ⟨p,o,i,n,a,r⟩:=g.ex;⟨p,o,i,n,B.ns a,r⟩
structure GD0(w:World)(K:Frag)(x:Str)(D:List (Str × List Str)):Prop where
 ex:∃(p:Addr) (o:Obj) (es:Array DictEntry) (ep:Nat),nsIn K mainGlobals x=some (some (.ref p))/\K.lookup p=some o/\o.ExactDict/\o.data=.dict es ep/\DRows w K es.toList D/\(D.map fun x=>x.1).Nodup
theorem GD0.of{D:List (Str × List Str)}(g:GD0 Z.w Z.K x D)(B:Bt3 Z):GDict Z.w Z.K Z.mg x D:=let ⟨p,o,i,n,a,r⟩:=g.ex;⟨p,o,i,n,B.ns a,r⟩
end
section
variable{X:Cx}{a b e:Expr}{ta tb te:TE}{pos pos' p:Pos}{x:Str}{es:List Expr}{t:TA}{ps:List Str}{sp:Sp}{k n:Nat}
theorem kcal(C:Cal X.prog X.w X.K X.mg X.base k x ps sp)(hr:Room n X.A)(ha:PA X (e::es) t)(hk:k<=n:=by decide)(hg:Gl X x:=by exact rfl)(hdb:(x==("__debug__":Str))=false:=by decide)(he:starEach (e::es) X.env=(false,eval e X.env)::starEach es X.env:=by rfl)(hpl:(backTo pos (starEach es X.env)).any (·.1)=false:=by rfl):PE X (.Call (.Name x p) (e::es) [] pos) (tCall sp [] E0 t):=HJ C hr hk hg ha hdb he hpl
theorem kix(hu:X.A.units+64<cLine)(ha:PE X a ta)(hb:PE X b tb)(hs:wY b:=by exact fun _ _=>rfl):PE X (.Subscript a b pos) (tOp cIx ta tb):=zA (HH hu) ha hb hs
theorem kset(i:Nat)(hN:X.N.Nodup)(he:PE X e te)(hi:X.N[i]? =some x:=by exact rfl)(hx:Loc X.env.scope x:=by exact Or.inl rfl)(hs:swapsWith e (some (.Name x pos')) pos.line X.env=pure false:=by rfl)(hf:X.fn x=true\/X.env.scope.names.lookup x=some .local:=by first | exact .inl rfl | exact .inr rfl | assumption):PS X (.Assign [.Name x pos'] e pos) (tAsg te (gName i)):=eh hN hi hx he hs hf
end
local macro_rules | `(tactic| walk_at "l")=>`(tactic| (intro vs H Q E h; (repeat obtain ⟨_,h⟩:=h); subst_vars; rfl))
local macro_rules | `(tactic| ac_rfl)=>`(tactic| exact ⟨rfl,rfl,rfl,by decide+kernel,rfl,by decide+kernel,by decide+kernel⟩)
def top(i:Nat):Stmt:=PySem.Challenge.pw_cluemaker_k62_a_hint.main.body.getD i (.Pass ⟨0,0,0,0⟩)
def mtop(i j:Nat):Stmt:=match top i with
 | .ClassDef _ _ _ body _ _ _ _ _ _ _=>body.getD j (.Pass ⟨0,0,0,0⟩)
 | s=>s
abbrev gm(Z:Z5):Prop:=Cal Z.P Z.w Z.K Z.mg Z.base 1 "is_whole" ["value"] (dz Z.K)
abbrev cP(Z:Z5):Prop:=Cal Z.P Z.w Z.K Z.mg Z.base 1 "many_cells" ["floor"] (bP Z.K)
abbrev rX(Z:Z5):Prop:=Cal Z.P Z.w Z.K Z.mg Z.base 1 "spot_of" ["floor","cell"] (lU Z.K)
abbrev tZ(Z:Z5):Prop:=Cal Z.P Z.w Z.K Z.mg Z.base 1 "square_at" ["floor","corner"] (mB Z.K)
abbrev qr(Z:Z5):Prop:=Cal Z.P Z.w Z.K Z.mg Z.base 1 "bit_of" ["sign"] (kX Z.K)
abbrev iJ(Z:Z5):Prop:=Cal Z.P Z.w Z.K Z.mg Z.base 1 "stands" ["mask","sign"] (dX Z.K)
abbrev gh(Z:Z5):Prop:=Cal Z.P Z.w Z.K Z.mg Z.base 1 "clashes" ["masks"] (dq Z.K)
abbrev d8(Z:Z5):Prop:=Cal Z.P Z.w Z.K Z.mg Z.base 1 "masks_at" ["masks","cells"] (bU Z.K)
abbrev o8(Z:Z5):Prop:=Cal Z.P Z.w Z.K Z.mg Z.base 1 "clue_strikes" ["clues","cell","sign","more"] (js Z.K)
abbrev jX(Z:Z5):Prop:=Cal Z.P Z.w Z.K Z.mg Z.base 1 "are_told_in_order" ["cells","more"] (d5 Z.K)
abbrev oN(Z:Z5):Prop:=Cal Z.P Z.w Z.K Z.mg Z.base 1 "with_sign" ["filling","cell","sign"] (jC Z.K)
abbrev qC(Z:Z5):Prop:=Cal Z.P Z.w Z.K Z.mg Z.base 1 "place_mores" ["floor","sign"] (kj Z.K)
abbrev t3(Z:Z5):Prop:=Cal Z.P Z.w Z.K Z.mg Z.base 1 "is_within" ["some","cells"] (mO Z.K)
abbrev t4(Z:Z5):Prop:=Cal Z.P Z.w Z.K Z.mg Z.base 1 "number_in" ["word"] (mG Z.K)
abbrev dS(Z:Z5):Prop:=Cal Z.P Z.w Z.K Z.mg Z.base 1 "_law_mixed" ["_law_script","_law_k"] (bA Z.K)
abbrev t5(Z:Z5):Prop:=Cal Z.P Z.w Z.K Z.mg Z.base 1 "_law_seen" ["_law_filling","_law_cells_here"] (ku Z.K)
abbrev rY(Z:Z5):Prop:=Cal Z.P Z.w Z.K Z.mg Z.base 1 "_law_chain" ["_law_answer","_law_cells_here","_law_strictly"] (fK Z.K)
abbrev iK(Z:Z5):Prop:=Cal Z.P Z.w Z.K Z.mg Z.base 2 "is_from_one_to" ["value","most"] (bO Z.K)
abbrev kC(Z:Z5):Prop:=Cal Z.P Z.w Z.K Z.mg Z.base 2 "beside" ["floor","cell"] (dU Z.K)
abbrev t6(Z:Z5):Prop:=Cal Z.P Z.w Z.K Z.mg Z.base 2 "is_corner" ["floor","cell"] (mx Z.K)
abbrev t7(Z:Z5):Prop:=Cal Z.P Z.w Z.K Z.mg Z.base 2 "full_mask" ["floor"] (mS Z.K)
abbrev rZ(Z:Z5):Prop:=Cal Z.P Z.w Z.K Z.mg Z.base 2 "without" ["mask","sign"] (lW Z.K)
abbrev cf(Z:Z5):Prop:=Cal Z.P Z.w Z.K Z.mg Z.base 2 "signs_in" ["mask"] (bz Z.K)
abbrev r8(Z:Z5):Prop:=Cal Z.P Z.w Z.K Z.mg Z.base 2 "is_cell" ["floor","value"] (lX Z.K)
abbrev sd(Z:Z5)(c:RCl RK):Prop:=Cal Z.P Z.w Z.K Z.mg Z.base 2 "goes_by" ["kind","rule"] (lZ Z.K c)
abbrev cQ(Z:Z5)(c:RCl RK):Prop:=Cal Z.P Z.w Z.K Z.mg Z.base 2 "others" ["rule","cell"] (bE Z.K c)
abbrev l6(Z:Z5):Prop:=Cal Z.P Z.w Z.K Z.mg Z.base 2 "many_may" ["some","sign"] (eX Z.K)
abbrev wl(Z:Z5)(c:RCl RK):Prop:=Cal Z.P Z.w Z.K Z.mg Z.base 2 "ahead_of" ["rule","cell"] (oy Z.K c)
abbrev Bb(Z:Z5)(c:RCl RK):Prop:=Cal Z.P Z.w Z.K Z.mg Z.base 2 "behind" ["rule","cell"] (rF Z.K c)
abbrev mU(Z:Z5):Prop:=Cal Z.P Z.w Z.K Z.mg Z.base 2 "with_each_sign" ["fillings","cell","signs"] (gB Z.K)
abbrev o9(Z:Z5)(c:RCl RK)(d:RCl PzK):Prop:=Cal Z.P Z.w Z.K Z.mg Z.base 2 "cells_to_try" ["puzzle","kind","number"] (jN Z.K c d)
abbrev jT(Z:Z5):Prop:=Cal Z.P Z.w Z.K Z.mg Z.base 2 "number_within" ["word","least","most"] (d2 Z.K)
abbrev se(Z:Z5):Prop:=Cal Z.P Z.w Z.K Z.mg Z.base 2 "is_filling" ["floor","filling","least"] (lw Z.K)
abbrev sf(Z:Z5):Prop:=Cal Z.P Z.w Z.K Z.mg Z.base 2 "_law_cells" ["_law_script","_law_at","_law_many","_law_count"] (kc Z.K)
abbrev pb(Z:Z5):Prop:=Cal Z.P Z.w Z.K Z.mg Z.base 2 "_law_entries" ["_law_script","_law_at","_law_floor","_law_answer"] (dH Z.K)
abbrev wm(Z:Z5):Prop:=Cal Z.P Z.w Z.K Z.mg Z.base 3 "floor_of" ["high","wide","signs"] (oq Z.K)
abbrev nJ(Z:Z5):Prop:=Cal Z.P Z.w Z.K Z.mg Z.base 3 "squares" ["floor"] (jf Z.K)
abbrev nK(Z:Z5):Prop:=Cal Z.P Z.w Z.K Z.mg Z.base 3 "reached" ["floor","cells","start"] (d7 Z.K)
abbrev d9(Z:Z5):Prop:=Cal Z.P Z.w Z.K Z.mg Z.base 3 "has_only" ["mask","sign"] (cj Z.K)
abbrev uT(Z:Z5):Prop:=Cal Z.P Z.w Z.K Z.mg Z.base 3 "struck" ["masks","cell","sign"] (nE Z.K)
abbrev Ff(Z:Z5):Prop:=Cal Z.P Z.w Z.K Z.mg Z.base 3 "ways" ["masks"] (xB Z.K)
abbrev qt(Z:Z5):Prop:=Cal Z.P Z.w Z.K Z.mg Z.base 3 "masks_by" ["floor","filling"] (kP Z.K)
abbrev sh(Z:Z5):Prop:=Cal Z.P Z.w Z.K Z.mg Z.base 3 "is_sign" ["floor","value"] (lY Z.K)
abbrev pc(Z:Z5)(c:RCl RK)(d:RCl PzK):Prop:=Cal Z.P Z.w Z.K Z.mg Z.base 3 "has_its_rule" ["puzzle","kind","number","cell"] (jp Z.K c d)
abbrev nL(Z:Z5):Prop:=Cal Z.P Z.w Z.K Z.mg Z.base 3 "is_no_greater" ["sign","mask"] (iB Z.K)
abbrev si(Z:Z5):Prop:=Cal Z.P Z.w Z.K Z.mg Z.base 3 "is_no_less" ["sign","mask"] (ly Z.K)
abbrev pf(Z:Z5)(c:RCl RK):Prop:=Cal Z.P Z.w Z.K Z.mg Z.base 3 "pair_strikes" ["rule","masks","cell","sign","more"] (jw Z.K c)
abbrev qD(Z:Z5)(c:RCl RK):Prop:=Cal Z.P Z.w Z.K Z.mg Z.base 3 "sum_strikes" ["rule","masks","cell","sign","more"] (kf Z.K c)
abbrev Bc(Z:Z5):Prop:=Cal Z.P Z.w Z.K Z.mg Z.base 3 "around" ["floor","middle","cell"] (rL Z.K)
abbrev sj(Z:Z5):Prop:=Cal Z.P Z.w Z.K Z.mg Z.base 3 "turn_mores" ["floor","cell"] (lE Z.K)
abbrev sk(Z:Z5)(c:RCl RK):Prop:=Cal Z.P Z.w Z.K Z.mg Z.base 3 "pair_mores" ["rule","masks","cell"] (lG Z.K c)
abbrev ph(Z:Z5)(c:RCl RK)(d:RCl PzK):Prop:=Cal Z.P Z.w Z.K Z.mg Z.base 3 "rule_numbers" ["puzzle","kind"] (jL Z.K c d)
abbrev pi(Z:Z5):Prop:=Cal Z.P Z.w Z.K Z.mg Z.base 3 "first_within" ["words","least","most"] (dn Z.K)
abbrev so(Z:Z5):Prop:=Cal Z.P Z.w Z.K Z.mg Z.base 3 "told_cells" ["floor","words"] (lj Z.K)
abbrev yE(Z:Z5)(c:RCl RK):Prop:=Cal Z.P Z.w Z.K Z.mg Z.base 3 "rule_by" ["floor","words","cells","amount","mark"] (qe Z.K c)
abbrev nN(Z:Z5):Prop:=Cal Z.P Z.w Z.K Z.mg Z.base 3 "checked_clues" ["floor","clues"] (ip Z.K)
abbrev t8(Z:Z5)(c:RCl RK)(d:RCl PzK):Prop:=Cal Z.P Z.w Z.K Z.mg Z.base 4 "is_formed" ["puzzle","thought"] (mK Z.K c d)
abbrev kR(Z:Z5):Prop:=Cal Z.P Z.w Z.K Z.mg Z.base 4 "many_only" ["some","sign"] (dQ Z.K)
abbrev pj(Z:Z5)(c:RCl RK):Prop:=Cal Z.P Z.w Z.K Z.mg Z.base 4 "only_strikes" ["rule","masks","cell","sign","more"] (ju Z.K c)
abbrev nO(Z:Z5)(c:RCl RK):Prop:=Cal Z.P Z.w Z.K Z.mg Z.base 4 "place_strikes" ["floor","rule","masks","cell","sign","more"] (iu Z.K c)
abbrev pk(Z:Z5)(c:RCl RK):Prop:=Cal Z.P Z.w Z.K Z.mg Z.base 4 "step_strikes" ["rule","masks","cell","sign","more"] (jy Z.K c)
abbrev mV(Z:Z5):Prop:=Cal Z.P Z.w Z.K Z.mg Z.base 4 "rest_of_square" ["floor","corner","cell"] (gt Z.K)
abbrev hX(Z:Z5):Prop:=Cal Z.P Z.w Z.K Z.mg Z.base 4 "is_another_with_only" ["floor","masks","cell","other","mark"] (cS Z.K)
abbrev sr(Z:Z5)(c:RCl RK):Prop:=Cal Z.P Z.w Z.K Z.mg Z.base 4 "only_mores" ["rule","masks","cell","sign"] (lC Z.K c)
abbrev pp(Z:Z5):Prop:=Cal Z.P Z.w Z.K Z.mg Z.base 4 "square_mores" ["floor","cell"] (jH Z.K)
abbrev qE(Z:Z5)(c:RCl RK):Prop:=Cal Z.P Z.w Z.K Z.mg Z.base 4 "reach_mores" ["floor","rule","masks","cell","sign"] (ko Z.K c)
abbrev wn(Z:Z5):Prop:=Cal Z.P Z.w Z.K Z.mg Z.base 4 "cells_of" ["floor","name","words"] (oi Z.K)
abbrev nP(Z:Z5):Prop:=Cal Z.P Z.w Z.K Z.mg Z.base 4 "checked_floor" ["floor"] (im Z.K)
abbrev lM(Z:Z5)(c:RCl RK)(d:RCl PzK):Prop:=Cal Z.P Z.w Z.K Z.mg Z.base 5 "strikes_by_line" ["puzzle","masks","thought"] (fc Z.K c d)
abbrev nQ(Z:Z5)(c:RCl RK):Prop:=Cal Z.P Z.w Z.K Z.mg Z.base 5 "count_strikes" ["rule","masks","cell","sign","more"] (iy Z.K c)
abbrev mW(Z:Z5)(c:RCl RK):Prop:=Cal Z.P Z.w Z.K Z.mg Z.base 5 "square_strikes" ["floor","rule","masks","cell","sign","more"] (gw Z.K c)
abbrev nR(Z:Z5)(c:RCl RK):Prop:=Cal Z.P Z.w Z.K Z.mg Z.base 5 "reach_strikes" ["floor","rule","masks","cell","sign","more"] (iD Z.K c)
abbrev pq(Z:Z5)(c:RCl RK):Prop:=Cal Z.P Z.w Z.K Z.mg Z.base 5 "turn_strikes" ["floor","rule","masks","cell","sign","more"] (jF Z.K c)
abbrev pA(Z:Z5)(c:RCl RK)(d:RCl PzK):Prop:=Cal Z.P Z.w Z.K Z.mg Z.base 5 "mores_to_try" ["puzzle","masks","kind","number","cell","sign"] (jJ Z.K c d)
abbrev oO(Z:Z5)(c:RCl RK):Prop:=Cal Z.P Z.w Z.K Z.mg Z.base 5 "read_rule" ["floor","line"] (ji Z.K c)
abbrev pB(Z:Z5)(c:RCl RK):Prop:=Cal Z.P Z.w Z.K Z.mg Z.base 6 "ways_strikes" ["rule","masks","cell","sign","more"] (jD Z.K c)
abbrev jY(Z:Z5)(c:RCl RK)(d:RCl PzK):Prop:=Cal Z.P Z.w Z.K Z.mg Z.base 6 "strikes_by_region" ["puzzle","masks","thought"] (dC Z.K c d)
abbrev sw(Z:Z5)(c:RCl RK):Prop:=Cal Z.P Z.w Z.K Z.mg Z.base 6 "read_rules" ["floor","lines"] (lr Z.K c)
abbrev t9(Z:Z5)(c:RCl RK):Prop:=Cal Z.P Z.w Z.K Z.mg Z.base 6 "_law_line" ["_law_script","_law_at","_law_floor","_law_answer"] (ky Z.K c)
abbrev jZ(Z:Z5)(c:RCl RK)(d:RCl PzK):Prop:=Cal Z.P Z.w Z.K Z.mg Z.base 7 "strikes_by_number" ["puzzle","masks","thought"] (dE Z.K c d)
abbrev sx(Z:Z5)(c:RCl RK):Prop:=Cal Z.P Z.w Z.K Z.mg Z.base 7 "_law_drawn" ["_law_script"] (jR Z.K c)
abbrev sy(Z:Z5)(c:RCl RK)(d:RCl PzK):Prop:=Cal Z.P Z.w Z.K Z.mg Z.base 8 "strikes" ["puzzle","masks","thought"] (kM Z.K c d)
abbrev yF(Z:Z5)(c:RCl RK)(d:RCl PzK):Prop:=Cal Z.P Z.w Z.K Z.mg Z.base 9 "allowed" ["puzzle","masks","thought"] (oF Z.K c d)
abbrev wo(Z:Z5)(c:RCl RK)(d:RCl PzK):Prop:=Cal Z.P Z.w Z.K Z.mg Z.base 9 "first_at" ["puzzle","masks","kind","number","cell","sign"] (oH Z.K c d)
abbrev nS(Z:Z5)(c:RCl RK)(d:RCl PzK):Prop:=Cal Z.P Z.w Z.K Z.mg Z.base 10 "found_by_rule" ["puzzle","masks","kind","number"] (iG Z.K c d)
abbrev lI(Z:Z5)(c:RCl RK)(d:RCl PzK):Prop:=Cal Z.P Z.w Z.K Z.mg Z.base 11 "first_found" ["puzzle","masks","kinds"] (gl Z.K c d)
abbrev kD(Z:Z5)(c:RCl RK)(d:RCl PzK):Prop:=Cal Z.P Z.w Z.K Z.mg Z.base 12 "next_thought" ["puzzle","masks","kinds"] (dt Z.K c d)
abbrev CI(Z:Z5)(c:RCl RK)(d:RCl PzK):Prop:=Cal Z.P Z.w Z.K Z.mg Z.base 12 "think" ["puzzle","masks","kinds"] (uQ Z.K c d)
abbrev Fg(Z:Z5)(c:RCl RK)(d:RCl PzK):Prop:=Cal Z.P Z.w Z.K Z.mg Z.base 13 "hint" ["puzzle","entries"] (tp Z.K c d)
abbrev ua(Z:Z5)(c:RCl RK)(d:RCl PzK):Prop:=Cal Z.P Z.w Z.K Z.mg Z.base 13 "_law_good" ["_law_puzzle","_law_answer","_law_entries_here","_law_found"] (dR Z.K c d)
abbrev xR(Z:Z5)(c:RCl RK)(d:RCl PzK):Prop:=MCal Z.P Z.w Z.K Z.mg Z.base d d.ok 1 "clues" ["self"] (mJ Z.K c d)
abbrev mX(Z:Z5)(c:RCl RK):Prop:=MCal Z.P Z.w Z.K Z.mg Z.base c c.ok 3 "has_two_beside" ["self","cells","cell"] (gq Z.K c)
abbrev xS(Z:Z5)(c:RCl RK):Prop:=MCal Z.P Z.w Z.K Z.mg Z.base c c.ok 5 "holds" ["self","filling"] (cN Z.K c)
abbrev kS(Z:Z5)(c:RCl RK):Prop:=MCal Z.P Z.w Z.K Z.mg Z.base c c.ok 4 "is_joined" ["self","cells"] (jg Z.K c)
abbrev iL(Z:Z5)(c:RCl RK):Prop:=MCal Z.P Z.w Z.K Z.mg Z.base c c.ok 1 "marked" ["self","filling"] (iR Z.K c)
abbrev Fh(Z:Z5)(c:RCl RK):Prop:=MCal Z.P Z.w Z.K Z.mg Z.base c c.ok 1 "name" ["self"] (xh Z.K c)
abbrev uU(Z:Z5)(c:RCl RK):Prop:=MCal Z.P Z.w Z.K Z.mg Z.base c c.ok 1 "number" ["self"] (iP Z.K c)
abbrev iS(Z:Z5)(c:RCl RK)(d:RCl PzK):Prop:=MCal Z.P Z.w Z.K Z.mg Z.base d d.ok 1 "place" ["self"] (d3 Z.K c d)
abbrev iT(Z:Z5)(c:RCl RK)(d:RCl PzK):Prop:=MCal Z.P Z.w Z.K Z.mg Z.base d d.ok 1 "rules" ["self"] (cO Z.K c d)
abbrev pC(Z:Z5)(c:RCl RK):Prop:=MCal Z.P Z.w Z.K Z.mg Z.base c c.ok 1 "sign" ["self"] (iQ Z.K c)
abbrev jU(Z:Z5)(c:RCl RK):Prop:=MCal Z.P Z.w Z.K Z.mg Z.base c c.ok 1 "signs_at" ["self","filling"] (eV Z.K c)
abbrev iU(Z:Z5)(c:RCl RK):Prop:=MCal Z.P Z.w Z.K Z.mg Z.base c c.ok 1 "spots" ["self"] (d0 Z.K c)
abbrev lN(Z:Z5)(x:Str)(C:Addr)(c:RCl RK)(d:RCl PzK):Prop:=KCal Z.P Z.w Z.K Z.mg Z.base 7 x C ["self","floor","lines","clues"] (bZ Z.K c d)
abbrev aO(Z:Z5)(x:Str)(C:Addr)(c:RCl RK):Prop:=KCal Z.P Z.w Z.K Z.mg Z.base 1 x C ["self","floor","words","cells","amount","mark"] (aT Z.K c)
section
variable{Z:Z5}(Bz:Bt3 Z)
include Bz
set_option maxHeartbeats 4000000
abbrev wp:Stmt:=top 10
theorem B4(D:De Z.K "is_whole" wp):gm Z:=okc Bz D BL bd1 fun hr hu nd=>(af (ai (bm (au bX rfl Bz.isinstance_ bi (ab (pv 0) (ab (dI (v:=.ty "int") rfl Bz.int_ rb rfl) ad))) (br (DK (au bX rfl Bz.isinstance_ bi (ab (pv 0) (ab (dI (v:=.ty "bool") rfl Bz.bool_ Cm rfl) ad))))))))
abbrev sA:Stmt:=top 13
theorem ze(D:De Z.K "many_cells" sA):cP Z:=okc Bz D yT bd1 fun hr hu nd=>(af (ai (av cV (kix hu (pv 0) ah) (kix hu (pv 0) ah))))
abbrev yG:Stmt:=top 14
theorem Dw(D:De Z.K "spot_of" yG):rX Z:=okc Bz D C0 bd2 fun hr hu nd=>(ae (kset 2 nd (kix hu (pv 0) ah))
   (af (ai (bV (ab (av j8 (pv 1) (pv 2)) (ab (av bh (pv 1) (pv 2)) ad))))))
abbrev ub:Stmt:=top 17
theorem Be(D:De Z.K "square_at" ub):tZ Z:=okc Bz D Ai bd2 fun hr hu nd=>(ae (kset 2 nd (av aH (pv 1) (kix hu (pv 0) ah)))
   (af (ai (aJ (ab (pv 1) (ab (av aH (pv 1) ah) (ab (pv 2) (ab (av aH (pv 2) ah) ad))))))))
abbrev Bf:Stmt:=top 21
theorem Fi(D:De Z.K "bit_of" Bf):qr Z:=okc Bz D EH bd1 fun hr hu nd=>(ae (kset 1 nd ah)
   (ae (bt M8 rfl (cW rfl Bz.range_ (ab (av b4 (pv 0) ah) ad)) (ar (i:=2) nd rfl (Or.inl rfl))
   (af (kset 1 nd (av cV (pv 1) ah))))
   (af (ai (pv 1)))))
abbrev Bg:Stmt:=top 23
theorem Fj(D:De Z.K "stands" Bg):iJ Z:=okc Bz D EG bd2 fun hr hu nd=>(af (ai (bm (ay gW ah (pv 1) (aj _)) (bm (ay gW (pv 1) (DY P0 Pi Pj vp (pv 0)) (aj _)) (br (ay (ax hu) (av bh (av GB (pv 0) (av b4 (pv 1) ah)) ah) ah (aj _)))))))
abbrev yH:Stmt:=top 28
theorem Dx(D:De Z.K "clashes" yH):gh Z:=okc Bz D Dg bd1 fun hr hu nd=>(af (ai (ay (fO hu) ah (pv 0) (by with_unfolding_all rfl))))
abbrev wq:Stmt:=top 40
theorem B5(D:De Z.K "masks_at" wq):d8 Z:=okc Bz D BP bd2 fun hr hu nd=>(af (ai (aG (ix:=[none,none,some 0]) [".0","cell","masks"] (aB rfl (by decide+kernel) rfl rfl rfl) rfl (az (pv 1)) (fun cl s H fp=>(ar (i:=1) (show([".0","cell","masks"]:List Str).Nodup by decide+kernel) rfl (Or.inl rfl))) (fun cl s H fp=>aU) (fun cl s H fp=>(kix hu (pv 2) (pv 1))))))
abbrev pD:Stmt:=top 45
theorem wr(D:De Z.K "clue_strikes" pD):o8 Z:=okc Bz D vL bd4 fun hr hu nd=>(af (ai (bm (ay (ax hu) (pv 3) (aJ ad) (aj _)) (bm (ay (aV hu) (kix hu (pv 0) (pv 1)) ah (aj _)) (br (ay (aV hu) (kix hu (pv 0) (pv 1)) (pv 2) (aj _)))))))
abbrev j2:Stmt:=top 53
theorem qu(D:De Z.K "are_told_in_order" j2):jX Z:=okc Bz D ql bd2 fun hr hu nd=>(ae (aw (Ou (bj (ao (aV hu) (au aF rfl Bz.len_ aP (ab (pv 1) ad)) ah (aj _)) (bj (ao (cg hu) (kix hu (pv 1) ah) (pv 0) (by with_unfolding_all rfl)) (bC (ao (cg hu) (kix hu (pv 1) ah) (pv 0) (by with_unfolding_all rfl)))))) (af (ai bg)) ap)
   (af (ai (ay bW (bF MY NQ NR (iM hu) (pv 0) (ab (kix hu (pv 1) ah) ad)) (bF MY NQ NR (iM hu) (pv 0) (ab (kix hu (pv 1) ah) ad)) (aj _)))))
abbrev uc:Stmt:=top 61
theorem Bh(D:De Z.K "with_sign" uc):oN Z:=okc Bz D Aw bd3 fun hr hu nd=>(af (ai (aG (ix:=[none,none,none,some 1,some 2]) [".0","place","other","cell","sign"] (aB rfl (by decide+kernel) rfl rfl rfl) rfl (w5 rfl Bz.enumerate_ (ab (pv 0) ad)) (fun cl s H fp=>(qS rfl (b8 (ar (i:=1) (show([".0","place","other","cell","sign"]:List Str).Nodup by decide+kernel) rfl (Or.inl rfl)) (b8 (ar (i:=2) (show([".0","place","other","cell","sign"]:List Str).Nodup by decide+kernel) rfl (Or.inl rfl)) oR)))) (fun cl s H fp=>aU) (fun cl s H fp=>(fL (ao (ax hu) (pv 1) (pv 3) (aj _)) (pv 4) (pv 2))))))
abbrev qF:Stmt:=top 78
theorem xT(D:De Z.K "place_mores" qF):qC Z:=okc Bz D xD bd2 fun hr hu nd=>(af (ai (aG (ix:=[none,none,some 1]) [".0","other","sign"] (aB rfl (by decide+kernel) rfl rfl rfl) rfl (x9 rfl Bz.range_ (ab ah (ab (av aH (kix hu (pv 0) ah) ah) ad))) (fun cl s H fp=>(ar (i:=1) (show([".0","other","sign"]:List Str).Nodup by decide+kernel) rfl (Or.inl rfl))) (fun cl s H fp=>(a8 (ao (aV hu) (pv 1) (pv 2) (aj _)))) (fun cl s H fp=>(aJ (ab (pv 1) ad))))))
abbrev ud:Stmt:=top 95
theorem Bi(D:De Z.K "is_within" ud):t3 Z:=okc Bz D Au bd2 fun hr hu nd=>(af (ai (au (dm rfl) rfl Bz.all_ jc (ab (aG (ix:=[none,none,some 1]) [".0","cell","cells"] (aB rfl (by decide+kernel) rfl rfl rfl) rfl (az (pv 0)) (fun cl s H fp=>(ar (i:=1) (show([".0","cell","cells"]:List Str).Nodup by decide+kernel) rfl (Or.inl rfl))) (fun cl s H fp=>aU) (fun cl s H fp=>(ay (fO hu) (pv 1) (pv 2) (by with_unfolding_all rfl)))) ad))))
abbrev nT:Stmt:=mtop 96 0
theorem uV{c:RCl RK}(Jr:FldK Z.K c "amount")(Jy:FldK Z.K c "cells")(JB:FldK Z.K c "floor")(JI:FldK Z.K c "mark")(JX:FldK Z.K c "words"){f:Addr}(D:Me Z.K "__init__" "Rule.__init__" nT f):Mo Z 1 f ["self","floor","words","cells","amount","mark"] (aT Z.K c):=okm D uB bd6 fun hr hu nd=>(ae (iO (pv 0) (pv 1) JB)
   (ae (iO (pv 0) (aS tX rfl Bz.tuple_ mj (ab (pv 2) ad)) JX)
   (ae (iO (pv 0) (aS tX rfl Bz.tuple_ mj (ab (pv 3) ad)) Jy)
   (ae (iO (pv 0) (pv 4) Jr)
   (af (iO (pv 0) (pv 5) JI))))))
abbrev ue:Stmt:=mtop 96 1
theorem Bj{c:RCl RK}(JX:FldK Z.K c "words"){f:Addr}(D:Me Z.K "name" "Rule.name" ue f):Mo Z 1 f ["self"] (rm Z.K c):=okm D Aj bd1 fun hr hu nd=>(af (ai (kix hu (bw (pv 0) JX) ah)))
abbrev sB:Stmt:=mtop 96 2
theorem zg{c:RCl RK}(Jy:FldK Z.K c "cells"){f:Addr}(D:Me Z.K "spots" "Rule.spots" sB f):Mo Z 1 f ["self"] (qy Z.K c):=okm D yU bd1 fun hr hu nd=>(af (ai (aS cY rfl Bz.list_ bQ (ab (bw (pv 0) Jy) ad))))
abbrev qG:Stmt:=mtop 96 3
theorem xU{c:RCl RK}(Jr:FldK Z.K c "amount"){f:Addr}(D:Me Z.K "number" "Rule.number" qG f):Mo Z 1 f ["self"] (oX Z.K c):=okm D xi bd1 fun hr hu nd=>(af (ai (bw (pv 0) Jr)))
abbrev uf:Stmt:=mtop 96 4
theorem Bl{c:RCl RK}(JI:FldK Z.K c "mark"){f:Addr}(D:Me Z.K "sign" "Rule.sign" uf f):Mo Z 1 f ["self"] (rp Z.K c):=okm D Ak bd1 fun hr hu nd=>(af (ai (bw (pv 0) JI)))
abbrev nU:Stmt:=mtop 96 8
theorem uW{c:RCl RK}(Jy:FldK Z.K c "cells"){f:Addr}(D:Me Z.K "signs_at" "Rule.signs_at" nU f):Mo Z 1 f ["self","filling"] (mF Z.K c):=okm D uC bd2 fun hr hu nd=>(af (ai (aG (ix:=[none,none,some 1]) [".0","cell","filling"] (aB rfl (by decide+kernel) rfl rfl rfl) rfl (vc (bw (pv 0) Jy)) (fun cl s H fp=>(ar (i:=1) (show([".0","cell","filling"]:List Str).Nodup by decide+kernel) rfl (Or.inl rfl))) (fun cl s H fp=>aU) (fun cl s H fp=>(kix hu (pv 2) (pv 1))))))
abbrev qH:Stmt:=mtop 96 9
theorem kE{c:RCl RK}(Jy:FldK Z.K c "cells")(JI:FldK Z.K c "mark"){f:Addr}(D:Me Z.K "marked" "Rule.marked" qH f):Mo Z 1 f ["self","filling"] (o0 Z.K c):=okm D xy bd2 fun hr hu nd=>(af (ai (aG (ix:=[none,none,some 1,some 0]) [".0","cell","filling","self"] (aB rfl (by decide+kernel) rfl rfl rfl) rfl (vc (bw (pv 0) Jy)) (fun cl s H fp=>(ar (i:=1) (show([".0","cell","filling","self"]:List Str).Nodup by decide+kernel) rfl (Or.inl rfl))) (fun cl s H fp=>(a8 (ao (ax hu) (kix hu (pv 2) (pv 1)) (bw (pv 3) JI) (aj _)))) (fun cl s H fp=>(pv 1)))))
abbrev ug:Stmt:=top 112
theorem Bm{t_FIGURES:Tok}(Lo:Z.mg "FIGURES"=some (.str (tx [48,49,50,51,52,53,54,55,56,57]) t_FIGURES)){t_MOST_FIGURES:Tok}(Ko:Z.mg "MOST_FIGURES"=some (.int 9 t_MOST_FIGURES))(D:De Z.K "number_in" ug):t4 Z:=okc Bz D Al bd1 fun hr hu nd=>(ae (aw (Ou (bj (ao (ax hu) (pv 0) aM (aj _)) (bj (ao cx (au aF rfl Bz.len_ aP (ab (pv 0) ad)) (cp rfl Ko ⟨t_MOST_FIGURES,rfl⟩) (aj _)) (bC (Ou (oQ (ao (ax hu) (kix hu (pv 0) ah) aM (aj _)) (l7 (ao (aV hu) (pv 0) aM (aj _))))))))) (af (ai iW)) ap)
   (ae (aw (be (aL (au (dm rfl) rfl Bz.all_ jc (ab (aG (ix:=[none,none]) [".0","figure"] (aB rfl (by decide+kernel) rfl rfl rfl) rfl (HN (pv 0)) (fun cl s H fp=>(ar (i:=1) (show([".0","figure"]:List Str).Nodup by decide+kernel) rfl (Or.inl rfl))) (fun cl s H fp=>aU) (fun cl s H fp=>(ay (fO hu) (pv 1) (cp rfl Lo ⟨t_FIGURES,rfl⟩) (by with_unfolding_all rfl)))) ad)))) (af (ai iW)) ap)
   (af (ai (aS qc rfl Bz.int_ rb (ab (pv 0) ad))))))
abbrev pE:Stmt:=mtop 125 1
theorem wt{c:RCl RK}{d:RCl PzK}(JM:FldK Z.K d "floor"){f:Addr}(D:Me Z.K "place" "Puzzle.place" pE f):Mo Z 1 f ["self"] (nt Z.K c d):=okm D vG bd1 fun hr hu nd=>(af (ai (bw (pv 0) JM)))
abbrev pF:Stmt:=mtop 125 3
theorem wu{c:RCl RK}{d:RCl PzK}(JY:FldK Z.K d "given"){f:Addr}(D:Me Z.K "clues" "Puzzle.clues" pF f):Mo Z 1 f ["self"] (nu Z.K c d):=okm D vH bd1 fun hr hu nd=>(af (ai (aS cY rfl Bz.list_ bQ (ab (bw (pv 0) JY) ad))))
abbrev pG:Stmt:=mtop 125 4
theorem wv{c:RCl RK}{d:RCl PzK}(J7:FldK Z.K d "laws"){f:Addr}(D:Me Z.K "rules" "Puzzle.rules" pG f):Mo Z 1 f ["self"] (nv Z.K c d):=okm D vI bd1 fun hr hu nd=>(af (ai (aS cY rfl Bz.list_ bQ (ab (bw (pv 0) J7) ad))))
abbrev sC:Stmt:=top 127
theorem zh(D:De Z.K "_law_mixed" sC):dS Z:=okc Bz D yW bd2 fun hr hu nd=>(ae (kset 2 nd (av aH (av aH (av cV (av cV (pv 1) (pv 1)) ah) (av cV ah (pv 1))) ah))
   (ae (aw (ao cx (au iX rfl Bz.len_ aP (ab (pv 0) ad)) ah (aj _)) (ae (kset 3 nd (av bh (zA Ci (pv 0) (av bh (pv 1) (au iX rfl Bz.len_ aP (ab (pv 0) ad))) (fun _ _=>rfl)) (av Gz ah ah)))
   (af (kset 2 nd (av aH (pv 2) (av cV (pv 3) (av aH ah (av j8 (pv 1) (au iX rfl Bz.len_ aP (ab (pv 0) ad))))))))) ap)
   (af (ai (av bh (pv 2) ah)))))
abbrev uh:Stmt:=top 129
theorem Bn(D:De Z.K "_law_seen" uh):t5 Z:=okc Bz D xH bd2 fun hr hu nd=>(ae (kset 2 nd ah)
   (ae (kset 3 nd ah)
   (ae (bt M8 rfl (az (pv 1)) (ar (i:=4) nd rfl (Or.inl rfl))
   (ae (kset 2 nd (av aH (pv 2) (aS qc rfl Bz.int_ rb (ab (ay cx (kix hu (pv 0) (pv 4)) (pv 3) (aj _)) ad))))
   (af (kset 3 nd (au (Ek rfl) rfl Bz.max_ HK (ab (pv 3) (ab (kix hu (pv 0) (pv 4)) ad)))))))
   (af (ai (pv 2))))))
abbrev sD:Stmt:=top 130
theorem zi(D:De Z.K "_law_chain" sD):rY Z:=okc Bz D wf bd3 fun hr hu nd=>(ae (kset 3 nd (aJ ad))
   (ae (bt M8 rfl (az (pv 1)) (ar (i:=4) nd rfl (Or.inl rfl))
   (ae (j7 (k:=5) nd rfl (Or.inl rfl) rfl (ix:=[none,none,some 0]) [".0","_law_one","_law_answer"] (aB rfl (by decide+kernel) rfl rfl rfl) rfl (az (pv 3)) (fun cl s H fp=>(ar (i:=1) (show([".0","_law_one","_law_answer"]:List Str).Nodup by decide+kernel) rfl (Or.inl rfl))) (fun cl s H fp=>aU) (fun cl s H fp=>(kix hu (pv 2) (pv 1))))
   (af (aw (Ou (bj (ao (ax hu) (au aF rfl Bz.len_ aP (ab (pv 3) ad)) ah (aj _)) (bj (Ou (oQ (aL (pv 2)) (l7 (ao cx (kix hu (pv 0) (pv 4)) (kix hu (pv 5) (F4 DN ah)) (aj _))))) (bC (Ou (oQ (be (aL (pv 2))) (l7 (ao (cg hu) (kix hu (pv 0) (pv 4)) (pv 5) (by with_unfolding_all rfl))))))))) (af (cq (bF MY Ng Nh bH (pv 3) (ab (pv 4) ad)))) ap))))
   (af (ai (pv 3)))))
abbrev mY:Stmt:=top 11
theorem tI(Ju:gm Z)(D:De Z.K "is_from_one_to" mY):iK Z:=okc Bz D tq bd2 fun hr hu nd=>(af (ai (bm (kcal Ju hr (ab (pv 0) ad)) (bm (ay gW ah (pv 0) (aj _)) (br (ay gW (pv 0) (pv 1) (aj _)))))))
abbrev Bo:Stmt:=top 15
theorem Fk(J8:rX Z)(D:De Z.K "beside" Bo):kC Z:=okc Bz D Ex bd2 fun hr hu nd=>(ae (kset 2 nd (kix hu (pv 0) ah))
   (ae (kset 3 nd (kix hu (pv 0) ah))
   (ae (kset 4 nd (kcal J8 hr (ab (pv 0) (ab (pv 1) ad))))
   (ae (kset 5 nd (aJ ad))
   (ae (aw (ao cx (kix hu (pv 4) ah) ah (aj _)) (af (cq (bF MY Ng Nh bH (pv 5) (ab (av b4 (pv 1) (pv 3)) ad)))) ap)
   (ae (aw (ao cx (kix hu (pv 4) ah) ah (aj _)) (af (cq (bF MY Ng Nh bH (pv 5) (ab (av b4 (pv 1) ah) ad)))) ap)
   (ae (aw (ao bW (kix hu (pv 4) ah) (av b4 (pv 3) ah) (aj _)) (af (cq (bF MY Ng Nh bH (pv 5) (ab (av aH (pv 1) ah) ad)))) ap)
   (ae (aw (ao bW (kix hu (pv 4) ah) (av b4 (pv 2) ah) (aj _)) (af (cq (bF MY Ng Nh bH (pv 5) (ab (av aH (pv 1) (pv 3)) ad)))) ap)
   (af (ai (pv 5)))))))))))
abbrev ui:Stmt:=top 16
theorem Bp(J8:rX Z)(D:De Z.K "is_corner" ui):t6 Z:=okc Bz D Ah bd2 fun hr hu nd=>(ae (kset 2 nd (kcal J8 hr (ab (pv 0) (ab (pv 1) ad))))
   (af (ai (bm (ay bW (kix hu (pv 2) ah) (av b4 (kix hu (pv 0) ah) ah) (aj _)) (br (ay bW (kix hu (pv 2) ah) (av b4 (kix hu (pv 0) ah) ah) (aj _)))))))
abbrev uj:Stmt:=top 22
theorem Bq(JQ:qr Z)(D:De Z.K "full_mask" uj):t7 Z:=okc Bz D A0 bd1 fun hr hu nd=>(af (ai (av b4 (kcal JQ hr (ab (av aH (kix hu (pv 0) ah) ah) ad)) ah)))
abbrev yI:Stmt:=top 24
theorem Dy(JQ:qr Z)(Jx:iJ Z)(D:De Z.K "without" yI):rZ Z:=okc Bz D Db bd2 fun hr hu nd=>(af (ai (fL (aL (kcal Jx hr (ab (pv 0) (ab (pv 1) ad)))) (av b4 (pv 0) (kcal JQ hr (ab (pv 1) ad))) (pv 0))))
abbrev ww:Stmt:=top 26
theorem B6(Jx:iJ Z)(D:De Z.K "signs_in" ww):cf Z:=okc Bz D BO bd1 fun hr hu nd=>(af (ai (aG (ix:=[none,none,some 0]) [".0","sign","mask"] (aB rfl (by decide+kernel) rfl rfl rfl) rfl (x9 rfl Bz.range_ (ab ah (ab (av aH (DY P0 Pi Pj vp (pv 0)) ah) ad))) (fun cl s H fp=>(ar (i:=1) (show([".0","sign","mask"]:List Str).Nodup by decide+kernel) rfl (Or.inl rfl))) (fun cl s H fp=>(a8 (aL (kcal Jx hr (ab (pv 2) (ab (pv 1) ad)))))) (fun cl s H fp=>(pv 1)))))
abbrev yJ:Stmt:=top 34
theorem Dz(Ju:gm Z)(Jn:cP Z)(D:De Z.K "is_cell" yJ):r8 Z:=okc Bz D Dc bd2 fun hr hu nd=>(af (ai (bm (kcal Ju hr (ab (pv 1) ad)) (bm (ay gW ah (pv 1) (aj _)) (br (ay bW (pv 1) (kcal Jn hr (ab (pv 0) ad)) (aj _)))))))
abbrev yK:Stmt:=top 36
theorem DA{c:RCl RK}(LQ:Fh Z c)(Kf:GDict Z.w Z.K Z.mg "RULES_OF_KIND" gd_RULES_OF_KIND)(D:De Z.K "goes_by" yK):sd Z c:=okc Bz D Df bd2 fun hr hu nd=>(af (ai (vb (ay (ax hu) (pv 0) aM (aj _)) (br (ay Ib (aI LQ hr (by decide) (pv 1)) (Ia Kf (pv 0) rfl (fun _ _=>rfl)) (by with_unfolding_all rfl))))))
abbrev Br:Stmt:=top 39
theorem Fl{c:RCl RK}(Jv:iU Z c)(D:De Z.K "others" Br):cQ Z c:=okc Bz D EI bd2 fun hr hu nd=>(af (ai (aG (ix:=[none,none,some 1]) [".0","spot","cell"] (aB rfl (by decide+kernel) rfl rfl rfl) rfl (az (aI Jv hr (by decide) (pv 0))) (fun cl s H fp=>(ar (i:=1) (show([".0","spot","cell"]:List Str).Nodup by decide+kernel) rfl (Or.inl rfl))) (fun cl s H fp=>(a8 (ao (aV hu) (pv 1) (pv 2) (aj _)))) (fun cl s H fp=>(pv 1)))))
abbrev wx:Stmt:=top 42
theorem B7(Jx:iJ Z)(D:De Z.K "many_may" wx):l6 Z:=okc Bz D BQ bd2 fun hr hu nd=>(af (ai (au aF rfl Bz.len_ aP (ab (aG (ix:=[none,none,some 1]) [".0","mask","sign"] (aB rfl (by decide+kernel) rfl rfl rfl) rfl (az (pv 0)) (fun cl s H fp=>(ar (i:=1) (show([".0","mask","sign"]:List Str).Nodup by decide+kernel) rfl (Or.inl rfl))) (fun cl s H fp=>(a8 (aL (kcal Jx hr (ab (pv 1) (ab (pv 2) ad)))))) (fun cl s H fp=>(pv 1))) ad))))
abbrev wy:Stmt:=top 48
theorem B8{c:RCl RK}(Jv:iU Z c)(D:De Z.K "ahead_of" wy):wl Z c:=okc Bz D BR bd2 fun hr hu nd=>(ae (kset 2 nd (aI Jv hr (by decide) (pv 0)))
   (ae (kset 3 nd (bF MY NQ NR (iM hu) (pv 2) (ab (pv 1) ad)))
   (af (ai (fL (ao cx (pv 3) ah (aj _)) (j6 vo (pv 2) (gj (av b4 (pv 3) ah)) (gj (pv 3))) (aJ ad))))))
abbrev Bs:Stmt:=top 49
theorem Fm{c:RCl RK}(Jv:iU Z c)(D:De Z.K "behind" Bs):Bb Z c:=okc Bz D EM bd2 fun hr hu nd=>(ae (kset 2 nd (aI Jv hr (by decide) (pv 0)))
   (ae (kset 3 nd (bF MY NQ NR (iM hu) (pv 2) (ab (pv 1) ad)))
   (af (ai (j6 vo (pv 2) (gj (av aH (pv 3) ah)) (gj (av aH (pv 3) ah)))))))
abbrev mZ:Stmt:=top 62
theorem tJ(JR:oN Z)(D:De Z.K "with_each_sign" mZ):mU Z:=okc Bz D tF bd3 fun hr hu nd=>(ae (kset 3 nd (aJ ad))
   (ae (bt M8 rfl (az (pv 0)) (ar (i:=4) nd rfl (Or.inr rfl))
   (af (cq (bF MY PF PH vj (pv 3) (ab (aG (ix:=[none,none,some 1,some 4]) [".0","sign","cell","filling"] (aB rfl (by decide+kernel) rfl rfl rfl) rfl (az (pv 2)) (fun cl s H fp=>(ar (i:=1) (show([".0","sign","cell","filling"]:List Str).Nodup by decide+kernel) rfl (Or.inl rfl))) (fun cl s H fp=>aU) (fun cl s H fp=>(kcal JR hr (ab (pv 3) (ab (pv 2) (ab (pv 1) ad)))))) ad)))))
   (af (ai (pv 3)))))
abbrev pH:Stmt:=top 86
theorem wz{c:RCl RK}{d:RCl PzK}(Jn:cP Z)(Jw:iS Z c d)(Jt:iT Z c d)(Jv:iU Z c)(D:De Z.K "cells_to_try" pH):o9 Z c d:=okc Bz D wc bd3 fun hr hu nd=>(ae (aw (ao (ax hu) (pv 1) aM (aj _)) (af (ai (og rfl rfl rfl Bz.list_ Bz.range_ (ab (kcal Jn hr (ab (aI Jw hr (by decide) (pv 0)) ad)) ad)))) ap)
   (af (ai (au iZ rfl Bz.sorted_ nh (ab (aI Jv hr (by decide) (kix hu (aI Jt hr (by decide) (pv 0)) (pv 2))) ad)))))
abbrev pI:Stmt:=mtop 97 0
theorem wA{c:RCl RK}(JC:jU Z c){f:Addr}(D:Me Z.K "holds" "Unlike.holds" pI f):Mo Z 2 f ["self","filling"] (nr Z.K c):=okm D vE bd2 fun hr hu nd=>(ae (kset 2 nd (bR JC hr (by decide) (pv 0) (ab (pv 1) ad)))
   (af (ai (ay (ax hu) (yp rfl rfl rfl Bz.len_ Bz.set_ (pv 2)) (au aF rfl Bz.len_ aP (ab (pv 2) ad)) (aj _)))))
abbrev uk:Stmt:=mtop 98 1
theorem Bu{c:RCl RK}(Jr:FldK Z.K c "amount")(JC:jU Z c){f:Addr}(D:Me Z.K "holds" "Sum.holds" uk f):Mo Z 2 f ["self","filling"] (rJ Z.K c):=okm D At bd2 fun hr hu nd=>(af (ai (ay (ax hu) (au (nn rfl) rfl Bz.sum_ vq (ab (bR JC hr (by decide) (pv 0) (ab (pv 1) ad)) ad)) (bw (pv 0) Jr) (aj _))))
abbrev pJ:Stmt:=mtop 99 1
theorem wB{c:RCl RK}(JC:jU Z c){f:Addr}(D:Me Z.K "holds" "Rising.holds" pJ f):Mo Z 2 f ["self","filling"] (nA Z.K c):=okm D vS bd2 fun hr hu nd=>(ae (eh (i:=2) nd rfl (Or.inr rfl) (bR JC hr (by decide) (pv 0) (ab (pv 1) ad)))
   (af (ai (au (dm rfl) rfl Bz.all_ jc (ab (aG (ix:=[none,none,some 2]) [".0","place","signs"] (aB rfl (by decide+kernel) rfl rfl rfl) rfl (cW rfl Bz.range_ (ab (av b4 (au aF rfl Bz.len_ aP (ab (pv 2) ad)) ah) ad)) (fun cl s H fp=>(ar (i:=1) (show([".0","place","signs"]:List Str).Nodup by decide+kernel) rfl (Or.inl rfl))) (fun cl s H fp=>aU) (fun cl s H fp=>(ay bW (kix hu (pv 2) (pv 1)) (kix hu (pv 2) (av aH (pv 1) ah)) (aj _)))) ad)))))
abbrev sE:Stmt:=mtop 100 1
theorem zj{c:RCl RK}(Jr:FldK Z.K c "amount")(JC:jU Z c){f:Addr}(D:Me Z.K "holds" "Seen.holds" sE f):Mo Z 2 f ["self","filling"] (qA Z.K c):=okm D y4 bd2 fun hr hu nd=>(ae (kset 2 nd ah)
   (ae (kset 3 nd ah)
   (ae (bt M8 rfl (az (bR JC hr (by decide) (pv 0) (ab (pv 1) ad))) (ar (i:=4) nd rfl (Or.inl rfl))
   (af (aw (ao cx (pv 4) (pv 2) (aj _)) (ae (kset 2 nd (pv 4))
   (af (kset 3 nd (av aH (pv 3) ah)))) ap)))
   (af (ai (ay (ax hu) (pv 3) (bw (pv 0) Jr) (aj _)))))))
abbrev qI:Stmt:=mtop 101 0
theorem xV{c:RCl RK}(Jr:FldK Z.K c "amount")(JO:iL Z c){f:Addr}(D:Me Z.K "holds" "Count.holds" qI f):Mo Z 2 f ["self","filling"] (o4 Z.K c):=okm D xA bd2 fun hr hu nd=>(af (ai (ay (ax hu) (au aF rfl Bz.len_ aP (ab (bR JO hr (by decide) (pv 0) (ab (pv 1) ad)) ad)) (bw (pv 0) Jr) (aj _))))
abbrev nV:Stmt:=top 113
theorem uX(K4:t4 Z)(D:De Z.K "number_within" nV):jT Z:=okc Bz D uD bd3 fun hr hu nd=>(ae (kset 3 nd (kcal K4 hr (ab (pv 0) ad)))
   (ae (aw (Ou (bj (ao zO (pv 3) iW (aj _)) (bj (ao bW (pv 3) (pv 1) (aj _)) (bC (ao cx (pv 3) (pv 2) (aj _)))))) (af bG) ap)
   (af (ai (pv 3)))))
abbrev sF:Stmt:=top 123
theorem zk(Ju:gm Z)(Jn:cP Z)(D:De Z.K "is_filling" sF):se Z:=okc Bz D yY bd3 fun hr hu nd=>(ae (aw (Ou (bj (be (aL (au bX rfl Bz.isinstance_ bi (ab (pv 1) (ab (dI (v:=.ty "list") rfl Bz.list_ bQ rfl) ad))))) (bC (ao (aV hu) (au aF rfl Bz.len_ aP (ab (pv 1) ad)) (kcal Jn hr (ab (pv 0) ad)) (aj _))))) (af (ai bg)) ap)
   (af (ai (au (dm rfl) rfl Bz.all_ jc (ab (aG (ix:=[none,none,some 0,some 2]) [".0","sign","floor","least"] (aB rfl (by decide+kernel) rfl rfl rfl) rfl (az (pv 1)) (fun cl s H fp=>(ar (i:=1) (show([".0","sign","floor","least"]:List Str).Nodup by decide+kernel) rfl (Or.inl rfl))) (fun cl s H fp=>aU) (fun cl s H fp=>(bm (kcal Ju hr (ab (pv 1) ad)) (bm (ay gW (pv 3) (pv 1) (aj _)) (br (ay gW (pv 1) (kix hu (pv 2) ah) (aj _))))))) ad)))))
abbrev sG:Stmt:=top 128
theorem zn(Jo:dS Z)(D:De Z.K "_law_cells" sG):sf Z:=okc Bz D xq bd4 fun hr hu nd=>(ae (kset 4 nd (og rfl rfl rfl Bz.list_ Bz.range_ (ab (pv 2) ad)))
   (ae (kset 5 nd (aJ ad))
   (ae (bt M8 rfl (cW rfl Bz.range_ (ab (pv 3) ad)) (ar (i:=6) nd rfl (Or.inl rfl))
   (af (cq (bF MY Ng Nh bH (pv 5) (ab (bF MY PySem.F.slot_list_pop PySem.F.type_list_pop EB (pv 4) (ab (av bh (kcal Jo hr (ab (pv 0) (ab (av aH (pv 1) (pv 6)) ad))) (au aF rfl Bz.len_ aP (ab (pv 4) ad))) ad)) ad)))))
   (af (ai (pv 5))))))
abbrev pK:Stmt:=top 133
theorem wC(Jo:dS Z)(D:De Z.K "_law_entries" pK):pb Z:=okc Bz D tH bd4 fun hr hu nd=>(ae (kset 4 nd (kcal Jo hr (ab (pv 0) (ab (pv 1) ad))))
   (ae (kset 5 nd (aJ ad))
   (ae (bt M8 rfl (cW rfl Bz.range_ (ab (au aF rfl Bz.len_ aP (ab (pv 3) ad)) ad)) (ar (i:=6) nd rfl (Or.inl rfl))
   (ae (kset 7 nd (kcal Jo hr (ab (pv 0) (ab (av aH (av aH (pv 1) ah) (pv 6)) ad))))
   (ae (kset 8 nd (kix hu (pv 3) (pv 6)))
   (ae (aw (Ou (oQ (ao (ax hu) (av bh (pv 7) ah) ah (aj _)) (l7 (ao cx (av bh (pv 4) ah) ah (aj _))))) (af (kset 8 nd (av aH ah (av bh (av j8 (pv 7) ah) (kix hu (pv 2) ah))))) ap)
   (af (cq (bF MY Ng Nh bH (pv 5) (ab (av cV (pv 8) (aS qc rfl Bz.int_ rb (ab (ay bW (av bh (av j8 (pv 7) ah) ah) (kix hu (aJ (ab ah (ab ah (ab ah (ab ah ad))))) (av bh (av j8 (pv 4) ah) ah)) (aj _)) ad))) ad))))))))
   (af (ai (pv 5))))))
abbrev wD:Stmt:=top 12
theorem B9(Jz:iK Z){t_MOST_CELLS:Tok}(KN:Z.mg "MOST_CELLS"=some (.int 16 t_MOST_CELLS)){t_MOST_SIDE:Tok}(KD:Z.mg "MOST_SIDE"=some (.int 6 t_MOST_SIDE)){t_MOST_SIGNS:Tok}(KO:Z.mg "MOST_SIGNS"=some (.int 6 t_MOST_SIGNS))(D:De Z.K "floor_of" wD):wm Z:=okc Bz D BM bd3 fun hr hu nd=>(ae (aw (be (aL (kcal Jz hr (ab (pv 0) (ab (cp rfl KD ⟨t_MOST_SIDE,rfl⟩) ad))))) (af bG) ap)
   (ae (aw (be (aL (kcal Jz hr (ab (pv 1) (ab (cp rfl KD ⟨t_MOST_SIDE,rfl⟩) ad))))) (af bG) ap)
   (ae (aw (ao cx (av cV (pv 0) (pv 1)) (cp rfl KN ⟨t_MOST_CELLS,rfl⟩) (aj _)) (af bG) ap)
   (ae (aw (be (aL (kcal Jz hr (ab (pv 2) (ab (cp rfl KO ⟨t_MOST_SIGNS,rfl⟩) ad))))) (af bG) ap)
   (af (ai (bV (ab (pv 0) (ab (pv 1) (ab (pv 2) ad))))))))))
abbrev yL:Stmt:=top 18
theorem DB(K5:t6 Z)(Jn:cP Z)(K6:tZ Z)(D:De Z.K "squares" yL):nJ Z:=okc Bz D C7 bd1 fun hr hu nd=>(af (ai (aG (ix:=[none,none,some 0]) [".0","cell","floor"] (aB rfl (by decide+kernel) rfl rfl rfl) rfl (cW rfl Bz.range_ (ab (kcal Jn hr (ab (pv 0) ad)) ad)) (fun cl s H fp=>(ar (i:=1) (show([".0","cell","floor"]:List Str).Nodup by decide+kernel) rfl (Or.inl rfl))) (fun cl s H fp=>(a8 (aL (kcal K5 hr (ab (pv 2) (ab (pv 1) ad)))))) (fun cl s H fp=>(kcal K6 hr (ab (pv 2) (ab (pv 1) ad)))))))
abbrev yM:Stmt:=top 19
theorem DC(JA:kC Z)(D:De Z.K "reached" yM):nK Z:=okc Bz D Dh bd3 fun hr hu nd=>(ae (aw (ao (cg hu) (pv 2) (pv 1) (by with_unfolding_all rfl)) (af (ai (aJ ad))) ap)
   (ae (kset 3 nd (aJ (ab (pv 2) ad)))
   (ae (kset 4 nd ah)
   (ae (zM M8 (ao bW (pv 4) (au aF rfl Bz.len_ aP (ab (pv 3) ad)) (aj _))
   (ae (bt M8 rfl (az (kcal JA hr (ab (pv 0) (ab (kix hu (pv 3) (pv 4)) ad)))) (ar (i:=5) nd rfl (Or.inl rfl))
   (af (aw (Ou (oQ (ao (fO hu) (pv 5) (pv 1) (by with_unfolding_all rfl)) (l7 (ao (cg hu) (pv 5) (pv 3) (by with_unfolding_all rfl))))) (af (cq (bF MY Ng Nh bH (pv 3) (ab (pv 5) ad)))) ap)))
   (af (kset 4 nd (av aH (pv 4) ah)))))
   (af (ai (au iZ rfl Bz.sorted_ nh (ab (pv 3) ad))))))))
abbrev wE:Stmt:=top 25
theorem Ca(J9:rZ Z)(D:De Z.K "has_only" wE):d9 Z:=okc Bz D BN bd2 fun hr hu nd=>(af (ai (ay (ax hu) (kcal J9 hr (ab (pv 0) (ab (pv 1) ad))) ah (aj _))))
abbrev Bv:Stmt:=top 27
theorem Fn(J9:rZ Z)(D:De Z.K "struck" Bv):uT Z:=okc Bz D EX bd3 fun hr hu nd=>(af (ai (aG (ix:=[none,none,none,some 1,some 2]) [".0","place","mask","cell","sign"] (aB rfl (by decide+kernel) rfl rfl rfl) rfl (w5 rfl Bz.enumerate_ (ab (pv 0) ad)) (fun cl s H fp=>(qS rfl (b8 (ar (i:=1) (show([".0","place","mask","cell","sign"]:List Str).Nodup by decide+kernel) rfl (Or.inl rfl)) (b8 (ar (i:=2) (show([".0","place","mask","cell","sign"]:List Str).Nodup by decide+kernel) rfl (Or.inl rfl)) oR)))) (fun cl s H fp=>aU) (fun cl s H fp=>(fL (ao (ax hu) (pv 1) (pv 3) (aj _)) (kcal J9 hr (ab (pv 2) (ab (pv 4) ad))) (pv 2))))))
abbrev Fo:Stmt:=top 29
theorem Hg(Jl:cf Z)(D:De Z.K "ways" Fo):Ff Z:=okc Bz D GR bd1 fun hr hu nd=>(ae (kset 1 nd ah)
   (ae (bt M8 rfl (az (pv 0)) (ar (i:=2) nd rfl (Or.inl rfl))
   (af (kset 1 nd (av cV (pv 1) (au aF rfl Bz.len_ aP (ab (kcal Jl hr (ab (pv 2) ad)) ad))))))
   (af (ai (pv 1)))))
abbrev wF:Stmt:=top 30
theorem Cb(JQ:qr Z)(K7:t7 Z)(D:De Z.K "masks_by" wF):qt Z:=okc Bz D BY bd2 fun hr hu nd=>(af (ai (aG (ix:=[none,none,some 0]) [".0","sign","floor"] (aB rfl (by decide+kernel) rfl rfl rfl) rfl (az (pv 1)) (fun cl s H fp=>(ar (i:=1) (show([".0","sign","floor"]:List Str).Nodup by decide+kernel) rfl (Or.inl rfl))) (fun cl s H fp=>aU) (fun cl s H fp=>(fL (ao (ax hu) (pv 1) ah (aj _)) (kcal K7 hr (ab (pv 2) ad)) (kcal JQ hr (ab (pv 1) ad)))))))
abbrev yN:Stmt:=top 35
theorem DD(Jz:iK Z)(D:De Z.K "is_sign" yN):sh Z:=okc Bz D Dd bd2 fun hr hu nd=>(af (ai (kcal Jz hr (ab (pv 1) (ab (kix hu (pv 0) ah) ad)))))
abbrev pL:Stmt:=top 37
theorem wG{c:RCl RK}{d:RCl PzK}(Ka:sd Z c)(Ju:gm Z)(Jt:iT Z c d)(Jv:iU Z c)(D:De Z.K "has_its_rule" pL):pc Z c d:=okc Bz D vJ bd4 fun hr hu nd=>(ae (aw (Ou (bj (be (aL (kcal Ju hr (ab (pv 2) ad)))) (bC (ao bW (pv 2) ah (aj _))))) (af (ai bg)) ap)
   (ae (aw (ao (ax hu) (pv 1) aM (aj _)) (af (ai (ay (ax hu) (pv 2) ah (aj _)))) ap)
   (ae (kset 4 nd (aI Jt hr (by decide) (pv 0)))
   (ae (aw (ao vi (pv 2) (au aF rfl Bz.len_ aP (ab (pv 4) ad)) (aj _)) (af (ai bg)) ap)
   (af (ai (bm (kcal Ka hr (ab (pv 1) (ab (kix hu (pv 4) (pv 2)) ad))) (br (ay (fO hu) (pv 3) (aI Jv hr (by decide) (kix hu (pv 4) (pv 2))) (by with_unfolding_all rfl))))))))))
abbrev nX:Stmt:=top 50
theorem uY(Jl:cf Z)(D:De Z.K "is_no_greater" nX):nL Z:=okc Bz D uJ bd2 fun hr hu nd=>(af (ai (au (dm rfl) rfl Bz.all_ jc (ab (aG (ix:=[none,none,some 0]) [".0","other","sign"] (aB rfl (by decide+kernel) rfl rfl rfl) rfl (az (kcal Jl hr (ab (pv 1) ad))) (fun cl s H fp=>(ar (i:=1) (show([".0","other","sign"]:List Str).Nodup by decide+kernel) rfl (Or.inl rfl))) (fun cl s H fp=>aU) (fun cl s H fp=>(ay gW (pv 2) (pv 1) (aj _)))) ad))))
abbrev sH:Stmt:=top 51
theorem zp(Jl:cf Z)(D:De Z.K "is_no_less" sH):si Z:=okc Bz D yZ bd2 fun hr hu nd=>(af (ai (au (dm rfl) rfl Bz.all_ jc (ab (aG (ix:=[none,none,some 0]) [".0","other","sign"] (aB rfl (by decide+kernel) rfl rfl rfl) rfl (az (kcal Jl hr (ab (pv 1) ad))) (fun cl s H fp=>(ar (i:=1) (show([".0","other","sign"]:List Str).Nodup by decide+kernel) rfl (Or.inl rfl))) (fun cl s H fp=>aU) (fun cl s H fp=>(ay vi (pv 2) (pv 1) (aj _)))) ad))))
abbrev pM:Stmt:=top 54
theorem wH{c:RCl RK}(JT:jX Z)(Jm:cQ Z c)(Jl:cf Z)(D:De Z.K "pair_strikes" pM):pf Z c:=okc Bz D vP bd5 fun hr hu nd=>(ae (aw (be (aL (kcal JT hr (ab (kcal Jm hr (ab (pv 0) (ab (pv 2) ad))) (ab (pv 4) ad))))) (af (ai bg)) ap)
   (ae (kset 5 nd (kcal Jl hr (ab (av HP (kix hu (pv 1) (kix hu (pv 4) ah)) (kix hu (pv 1) (kix hu (pv 4) ah))) ad)))
   (af (ai (ay gW (au aF rfl Bz.len_ aP (ab (aG (ix:=[none,none,some 3]) [".0","other","sign"] (aB rfl (by decide+kernel) rfl rfl rfl) rfl (az (pv 5)) (fun cl s H fp=>(ar (i:=1) (show([".0","other","sign"]:List Str).Nodup by decide+kernel) rfl (Or.inl rfl))) (fun cl s H fp=>(a8 (ao (aV hu) (pv 1) (pv 2) (aj _)))) (fun cl s H fp=>(pv 1))) ad)) ah (aj _))))))
abbrev qJ:Stmt:=top 60
theorem xW{c:RCl RK}(Js:gh Z)(Jp:d8 Z)(Jm:cQ Z c)(Jl:cf Z)(JW:uU Z c)(D:De Z.K "sum_strikes" qJ):qD Z c:=okc Bz D xv bd5 fun hr hu nd=>(ae (aw (ao (aV hu) (pv 4) (aJ ad) (aj _)) (af (ai bg)) ap)
   (ae (kset 5 nd (kcal Jp hr (ab (pv 1) (ab (kcal Jm hr (ab (pv 0) (ab (pv 2) ad))) ad))))
   (ae (aw (aL (kcal Js hr (ab (pv 5) ad))) (af (ai bg)) ap)
   (ae (kset 6 nd (av aH (pv 3) (au (nn rfl) rfl Bz.sum_ vq (ab (aG (ix:=[none,none]) [".0","mask"] (aB rfl (by decide+kernel) rfl rfl rfl) rfl (az (pv 5)) (fun cl s H fp=>(ar (i:=1) (show([".0","mask"]:List Str).Nodup by decide+kernel) rfl (Or.inl rfl))) (fun cl s H fp=>aU) (fun cl s H fp=>(kix hu (kcal Jl hr (ab (pv 1) ad)) ah))) ad))))
   (ae (kset 7 nd (av aH (pv 3) (au (nn rfl) rfl Bz.sum_ vq (ab (aG (ix:=[none,none]) [".0","mask"] (aB rfl (by decide+kernel) rfl rfl rfl) rfl (az (pv 5)) (fun cl s H fp=>(ar (i:=1) (show([".0","mask"]:List Str).Nodup by decide+kernel) rfl (Or.inl rfl))) (fun cl s H fp=>aU) (fun cl s H fp=>(kix hu (kcal Jl hr (ab (pv 1) ad)) (F4 DN ah)))) ad))))
   (af (ai (vb (ay cx (pv 6) (aI JW hr (by decide) (pv 0)) (aj _)) (br (ay bW (pv 7) (aI JW hr (by decide) (pv 0)) (aj _)))))))))))
abbrev Bw:Stmt:=top 70
theorem Fp(JA:kC Z)(D:De Z.K "around" Bw):Bc Z:=okc Bz D EV bd3 fun hr hu nd=>(af (ai (aG (ix:=[none,none,some 2]) [".0","other","cell"] (aB rfl (by decide+kernel) rfl rfl rfl) rfl (az (kcal JA hr (ab (pv 0) (ab (pv 1) ad)))) (fun cl s H fp=>(ar (i:=1) (show([".0","other","cell"]:List Str).Nodup by decide+kernel) rfl (Or.inl rfl))) (fun cl s H fp=>(a8 (ao (aV hu) (pv 1) (pv 2) (aj _)))) (fun cl s H fp=>(pv 1)))))
abbrev sI:Stmt:=top 81
theorem zq(JA:kC Z)(D:De Z.K "turn_mores" sI):sj Z:=okc Bz D y9 bd2 fun hr hu nd=>(af (ai (av aH (aJ (ab (aJ ad) ad)) (aG (ix:=[none,none]) [".0","other"] (aB rfl (by decide+kernel) rfl rfl rfl) rfl (az (kcal JA hr (ab (pv 0) (ab (pv 1) ad)))) (fun cl s H fp=>(ar (i:=1) (show([".0","other"]:List Str).Nodup by decide+kernel) rfl (Or.inl rfl))) (fun cl s H fp=>aU) (fun cl s H fp=>(aJ (ab (pv 1) ad)))))))
abbrev sJ:Stmt:=top 82
theorem zr{c:RCl RK}(Jm:cQ Z c)(Jl:cf Z)(Jv:iU Z c)(D:De Z.K "pair_mores" sJ):sk Z c:=okc Bz D za bd3 fun hr hu nd=>(ae (eh (i:=3) nd rfl (Or.inr rfl) (aI Jv hr (by decide) (pv 0)))
   (ae (j7 (k:=4) nd rfl (Or.inl rfl) rfl (ix:=[none,none,some 1]) [".0","other","masks"] (aB rfl (by decide+kernel) rfl rfl rfl) rfl (az (au iZ rfl Bz.sorted_ nh (ab (kcal Jm hr (ab (pv 0) (ab (pv 2) ad))) ad))) (fun cl s H fp=>(ar (i:=1) (show([".0","other","masks"]:List Str).Nodup by decide+kernel) rfl (Or.inl rfl))) (fun cl s H fp=>(a8 (ao gW (au aF rfl Bz.len_ aP (ab (kcal Jl hr (ab (kix hu (pv 2) (pv 1)) ad)) ad)) ah (aj _)))) (fun cl s H fp=>(pv 1)))
   (ae (kset 5 nd (aJ ad))
   (ae (bt M8 rfl (az (pv 4)) (ar (i:=6) nd rfl (Or.inr rfl))
   (af (cq (bF MY PF PH vj (pv 5) (ab (aG (ix:=[none,none,some 6,some 3]) [".0","second","first","spots"] (aB rfl (by decide+kernel) rfl rfl rfl) rfl (az (pv 4)) (fun cl s H fp=>(ar (i:=1) (show([".0","second","first","spots"]:List Str).Nodup by decide+kernel) rfl (Or.inl rfl))) (fun cl s H fp=>(a8 (ao bW (bF MY NQ NR (iM hu) (pv 3) (ab (pv 2) ad)) (bF MY NQ NR (iM hu) (pv 3) (ab (pv 1) ad)) (aj _)))) (fun cl s H fp=>(aJ (ab (pv 2) (ab (pv 1) ad))))) ad)))))
   (af (ai (pv 5)))))))
abbrev pN:Stmt:=top 85
theorem wI{c:RCl RK}{d:RCl PzK}(Ka:sd Z c)(Jt:iT Z c d)(D:De Z.K "rule_numbers" pN):ph Z c d:=okc Bz D wb bd2 fun hr hu nd=>(ae (aw (ao (ax hu) (pv 1) aM (aj _)) (af (ai (aJ (ab ah ad)))) ap)
   (af (ai (aG (ix:=[none,none,none,some 1]) [".0","number","rule","kind"] (aB rfl (by decide+kernel) rfl rfl rfl) rfl (w5 rfl Bz.enumerate_ (ab (aI Jt hr (by decide) (pv 0)) ad)) (fun cl s H fp=>(qS rfl (b8 (ar (i:=1) (show([".0","number","rule","kind"]:List Str).Nodup by decide+kernel) rfl (Or.inl rfl)) (b8 (ar (i:=2) (show([".0","number","rule","kind"]:List Str).Nodup by decide+kernel) rfl (Or.inl rfl)) oR)))) (fun cl s H fp=>(a8 (aL (kcal Ka hr (ab (pv 3) (ab (pv 2) ad)))))) (fun cl s H fp=>(pv 1))))))
abbrev iV:Stmt:=mtop 104 1
theorem oP{c:RCl RK}(JA:kC Z)(JB:FldK Z.K c "floor"){f:Addr}(D:Me Z.K "has_two_beside" "Ring.has_two_beside" iV f):Mo Z 3 f ["self","cells","cell"] (g9 Z.K c):=okm D oA bd3 fun hr hu nd=>(af (ai (ay (ax hu) (au aF rfl Bz.len_ aP (ab (aG (ix:=[none,none,some 1]) [".0","other","cells"] (aB rfl (by decide+kernel) rfl rfl rfl) rfl (az (kcal JA hr (ab (bw (pv 0) JB) (ab (pv 2) ad)))) (fun cl s H fp=>(ar (i:=1) (show([".0","other","cells"]:List Str).Nodup by decide+kernel) rfl (Or.inl rfl))) (fun cl s H fp=>(a8 (ao (fO hu) (pv 1) (pv 2) (by with_unfolding_all rfl)))) (fun cl s H fp=>(pv 1))) ad)) ah (aj _))))
abbrev pO:Stmt:=top 114
theorem wJ(JJ:jT Z)(D:De Z.K "first_within" pO):pi Z:=okc Bz D vy bd3 fun hr hu nd=>(ae (aw (ao (ax hu) (pv 0) (aJ ad) (aj _)) (af bG) ap)
   (af (ai (kcal JJ hr (ab (kix hu (pv 0) ah) (ab (pv 1) (ab (pv 2) ad)))))))
abbrev sK:Stmt:=top 115
theorem zt(Jn:cP Z)(JJ:jT Z)(D:De Z.K "told_cells" sK):so Z:=okc Bz D yV bd2 fun hr hu nd=>(ae (j7 (k:=2) nd rfl (Or.inl rfl) rfl (ix:=[none,none,some 0]) [".0","word","floor"] (aB rfl (by decide+kernel) rfl rfl rfl) rfl (az (pv 1)) (fun cl s H fp=>(ar (i:=1) (show([".0","word","floor"]:List Str).Nodup by decide+kernel) rfl (Or.inl rfl))) (fun cl s H fp=>aU) (fun cl s H fp=>(kcal JJ hr (ab (pv 1) (ab ah (ab (av b4 (kcal Jn hr (ab (pv 2) ad)) ah) ad))))))
   (ae (aw (ao (ax hu) (pv 2) (aJ ad) (aj _)) (af bG) ap)
   (ae (aw (ao (aV hu) (yp rfl rfl rfl Bz.len_ Bz.set_ (pv 2)) (au aF rfl Bz.len_ aP (ab (pv 2) ad)) (aj _)) (af bG) ap)
   (af (ai (pv 2))))))
abbrev yO:Stmt:=top 117
theorem DE{c:RCl RK}(LI:aO Z "Count" (c.A .Count) c)(Lv:aO Z "Joined" (c.A .Joined) c)(Lg:aO Z "NoSquare" (c.A .NoSquare) c)(LR:aO Z "Ring" (c.A .Ring) c)(Lw:aO Z "Rising" (c.A .Rising) c)(LS:aO Z "Seen" (c.A .Seen) c)(K_Sum:aO Z "Sum" (c.A .Sum) c)(Lx:aO Z "Unlike" (c.A .Unlike) c)(D:De Z.K "rule_by" yO):yE Z c:=okc Bz D Da bd5 fun hr hu nd=>(ae (kset 5 nd (kix hu (pv 1) ah))
   (ae (aw (ao (ax hu) (pv 5) aM (aj _)) (af (ai (lV Lx hr (by decide) rfl (ab (pv 0) (ab (pv 1) (ab (pv 2) (ab (pv 3) (ab (pv 4) ad)))))))) ap)
   (ae (aw (ao (ax hu) (pv 5) aM (aj _)) (af (ai (lV K_Sum hr (by decide) rfl (ab (pv 0) (ab (pv 1) (ab (pv 2) (ab (pv 3) (ab (pv 4) ad)))))))) ap)
   (ae (aw (ao (ax hu) (pv 5) aM (aj _)) (af (ai (lV Lw hr (by decide) rfl (ab (pv 0) (ab (pv 1) (ab (pv 2) (ab (pv 3) (ab (pv 4) ad)))))))) ap)
   (ae (aw (ao (ax hu) (pv 5) aM (aj _)) (af (ai (lV LS hr (by decide) rfl (ab (pv 0) (ab (pv 1) (ab (pv 2) (ab (pv 3) (ab (pv 4) ad)))))))) ap)
   (ae (aw (ao (ax hu) (pv 5) aM (aj _)) (af (ai (lV LI hr (by decide) rfl (ab (pv 0) (ab (pv 1) (ab (pv 2) (ab (pv 3) (ab (pv 4) ad)))))))) ap)
   (ae (aw (ao (ax hu) (pv 5) aM (aj _)) (af (ai (lV Lv hr (by decide) rfl (ab (pv 0) (ab (pv 1) (ab (pv 2) (ab (pv 3) (ab (pv 4) ad)))))))) ap)
   (ae (aw (ao (ax hu) (pv 5) aM (aj _)) (af (ai (lV Lg hr (by decide) rfl (ab (pv 0) (ab (pv 1) (ab (pv 2) (ab (pv 3) (ab (pv 4) ad)))))))) ap)
   (ae (aw (ao (ax hu) (pv 5) aM (aj _)) (af (ai (lV LR hr (by decide) rfl (ab (pv 0) (ab (pv 1) (ab (pv 2) (ab (pv 3) (ab (pv 4) ad)))))))) ap)
   (af bG))))))))))
abbrev nY:Stmt:=top 124
theorem uZ(KP:se Z)(D:De Z.K "checked_clues" nY):nN Z:=okc Bz D uG bd2 fun hr hu nd=>(ae (aw (be (aL (kcal KP hr (ab (pv 0) (ab (pv 1) (ab ah ad)))))) (af bG) ap)
   (af (ai (aS cY rfl Bz.list_ bQ (ab (pv 1) ad)))))
abbrev ul:Stmt:=top 38
theorem Bx{c:RCl RK}{d:RCl PzK}(Kp:pc Z c d)(Kb:r8 Z)(Kc:sh Z)(Ju:gm Z)(Jw:iS Z c d)(JF:GTup Z.K Z.mg "KINDS" bu)(D:De Z.K "is_formed" ul):t8 Z c d:=okc Bz D Ap bd2 fun hr hu nd=>(ae (aw (Ou (bj (be (aL (au bX rfl Bz.isinstance_ bi (ab (pv 1) (ab (dI (v:=.ty "tuple") rfl Bz.tuple_ mj rfl) ad))))) (bj (ao (aV hu) (au aF rfl Bz.len_ aP (ab (pv 1) ad)) ah (aj _)) (bC (xu JF (kix hu (pv 1) ah) rfl))))) (af (ai bg)) ap)
   (ae (kset 2 nd (aI Jw hr (by decide) (pv 0)))
   (ae (aw (Ou (bj (be (aL (kcal Kb hr (ab (pv 2) (ab (kix hu (pv 1) ah) ad))))) (bC (be (aL (kcal Kc hr (ab (pv 2) (ab (kix hu (pv 1) ah) ad)))))))) (af (ai bg)) ap)
   (ae (aw (be (aL (kcal Kp hr (ab (pv 0) (ab (kix hu (pv 1) ah) (ab (kix hu (pv 1) ah) (ab (kix hu (pv 1) ah) ad))))))) (af (ai bg)) ap)
   (af (ai (bm (au bX rfl Bz.isinstance_ bi (ab (kix hu (pv 1) ah) (ab (dI (v:=.ty "list") rfl Bz.list_ bQ rfl) ad))) (br (au (dm rfl) rfl Bz.all_ jc (ab (aG (ix:=[none,none]) [".0","part"] (aB rfl (by decide+kernel) rfl rfl rfl) rfl (az (kix hu (pv 1) ah)) (fun cl s H fp=>(ar (i:=1) (show([".0","part"]:List Str).Nodup by decide+kernel) rfl (Or.inl rfl))) (fun cl s H fp=>aU) (fun cl s H fp=>(kcal Ju hr (ab (pv 1) ad)))) ad))))))))))
abbrev um:Stmt:=top 41
theorem By(Jq:d9 Z)(D:De Z.K "many_only" um):kR Z:=okc Bz D Ar bd2 fun hr hu nd=>(af (ai (au aF rfl Bz.len_ aP (ab (aG (ix:=[none,none,some 1]) [".0","mask","sign"] (aB rfl (by decide+kernel) rfl rfl rfl) rfl (az (pv 0)) (fun cl s H fp=>(ar (i:=1) (show([".0","mask","sign"]:List Str).Nodup by decide+kernel) rfl (Or.inl rfl))) (fun cl s H fp=>(a8 (aL (kcal Jq hr (ab (pv 1) (ab (pv 2) ad)))))) (fun cl s H fp=>(pv 1))) ad))))
abbrev pP:Stmt:=top 46
theorem wK{c:RCl RK}(Jq:d9 Z)(Jm:cQ Z c)(D:De Z.K "only_strikes" pP):pj Z c:=okc Bz D vM bd5 fun hr hu nd=>(af (ai (bm (ay (ax hu) (au aF rfl Bz.len_ aP (ab (pv 4) ad)) ah (aj _)) (bm (ay (fO hu) (kix hu (pv 4) ah) (kcal Jm hr (ab (pv 0) (ab (pv 2) ad))) (by with_unfolding_all rfl)) (br (kcal Jq hr (ab (kix hu (pv 1) (kix hu (pv 4) ah)) (ab (pv 3) ad))))))))
abbrev nZ:Stmt:=top 47
theorem u6{c:RCl RK}(Kc:sh Z)(JH:l6 Z)(Jp:d8 Z)(Jm:cQ Z c)(Jv:iU Z c)(D:De Z.K "place_strikes" nZ):nO Z c:=okc Bz D uH bd6 fun hr hu nd=>(ae (aw (Ou (bj (ao (aV hu) (au aF rfl Bz.len_ aP (ab (aI Jv hr (by decide) (pv 1)) ad)) (kix hu (pv 0) ah) (aj _)) (bC (ao (aV hu) (au aF rfl Bz.len_ aP (ab (pv 5) ad)) ah (aj _))))) (af (ai bg)) ap)
   (ae (aw (Ou (bj (ao (ax hu) (kix hu (pv 5) ah) (pv 4) (aj _)) (bC (be (aL (kcal Kc hr (ab (pv 0) (ab (kix hu (pv 5) ah) ad)))))))) (af (ai bg)) ap)
   (af (ai (ay (ax hu) (kcal JH hr (ab (kcal Jp hr (ab (pv 2) (ab (kcal Jm hr (ab (pv 1) (ab (pv 3) ad))) ad))) (ab (kix hu (pv 5) ah) ad))) ah (aj _))))))
abbrev pQ:Stmt:=top 52
theorem wL{c:RCl RK}(Lh:wl Z c)(Ly:Bb Z c)(Kg:nL Z)(KQ:si Z)(D:De Z.K "step_strikes" pQ):pk Z c:=okc Bz D vQ bd5 fun hr hu nd=>(ae (aw (ao (aV hu) (pv 4) (aJ ad) (aj _)) (af (ai bg)) ap)
   (ae (aw (aL (au (rf rfl) rfl Bz.any_ zX (ab (aG (ix:=[none,none,some 1,some 3]) [".0","other","masks","sign"] (aB rfl (by decide+kernel) rfl rfl rfl) rfl (az (kcal Lh hr (ab (pv 0) (ab (pv 2) ad)))) (fun cl s H fp=>(ar (i:=1) (show([".0","other","masks","sign"]:List Str).Nodup by decide+kernel) rfl (Or.inl rfl))) (fun cl s H fp=>aU) (fun cl s H fp=>(kcal Kg hr (ab (pv 3) (ab (kix hu (pv 2) (pv 1)) ad))))) ad))) (af (ai bg)) ap)
   (af (ai (au (rf rfl) rfl Bz.any_ zX (ab (aG (ix:=[none,none,some 1,some 3]) [".0","other","masks","sign"] (aB rfl (by decide+kernel) rfl rfl rfl) rfl (az (kcal Ly hr (ab (pv 0) (ab (pv 2) ad)))) (fun cl s H fp=>(ar (i:=1) (show([".0","other","masks","sign"]:List Str).Nodup by decide+kernel) rfl (Or.inl rfl))) (fun cl s H fp=>aU) (fun cl s H fp=>(kcal KQ hr (ab (pv 3) (ab (kix hu (pv 2) (pv 1)) ad))))) ad))))))
abbrev m3:Stmt:=top 66
theorem tK(JN:nJ Z)(D:De Z.K "rest_of_square" m3):mV Z:=okc Bz D tu bd3 fun hr hu nd=>(ae (bt M8 rfl (az (kcal JN hr (ab (pv 0) ad))) (ar (i:=3) nd rfl (Or.inl rfl))
   (af (aw (Ou (oQ (ao (ax hu) (kix hu (pv 3) ah) (pv 1) (aj _)) (l7 (ao (fO hu) (pv 2) (pv 3) (by with_unfolding_all rfl))))) (af (ai (aG (ix:=[none,none,some 2]) [".0","other","cell"] (aB rfl (by decide+kernel) rfl rfl rfl) rfl (az (pv 3)) (fun cl s H fp=>(ar (i:=1) (show([".0","other","cell"]:List Str).Nodup by decide+kernel) rfl (Or.inl rfl))) (fun cl s H fp=>(a8 (ao (aV hu) (pv 1) (pv 2) (aj _)))) (fun cl s H fp=>(pv 1))))) ap)))
   (af (ai (aJ ad))))
abbrev h9:Stmt:=top 68
theorem m9(Jq:d9 Z)(Kb:r8 Z)(D:De Z.K "is_another_with_only" h9):hX Z:=okc Bz D m8 bd5 fun hr hu nd=>(af (ai (bm (kcal Kb hr (ab (pv 0) (ab (pv 3) ad))) (bm (ay (aV hu) (pv 3) (pv 2) (aj _)) (br (kcal Jq hr (ab (kix hu (pv 1) (pv 3)) (ab (pv 4) ad))))))))
abbrev sL:Stmt:=top 77
theorem zu{c:RCl RK}(Jq:d9 Z)(Jm:cQ Z c)(D:De Z.K "only_mores" sL):sr Z c:=okc Bz D y8 bd4 fun hr hu nd=>(af (ai (aG (ix:=[none,none,some 1,some 3]) [".0","other","masks","sign"] (aB rfl (by decide+kernel) rfl rfl rfl) rfl (az (au iZ rfl Bz.sorted_ nh (ab (kcal Jm hr (ab (pv 0) (ab (pv 2) ad))) ad))) (fun cl s H fp=>(ar (i:=1) (show([".0","other","masks","sign"]:List Str).Nodup by decide+kernel) rfl (Or.inl rfl))) (fun cl s H fp=>(a8 (aL (kcal Jq hr (ab (kix hu (pv 2) (pv 1)) (ab (pv 3) ad)))))) (fun cl s H fp=>(aJ (ab (pv 1) ad))))))
abbrev pR:Stmt:=top 79
theorem wM(JN:nJ Z)(D:De Z.K "square_mores" pR):pp Z:=okc Bz D vZ bd2 fun hr hu nd=>(af (ai (aG (ix:=[none,none,some 1]) [".0","square","cell"] (aB rfl (by decide+kernel) rfl rfl rfl) rfl (az (kcal JN hr (ab (pv 0) ad))) (fun cl s H fp=>(ar (i:=1) (show([".0","square","cell"]:List Str).Nodup by decide+kernel) rfl (Or.inl rfl))) (fun cl s H fp=>(a8 (ao (fO hu) (pv 2) (pv 1) (by with_unfolding_all rfl)))) (fun cl s H fp=>(aJ (ab (kix hu (pv 1) ah) ad))))))
abbrev qK:Stmt:=top 80
theorem xX{c:RCl RK}(Jq:d9 Z)(Jm:cQ Z c)(JE:nK Z)(Jx:iJ Z)(JK:pC Z c)(D:De Z.K "reach_mores" qK):qE Z c:=okc Bz D xE bd5 fun hr hu nd=>(ae (eh (i:=5) nd rfl (Or.inr rfl) (aI JK hr (by decide) (pv 1)))
   (ae (eh (i:=6) nd rfl (Or.inr rfl) (aG (ix:=[none,none,some 5,some 2]) [".0","other","mark","masks"] (aB rfl (by decide+kernel) rfl rfl rfl) rfl (az (kcal Jm hr (ab (pv 1) (ab (pv 3) ad)))) (fun cl s H fp=>(ar (i:=1) (show([".0","other","mark","masks"]:List Str).Nodup by decide+kernel) rfl (Or.inl rfl))) (fun cl s H fp=>(a8 (aL (kcal Jq hr (ab (kix hu (pv 3) (pv 1)) (ab (pv 2) ad)))))) (fun cl s H fp=>(pv 1))))
   (ae (j7 (k:=7) nd rfl (Or.inl rfl) rfl (ix:=[none,none,some 5,some 2]) [".0","other","mark","masks"] (aB rfl (by decide+kernel) rfl rfl rfl) rfl (az (kcal Jm hr (ab (pv 1) (ab (pv 3) ad)))) (fun cl s H fp=>(ar (i:=1) (show([".0","other","mark","masks"]:List Str).Nodup by decide+kernel) rfl (Or.inl rfl))) (fun cl s H fp=>(a8 (aL (kcal Jx hr (ab (kix hu (pv 3) (pv 1)) (ab (pv 2) ad)))))) (fun cl s H fp=>(pv 1)))
   (ae (aw (ao (ax hu) (pv 4) (pv 5) (aj _)) (ae (eh (i:=8) nd rfl (Or.inr rfl) (kcal JE hr (ab (pv 0) (ab (av aH (pv 7) (aJ (ab (pv 3) ad))) (ab (pv 3) ad)))))
   (af (ai (aG (ix:=[none,none,some 8]) [".0","other","joined"] (aB rfl (by decide+kernel) rfl rfl rfl) rfl (az (pv 6)) (fun cl s H fp=>(ar (i:=1) (show([".0","other","joined"]:List Str).Nodup by decide+kernel) rfl (Or.inl rfl))) (fun cl s H fp=>(a8 (ao (cg hu) (pv 1) (pv 2) (by with_unfolding_all rfl)))) (fun cl s H fp=>(aJ (ab (pv 1) ad))))))) ap)
   (ae (eh (i:=8) nd rfl (Or.inr rfl) (fL (ao (aV hu) (pv 6) (aJ ad) (aj _)) (kcal JE hr (ab (pv 0) (ab (pv 7) (ab (kix hu (pv 6) ah) ad)))) (aJ ad)))
   (af (ai (aG (ix:=[none,none,some 8,some 6]) [".0","other","joined","sure"] (aB rfl (by decide+kernel) rfl rfl rfl) rfl (az (pv 6)) (fun cl s H fp=>(ar (i:=1) (show([".0","other","joined","sure"]:List Str).Nodup by decide+kernel) rfl (Or.inl rfl))) (fun cl s H fp=>(a8 (ao (cg hu) (pv 1) (pv 2) (by with_unfolding_all rfl)))) (fun cl s H fp=>(aJ (ab (kix hu (pv 3) ah) (ab (pv 1) ad))))))))))))
abbrev ld:Stmt:=mtop 102 1
theorem j3{c:RCl RK}(JE:nK Z)(JB:FldK Z.K c "floor"){f:Addr}(D:Me Z.K "is_joined" "Joined.is_joined" ld f):Mo Z 4 f ["self","cells"] (jW Z.K c):=okm D qO bd2 fun hr hu nd=>(af (ai (vb (ay (ax hu) (pv 1) (aJ ad) (aj _)) (br (ay (ax hu) (kcal JE hr (ab (bw (pv 0) JB) (ab (pv 1) (ab (kix hu (pv 1) ah) ad)))) (pv 1) (aj _))))))
abbrev m5:Stmt:=mtop 103 0
theorem tL{c:RCl RK}(K8:t3 Z)(JN:nJ Z)(JB:FldK Z.K c "floor")(JO:iL Z c){f:Addr}(D:Me Z.K "holds" "NoSquare.holds" m5 f):Mo Z 4 f ["self","filling"] (lJ Z.K c):=okm D tE bd2 fun hr hu nd=>(ae (eh (i:=2) nd rfl (Or.inr rfl) (bR JO hr (by decide) (pv 0) (ab (pv 1) ad)))
   (af (ai (DK (au (rf rfl) rfl Bz.any_ zX (ab (aG (ix:=[none,none,some 2]) [".0","square","cells"] (aB rfl (by decide+kernel) rfl rfl rfl) rfl (az (kcal JN hr (ab (bw (pv 0) JB) ad))) (fun cl s H fp=>(ar (i:=1) (show([".0","square","cells"]:List Str).Nodup by decide+kernel) rfl (Or.inl rfl))) (fun cl s H fp=>aU) (fun cl s H fp=>(kcal K8 hr (ab (pv 1) (ab (pv 2) ad))))) ad))))))
abbrev wN:Stmt:=top 116
theorem Cc(Jn:cP Z)(KR:so Z)(Kq:GTup Z.K Z.mg "OF_ALL_CELLS" fH)(D:De Z.K "cells_of" wN):wn Z:=okc Bz D BH bd3 fun hr hu nd=>(ae (aw (xu Kq (pv 1) rfl) (af (ai (kcal KR hr (ab (pv 0) (ab (pv 2) ad))))) ap)
   (ae (aw (ao (aV hu) (pv 2) (aJ ad) (aj _)) (af bG) ap)
   (af (ai (og rfl rfl rfl Bz.list_ Bz.range_ (ab (kcal Jn hr (ab (pv 0) ad)) ad))))))
abbrev n6:Stmt:=top 121
theorem u7(Li:wm Z)(D:De Z.K "checked_floor" n6):nP Z:=okc Bz D uF bd1 fun hr hu nd=>(ae (aw (Ou (bj (be (aL (au bX rfl Bz.isinstance_ bi (ab (pv 0) (ab (dI (v:=.ty "tuple") rfl Bz.tuple_ mj rfl) ad))))) (bC (ao (aV hu) (au aF rfl Bz.len_ aP (ab (pv 0) ad)) ah (aj _))))) (af bG) ap)
   (af (ai (kcal Li hr (ab (kix hu (pv 0) ah) (ab (kix hu (pv 0) ah) (ab (kix hu (pv 0) ah) ad)))))))
abbrev lO:Stmt:=top 55
theorem sM{c:RCl RK}{d:RCl PzK}(Kr:o8 Z)(Ks:pj Z c)(Kt:pf Z c)(Kh:nO Z c)(Ku:pk Z c)(KL:xR Z c d)(Jw:iS Z c d)(Jt:iT Z c d)(D:De Z.K "strikes_by_line" lO):lM Z c d:=okc Bz D qR bd3 fun hr hu nd=>(ae (kset 3 nd (kix hu (pv 2) ah))
   (ae (kset 4 nd (kix hu (pv 2) ah))
   (ae (kset 5 nd (kix hu (pv 2) ah))
   (ae (kset 6 nd (kix hu (pv 2) ah))
   (ae (aw (ao (ax hu) (pv 3) aM (aj _)) (af (ai (kcal Kr hr (ab (aI KL hr (by decide) (pv 0)) (ab (pv 4) (ab (pv 5) (ab (pv 6) ad))))))) ap)
   (ae (kset 7 nd (kix hu (aI Jt hr (by decide) (pv 0)) (kix hu (pv 2) ah)))
   (ae (aw (ao (ax hu) (pv 3) aM (aj _)) (af (ai (kcal Ks hr (ab (pv 7) (ab (pv 1) (ab (pv 4) (ab (pv 5) (ab (pv 6) ad)))))))) ap)
   (ae (aw (ao (ax hu) (pv 3) aM (aj _)) (af (ai (kcal Kh hr (ab (aI Jw hr (by decide) (pv 0)) (ab (pv 7) (ab (pv 1) (ab (pv 4) (ab (pv 5) (ab (pv 6) ad))))))))) ap)
   (ae (aw (ao (ax hu) (pv 3) aM (aj _)) (af (ai (kcal Ku hr (ab (pv 7) (ab (pv 1) (ab (pv 4) (ab (pv 5) (ab (pv 6) ad)))))))) ap)
   (af (ai (kcal Kt hr (ab (pv 7) (ab (pv 1) (ab (pv 4) (ab (pv 5) (ab (pv 6) ad)))))))))))))))))
abbrev n9:Stmt:=top 59
theorem u8{c:RCl RK}(JH:l6 Z)(JD:kR Z)(Jp:d8 Z)(Jm:cQ Z c)(JW:uU Z c)(JK:pC Z c)(D:De Z.K "count_strikes" n9):nQ Z c:=okc Bz D uI bd5 fun hr hu nd=>(ae (aw (ao (aV hu) (pv 4) (aJ ad) (aj _)) (af (ai bg)) ap)
   (ae (kset 5 nd (kcal Jp hr (ab (pv 1) (ab (kcal Jm hr (ab (pv 0) (ab (pv 2) ad))) ad))))
   (ae (aw (ao (ax hu) (pv 3) (aI JK hr (by decide) (pv 0)) (aj _)) (af (ai (ay vi (kcal JD hr (ab (pv 5) (ab (pv 3) ad))) (aI JW hr (by decide) (pv 0)) (aj _)))) ap)
   (af (ai (ay bW (kcal JH hr (ab (pv 5) (ab (aI JK hr (by decide) (pv 0)) ad))) (aI JW hr (by decide) (pv 0)) (aj _)))))))
abbrev m7:Stmt:=top 67
theorem tN{c:RCl RK}(JD:kR Z)(Jp:d8 Z)(J4:mV Z)(JK:pC Z c)(D:De Z.K "square_strikes" m7):mW Z c:=okc Bz D tw bd6 fun hr hu nd=>(ae (aw (Ou (bj (ao (aV hu) (pv 4) (aI JK hr (by decide) (pv 1)) (aj _)) (bC (ao (aV hu) (au aF rfl Bz.len_ aP (ab (pv 5) ad)) ah (aj _))))) (af (ai bg)) ap)
   (ae (kset 6 nd (kcal J4 hr (ab (pv 0) (ab (kix hu (pv 5) ah) (ab (pv 3) ad)))))
   (af (ai (bm (ay (aV hu) (pv 6) (aJ ad) (aj _)) (br (ay (ax hu) (kcal JD hr (ab (kcal Jp hr (ab (pv 2) (ab (pv 6) ad))) (ab (pv 4) ad))) (au aF rfl Bz.len_ aP (ab (pv 6) ad)) (aj _))))))))
abbrev oa:Stmt:=top 69
theorem u9{c:RCl RK}(JP:hX Z)(Jm:cQ Z c)(JE:nK Z)(Jx:iJ Z)(JK:pC Z c)(D:De Z.K "reach_strikes" oa):nR Z c:=okc Bz D uL bd6 fun hr hu nd=>(ae (eh (i:=6) nd rfl (Or.inr rfl) (aI JK hr (by decide) (pv 1)))
   (ae (aw (be (aL (au (dm rfl) rfl Bz.all_ jc (ab (aG (ix:=[none,none,some 3,some 0,some 6,some 2]) [".0","other","cell","floor","mark","masks"] (aB rfl (by decide+kernel) rfl rfl rfl) rfl (az (pv 5)) (fun cl s H fp=>(ar (i:=1) (show([".0","other","cell","floor","mark","masks"]:List Str).Nodup by decide+kernel) rfl (Or.inl rfl))) (fun cl s H fp=>aU) (fun cl s H fp=>(kcal JP hr (ab (pv 3) (ab (pv 5) (ab (pv 2) (ab (pv 1) (ab (pv 4) ad)))))))) ad)))) (af (ai bg)) ap)
   (ae (j7 (k:=7) nd rfl (Or.inl rfl) rfl (ix:=[none,none,some 6,some 2]) [".0","other","mark","masks"] (aB rfl (by decide+kernel) rfl rfl rfl) rfl (az (kcal Jm hr (ab (pv 1) (ab (pv 3) ad)))) (fun cl s H fp=>(ar (i:=1) (show([".0","other","mark","masks"]:List Str).Nodup by decide+kernel) rfl (Or.inl rfl))) (fun cl s H fp=>(a8 (aL (kcal Jx hr (ab (kix hu (pv 3) (pv 1)) (ab (pv 2) ad)))))) (fun cl s H fp=>(pv 1)))
   (ae (aw (ao (ax hu) (pv 4) (pv 6) (aj _)) (af (ai (bm (ay (ax hu) (au aF rfl Bz.len_ aP (ab (pv 5) ad)) ah (aj _)) (br (ay (cg hu) (kix hu (pv 5) ah) (kcal JE hr (ab (pv 0) (ab (av aH (pv 7) (aJ (ab (pv 3) ad))) (ab (pv 3) ad)))) (by with_unfolding_all rfl)))))) ap)
   (ae (aw (Ou (bj (ao (aV hu) (au aF rfl Bz.len_ aP (ab (pv 5) ad)) ah (aj _)) (bC (ao (ax hu) (kix hu (pv 5) ah) (kix hu (pv 5) ah) (aj _))))) (af (ai bg)) ap)
   (af (ai (ay (cg hu) (kix hu (pv 5) ah) (kcal JE hr (ab (pv 0) (ab (pv 7) (ab (kix hu (pv 5) ah) ad)))) (by with_unfolding_all rfl)))))))))
abbrev pS:Stmt:=top 71
theorem wO{c:RCl RK}(Lz:Bc Z)(JA:kC Z)(Jq:d9 Z)(JH:l6 Z)(JD:kR Z)(Jp:d8 Z)(JK:pC Z c)(D:De Z.K "turn_strikes" pS):pq Z c:=okc Bz D vW bd6 fun hr hu nd=>(ae (kset 6 nd (aI JK hr (by decide) (pv 1)))
   (ae (aw (ao (ax hu) (pv 5) (aJ ad) (aj _)) (ae (kset 7 nd (kcal Jp hr (ab (pv 2) (ab (kcal JA hr (ab (pv 0) (ab (pv 3) ad))) ad))))
   (af (ai (bm (ay (ax hu) (pv 4) (pv 6) (aj _)) (br (vb (ay bW (kcal JH hr (ab (pv 7) (ab (pv 6) ad))) ah (aj _)) (br (ay cx (kcal JD hr (ab (pv 7) (ab (pv 6) ad))) ah (aj _))))))))) ap)
   (ae (aw (Ou (bj (ao (aV hu) (au aF rfl Bz.len_ aP (ab (pv 5) ad)) ah (aj _)) (bj (ao (cg hu) (kix hu (pv 5) ah) (kcal JA hr (ab (pv 0) (ab (pv 3) ad))) (by with_unfolding_all rfl)) (bC (be (aL (kcal Jq hr (ab (kix hu (pv 2) (kix hu (pv 5) ah)) (ab (pv 6) ad))))))))) (af (ai bg)) ap)
   (ae (kset 7 nd (kcal Jp hr (ab (pv 2) (ab (kcal Lz hr (ab (pv 0) (ab (kix hu (pv 5) ah) (ab (pv 3) ad)))) ad))))
   (ae (aw (ao (ax hu) (pv 4) (pv 6) (aj _)) (af (ai (ay vi (kcal JD hr (ab (pv 7) (ab (pv 6) ad))) ah (aj _)))) ap)
   (af (ai (ay bW (kcal JH hr (ab (pv 7) (ab (pv 6) ad))) ah (aj _)))))))))
abbrev pT:Stmt:=top 83
theorem wP{c:RCl RK}{d:RCl PzK}(KS:sr Z c)(KU:sk Z c)(KG:qC Z)(KH:qE Z c)(Kv:pp Z)(KW:sj Z)(Jw:iS Z c d)(Jt:iT Z c d)(D:De Z.K "mores_to_try" pT):pA Z c d:=okc Bz D wa bd6 fun hr hu nd=>(ae (kset 6 nd (aI Jw hr (by decide) (pv 0)))
   (ae (aw (ao (ax hu) (pv 2) aM (aj _)) (af (ai (kcal KG hr (ab (pv 6) (ab (pv 5) ad))))) ap)
   (ae (aw (ao (ax hu) (pv 2) aM (aj _)) (af (ai (kcal Kv hr (ab (pv 6) (ab (pv 4) ad))))) ap)
   (ae (aw (ao (ax hu) (pv 2) aM (aj _)) (af (ai (kcal KW hr (ab (pv 6) (ab (pv 4) ad))))) ap)
   (ae (aw (ao (ax hu) (pv 2) aM (aj _)) (af (ai (kcal KS hr (ab (kix hu (aI Jt hr (by decide) (pv 0)) (pv 3)) (ab (pv 1) (ab (pv 4) (ab (pv 5) ad))))))) ap)
   (ae (aw (ao (ax hu) (pv 2) aM (aj _)) (af (ai (kcal KH hr (ab (pv 6) (ab (kix hu (aI Jt hr (by decide) (pv 0)) (pv 3)) (ab (pv 1) (ab (pv 4) (ab (pv 5) ad)))))))) ap)
   (ae (aw (ao (ax hu) (pv 2) aM (aj _)) (af (ai (kcal KU hr (ab (kix hu (aI Jt hr (by decide) (pv 0)) (pv 3)) (ab (pv 1) (ab (pv 4) ad)))))) ap)
   (af (ai (aJ (ab (aJ ad) ad)))))))))))
abbrev pU:Stmt:=mtop 102 0
theorem wQ{c:RCl RK}(K9:kS Z c)(JO:iL Z c){f:Addr}(D:Me Z.K "holds" "Joined.holds" pU f):Mo Z 5 f ["self","filling"] (nD Z.K c):=okm D vT bd2 fun hr hu nd=>(af (ai (bR K9 hr (by decide) (pv 0) (ab (bR JO hr (by decide) (pv 0) (ab (pv 1) ad)) ad))))
abbrev sN:Stmt:=mtop 104 0
theorem zv{c:RCl RK}(LA:mX Z c)(K9:kS Z c)(JO:iL Z c){f:Addr}(D:Me Z.K "holds" "Ring.holds" sN f):Mo Z 5 f ["self","filling"] (qB Z.K c):=okm D y7 bd2 fun hr hu nd=>(ae (eh (i:=2) nd rfl (Or.inr rfl) (bR JO hr (by decide) (pv 0) (ab (pv 1) ad)))
   (af (ai (bm (bR K9 hr (by decide) (pv 0) (ab (pv 2) ad)) (br (au (dm rfl) rfl Bz.all_ jc (ab (aG (ix:=[none,none,some 2,some 0]) [".0","cell","cells","self"] (aB rfl (by decide+kernel) rfl rfl rfl) rfl (az (pv 2)) (fun cl s H fp=>(ar (i:=1) (show([".0","cell","cells","self"]:List Str).Nodup by decide+kernel) rfl (Or.inl rfl))) (fun cl s H fp=>aU) (fun cl s H fp=>(bR LA hr (by decide) (pv 3) (ab (pv 2) (ab (pv 1) ad))))) ad)))))))
abbrev uo:Stmt:=top 118
theorem BA{c:RCl RK}(Lj:wn Z)(JZ:pi Z)(Lp:yE Z c){t_MOST_NUMBER:Tok}(KI:Z.mg "MOST_NUMBER"=some (.int 99 t_MOST_NUMBER))(KJ:GTup Z.K Z.mg "WITH_NUMBER" gk)(La:GTup Z.K Z.mg "WITH_SIGN" fY)(D:De Z.K "read_rule" uo):oO Z c:=okc Bz D Ao bd2 fun hr hu nd=>(ae (aw (be (aL (au bX rfl Bz.isinstance_ bi (ab (pv 1) (ab (dI (v:=.ty "str") rfl Bz.str_ i3 rfl) ad))))) (af bG) ap)
   (ae (kset 2 nd (bF Oq PySem.F.slot_str_split PySem.F.type_str_split En (pv 1) (ab aM ad)))
   (ae (kset 3 nd (kix hu (pv 2) ah))
   (ae (kset 4 nd (j6 vo (pv 2) (gj ah) wW))
   (ae (kset 5 nd ah)
   (ae (kset 6 nd ah)
   (ae (aw (vF KJ (pv 3) rfl) (ae (kset 5 nd (kcal JZ hr (ab (pv 4) (ab ah (ab (cp rfl KI ⟨t_MOST_NUMBER,rfl⟩) ad)))))
   (af (kset 4 nd (j6 vo (pv 4) (gj ah) wW)))) ap)
   (ae (aw (vF La (pv 3) rfl) (ae (kset 6 nd (kcal JZ hr (ab (pv 4) (ab ah (ab (kix hu (pv 0) ah) ad)))))
   (af (kset 4 nd (j6 vo (pv 4) (gj ah) wW)))) ap)
   (af (ai (kcal Lp hr (ab (pv 0) (ab (pv 2) (ab (kcal Lj hr (ab (pv 0) (ab (pv 3) (ab (pv 4) ad)))) (ab (pv 5) (ab (pv 6) ad))))))))))))))))
abbrev pV:Stmt:=top 63
theorem wR{c:RCl RK}(Js:gh Z)(Jp:d8 Z)(Jm:cQ Z c)(Jl:cf Z)(LT:Ff Z)(J5:mU Z)(JR:oN Z){t_MOST_WAYS:Tok}(Lb:Z.mg "MOST_WAYS"=some (.int 32 t_MOST_WAYS))(KM:xS Z c)(D:De Z.K "ways_strikes" pV):pB Z c:=okc Bz D vV bd5 fun hr hu nd=>(ae (kset 5 nd (kcal Jm hr (ab (pv 0) (ab (pv 2) ad))))
   (ae (kset 6 nd (kcal Jp hr (ab (pv 1) (ab (pv 5) ad))))
   (ae (aw (Ou (bj (ao (aV hu) (pv 4) (aJ ad) (aj _)) (bC (ao cx (kcal LT hr (ab (pv 6) ad)) (cp rfl Lb ⟨t_MOST_WAYS,rfl⟩) (aj _))))) (af (ai bg)) ap)
   (ae (aw (aL (kcal Js hr (ab (pv 6) ad))) (af (ai bg)) ap)
   (ae (kset 7 nd (aJ (ab (kcal JR hr (ab (av z5 (aJ (ab ah ad)) (au aF rfl Bz.len_ aP (ab (pv 1) ad))) (ab (pv 2) (ab (pv 3) ad)))) ad)))
   (ae (bt M8 rfl (az (pv 5)) (ar (i:=8) nd rfl (Or.inl rfl))
   (af (kset 7 nd (kcal J5 hr (ab (pv 7) (ab (pv 8) (ab (kcal Jl hr (ab (kix hu (pv 1) (pv 8)) ad)) ad)))))))
   (ae (bt M8 rfl (az (pv 7)) (ar (i:=9) nd rfl (Or.inl rfl))
   (af (aw (aL (bR KM hr (by decide) (pv 0) (ab (pv 9) ad))) (af (ai bg)) ap)))
   (af (ai bg)))))))))
abbrev j4:Stmt:=top 72
theorem qv{c:RCl RK}{d:RCl PzK}(Ki:nR Z c)(J6:mW Z c)(Kw:pq Z c)(Jw:iS Z c d)(Jt:iT Z c d)(D:De Z.K "strikes_by_region" j4):jY Z c d:=okc Bz D oB bd3 fun hr hu nd=>(ae (kset 3 nd (aI Jw hr (by decide) (pv 0)))
   (ae (kset 4 nd (kix hu (aI Jt hr (by decide) (pv 0)) (kix hu (pv 2) ah)))
   (ae (aw (ao (ax hu) (kix hu (pv 2) ah) aM (aj _)) (af (ai (kcal J6 hr (ab (pv 3) (ab (pv 4) (ab (pv 1) (ab (kix hu (pv 2) ah) (ab (kix hu (pv 2) ah) (ab (kix hu (pv 2) ah) ad))))))))) ap)
   (ae (aw (ao (ax hu) (kix hu (pv 2) ah) aM (aj _)) (af (ai (kcal Ki hr (ab (pv 3) (ab (pv 4) (ab (pv 1) (ab (kix hu (pv 2) ah) (ab (kix hu (pv 2) ah) (ab (kix hu (pv 2) ah) ad))))))))) ap)
   (af (ai (kcal Kw hr (ab (pv 3) (ab (pv 4) (ab (pv 1) (ab (kix hu (pv 2) ah) (ab (kix hu (pv 2) ah) (ab (kix hu (pv 2) ah) ad)))))))))))))
abbrev sO:Stmt:=top 122
theorem zw{c:RCl RK}(JS:oO Z c){t_MOST_RULES:Tok}(KY:Z.mg "MOST_RULES"=some (.int 12 t_MOST_RULES))(D:De Z.K "read_rules" sO):sw Z c:=okc Bz D yX bd2 fun hr hu nd=>(ae (aw (ao cx (au aF rfl Bz.len_ aP (ab (pv 1) ad)) (cp rfl KY ⟨t_MOST_RULES,rfl⟩) (aj _)) (af bG) ap)
   (af (ai (aG (ix:=[none,none,some 0]) [".0","line","floor"] (aB rfl (by decide+kernel) rfl rfl rfl) rfl (az (pv 1)) (fun cl s H fp=>(ar (i:=1) (show([".0","line","floor"]:List Str).Nodup by decide+kernel) rfl (Or.inl rfl))) (fun cl s H fp=>aU) (fun cl s H fp=>(kcal JS hr (ab (pv 2) (ab (pv 1) ad))))))))
abbrev uq:Stmt:=top 131
theorem BB{c:RCl RK}(KZ:sf Z)(Kj:rY Z)(Jo:dS Z)(Lc:t5 Z)(JS:oO Z c)(KM:xS Z c)(D:De Z.K "_law_line" uq):t9 Z c:=okc Bz D xI bd4 fun hr hu nd=>by
 refine ae ?_ ?_
 . exact(kset 4 nd (kcal Jo hr (ab (pv 0) (ab (pv 1) ad))))
 . refine ae ?_ ?_
   . exact(kset 5 nd (av cV (kix hu (pv 2) ah) (kix hu (pv 2) ah)))
   . refine ae ?_ ?_
     . exact(kset 6 nd (kcal KZ hr (ab (pv 0) (ab (av aH (pv 1) ah) (ab (pv 5) (ab (av aH ah (av bh (av j8 (pv 4) ah) (pv 5))) ad))))))
     . refine ae ?_ ?_
       . exact(eh (i:=7) nd rfl (Or.inr rfl) (aS dW rfl Bz.str_ i3 (ab (kix hu (pv 3) (kix hu (pv 6) ah)) ad)))
       . refine ae ?_ ?_
         . exact(aw (ao (fO hu) (av bh (pv 4) ah) (bV (ab ah (ab ah (ab ah ad)))) (by with_unfolding_all rfl)) (ae (kset 8 nd (av aH (kix hu (aJ (ab aM (ab aM (ab aM ad)))) (av b4 (av bh (pv 4) ah) ah)) (pv 7))) (af (aw (aL (bR KM hr (by decide) (kcal JS hr (ab (pv 2) (ab (pv 8) ad))) (ab (pv 3) ad))) (af (ai (pv 8))) ap))) ap)
         . refine ae ?_ ?_
           . exact(aw (ao (ax hu) (av bh (pv 4) ah) ah (aj _)) (ae (kset 6 nd (kcal Kj hr (ab (pv 3) (ab (pv 6) (ab bg ad))))) (af (ai (av aH aM (bF Oq OS OT rj aM (ab (aG (ix:=[none,none]) [".0","_law_cell"] (aB rfl (by decide+kernel) rfl rfl rfl) rfl (az (pv 6)) (fun cl s H fp=>(ar (i:=1) (show([".0","_law_cell"]:List Str).Nodup by decide+kernel) rfl (Or.inl rfl))) (fun cl s H fp=>aU) (fun cl s H fp=>(aS dW rfl Bz.str_ i3 (ab (pv 1) ad)))) ad)))))) ap)
           . refine ae ?_ ?_
             . exact(aw (ao (ax hu) (av bh (pv 4) ah) ah (aj _)) (ae (kset 6 nd (kcal Kj hr (ab (pv 3) (ab (pv 6) (ab bg ad))))) (af (ai (av aH aM (bF Oq OS OT rj aM (ab (aG (ix:=[none,none]) [".0","_law_cell"] (aB rfl (by decide+kernel) rfl rfl rfl) rfl (az (pv 6)) (fun cl s H fp=>(ar (i:=1) (show([".0","_law_cell"]:List Str).Nodup by decide+kernel) rfl (Or.inl rfl))) (fun cl s H fp=>aU) (fun cl s H fp=>(aS dW rfl Bz.str_ i3 (ab (pv 1) ad)))) ad)))))) ap)
             . refine ae ?_ ?_
               . exact(kset 9 nd (bF Oq OS OT rj aM (ab (aG (ix:=[none,none]) [".0","_law_cell"] (aB rfl (by decide+kernel) rfl rfl rfl) rfl (az (pv 6)) (fun cl s H fp=>(ar (i:=1) (show([".0","_law_cell"]:List Str).Nodup by decide+kernel) rfl (Or.inl rfl))) (fun cl s H fp=>aU) (fun cl s H fp=>(aS dW rfl Bz.str_ i3 (ab (pv 1) ad)))) ad)))
               . refine ae ?_ ?_
                 . exact(aw (ao (ax hu) (av bh (pv 4) ah) ah (aj _)) (af (ai (av aH (av aH (av aH aM (aS dW rfl Bz.str_ i3 (ab (kcal Lc hr (ab (pv 3) (ab (pv 6) ad))) ad))) aM) (pv 9)))) ap)
                 . refine ae ?_ ?_
                   . exact(aw (ao (ax hu) (av bh (pv 4) ah) ah (aj _)) (af (ai (av aH (av aH (av aH (av aH (av aH aM (aS dW rfl Bz.str_ i3 (ab (au aF rfl Bz.len_ aP (ab (aG (ix:=[none,none,some 3,some 7]) [".0","_law_cell","_law_answer","_law_sign"] (aB rfl (by decide+kernel) rfl rfl rfl) rfl (az (pv 6)) (fun cl s H fp=>(ar (i:=1) (show([".0","_law_cell","_law_answer","_law_sign"]:List Str).Nodup by decide+kernel) rfl (Or.inl rfl))) (fun cl s H fp=>(a8 (ao (ax hu) (aS dW rfl Bz.str_ i3 (ab (kix hu (pv 2) (pv 1)) ad)) (pv 3) (aj _)))) (fun cl s H fp=>(pv 1))) ad)) ad))) aM) (pv 7)) aM) (pv 9)))) ap)
                   . refine af ?_
                     . refine ai ?_
                       . exact(av aH (av aH (av aH aM (aS dW rfl Bz.str_ i3 (ab (au (nn rfl) rfl Bz.sum_ vq (ab (aG (ix:=[none,none,some 3]) [".0","_law_cell","_law_answer"] (aB rfl (by decide+kernel) rfl rfl rfl) rfl (az (pv 6)) (fun cl s H fp=>(ar (i:=1) (show([".0","_law_cell","_law_answer"]:List Str).Nodup by decide+kernel) rfl (Or.inl rfl))) (fun cl s H fp=>aU) (fun cl s H fp=>(kix hu (pv 2) (pv 1)))) ad)) ad))) aM) (pv 9))
abbrev j5:Stmt:=top 64
theorem qw{c:RCl RK}{d:RCl PzK}(Kk:nQ Z c)(KK:qD Z c)(Kx:pB Z c)(Jt:iT Z c d)(D:De Z.K "strikes_by_number" j5):jZ Z c d:=okc Bz D oC bd3 fun hr hu nd=>(ae (kset 3 nd (kix hu (aI Jt hr (by decide) (pv 0)) (kix hu (pv 2) ah)))
   (ae (aw (ao (ax hu) (kix hu (pv 2) ah) aM (aj _)) (af (ai (kcal Kk hr (ab (pv 3) (ab (pv 1) (ab (kix hu (pv 2) ah) (ab (kix hu (pv 2) ah) (ab (kix hu (pv 2) ah) ad)))))))) ap)
   (ae (aw (ao (ax hu) (kix hu (pv 2) ah) aM (aj _)) (af (ai (kcal KK hr (ab (pv 3) (ab (pv 1) (ab (kix hu (pv 2) ah) (ab (kix hu (pv 2) ah) (ab (kix hu (pv 2) ah) ad)))))))) ap)
   (af (ai (kcal Kx hr (ab (pv 3) (ab (pv 1) (ab (kix hu (pv 2) ah) (ab (kix hu (pv 2) ah) (ab (kix hu (pv 2) ah) ad)))))))))))
abbrev lP:Stmt:=mtop 125 0
theorem sP{c:RCl RK}{d:RCl PzK}(Kl:nN Z)(Km:nP Z)(K0:sw Z c)(JM:FldK Z.K d "floor")(JY:FldK Z.K d "given")(J7:FldK Z.K d "laws"){f:Addr}(D:Me Z.K "__init__" "Puzzle.__init__" lP f):Mo Z 7 f ["self","floor","lines","clues"] (bZ Z.K c d):=okm D rA bd4 fun hr hu nd=>(ae (iO (pv 0) (kcal Km hr (ab (pv 1) ad)) JM)
   (ae (iO (pv 0) (kcal K0 hr (ab (bw (pv 0) JM) (ab (pv 2) ad))) J7)
   (af (iO (pv 0) (kcal Kl hr (ab (bw (pv 0) JM) (ab (pv 3) ad))) JY))))
abbrev sQ:Stmt:=top 132
theorem zx{c:RCl RK}(Ld:t9 Z c)(Jo:dS Z)(D:De Z.K "_law_drawn" sQ):sx Z c:=okc Bz D wj bd1 fun hr hu nd=>by
 refine ae ?s0 ?r0
 case s0=>exact(kset 1 nd (kcal Jo hr (ab (pv 0) (ab ah ad))))
 case r0=>
  refine ae ?s1 ?r1
  case s1=>
   refine zK (te:=?te) (g:=gTup Z.K 3 (gCons (gName 2) (gCons (gName 3) (gCons (gName 4) gNil)))) ?h1 ?h2 ?h4 ?h5 ?h6
   case h2=>exact(qS rfl (b8 (ar (i:=2) nd rfl (Or.inr rfl)) (b8 (ar (i:=3) nd rfl (Or.inr rfl)) (b8 (ar (i:=4) nd rfl (Or.inr rfl)) oR))))
   case h4=>rfl
   case h5=>rfl
   case h6=>rfl
   case h1=>
    refine zA ?x ?l ?j ?p
    case x=>exact(HH hu)
    case p=>exact(fun _ _=>rfl)
    case j=>exact(av bh (pv 1) ah)
    case l=>
     refine aJ ?_;refine iI ?_ ?_
     . exact bV (a7 ah (a7 ah (a7 ah ad)))
     refine iI ?_ ?_
     . exact bV (a7 ah (a7 ah (a7 ah ad)))
     refine iI ?_ ?_
     . exact bV (a7 ah (a7 ah (a7 ah ad)))
     refine iI ?_ ?_
     . exact bV (a7 ah (a7 ah (a7 ah ad)))
     refine iI ?_ ?_
     . exact bV (a7 ah (a7 ah (a7 ah ad)))
     refine iI ?_ ?_
     . exact bV (a7 ah (a7 ah (a7 ah ad)))
     refine iI ?_ ?_
     . exact bV (a7 ah (a7 ah (a7 ah ad)))
     exact ad
  case r1=>
   exact(ae (eh (i:=5) nd rfl (Or.inr rfl) (aG (ix:=[none,none,some 0,some 4]) [".0","_law_k","_law_script","_law_signs"] (aB rfl (by decide+kernel) rfl rfl rfl) rfl (cW rfl Bz.range_ (ab (av cV (pv 2) (pv 3)) ad)) (fun cl s H fp=>(ar (i:=1) (show([".0","_law_k","_law_script","_law_signs"]:List Str).Nodup by decide+kernel) rfl (Or.inl rfl))) (fun cl s H fp=>aU) (fun cl s H fp=>(av aH ah (av bh (kcal Jo hr (ab (pv 2) (ab (av aH ah (pv 1)) ad))) (pv 3))))))
   (ae (j7 (k:=6) nd rfl (Or.inl rfl) rfl (ix:=[none,none,some 5,some 2,some 0,some 4,some 3]) [".0","_law_k","_law_answer","_law_high","_law_script","_law_signs","_law_wide"] (aB rfl (by decide+kernel) rfl rfl rfl) rfl (cW rfl Bz.range_ (ab (av bh (av j8 (pv 1) ah) ah) ad)) (fun cl s H fp=>(ar (i:=1) (show([".0","_law_k","_law_answer","_law_high","_law_script","_law_signs","_law_wide"]:List Str).Nodup by decide+kernel) rfl (Or.inl rfl))) (fun cl s H fp=>aU) (fun cl s H fp=>(kcal Ld hr (ab (pv 4) (ab (av aH ah (av cV ah (pv 1))) (ab (bV (ab (pv 3) (ab (pv 6) (ab (pv 5) ad)))) (ab (pv 2) ad)))))))
   (af (ai (bV (ab (bV (ab (pv 2) (ab (pv 3) (ab (pv 4) ad)))) (ab (pv 6) (ab (pv 5) ad))))))))
abbrev yP:Stmt:=top 74
theorem DF{c:RCl RK}{d:RCl PzK}(J3:lM Z c d)(JU:jZ Z c d)(JV:jY Z c d)(K1:GTup Z.K Z.mg "LINE_KINDS" ie)(Ky:GTup Z.K Z.mg "NUMBER_KINDS" fJ)(D:De Z.K "strikes" yP):sy Z c d:=okc Bz D BS bd3 fun hr hu nd=>(ae (aw (vF K1 (kix hu (pv 2) ah) rfl) (af (ai (kcal J3 hr (ab (pv 0) (ab (pv 1) (ab (pv 2) ad)))))) ap)
   (ae (aw (vF Ky (kix hu (pv 2) ah) rfl) (af (ai (kcal JU hr (ab (pv 0) (ab (pv 1) (ab (pv 2) ad)))))) ap)
   (af (ai (kcal JV hr (ab (pv 0) (ab (pv 1) (ab (pv 2) ad))))))))
abbrev yQ:Stmt:=top 75
theorem DG{c:RCl RK}{d:RCl PzK}(Le:t8 Z c d)(Ke:sy Z c d)(D:De Z.K "allowed" yQ):yF Z c d:=okc Bz D BT bd3 fun hr hu nd=>(af (ai (bm (kcal Le hr (ab (pv 0) (ab (pv 2) ad))) (br (kcal Ke hr (ab (pv 0) (ab (pv 1) (ab (pv 2) ad))))))))
abbrev wS:Stmt:=top 84
theorem Cd{c:RCl RK}{d:RCl PzK}(Kz:pA Z c d)(Ke:sy Z c d)(D:De Z.K "first_at" wS):wo Z c d:=okc Bz D BV bd6 fun hr hu nd=>(ae (bt M8 rfl (az (kcal Kz hr (ab (pv 0) (ab (pv 1) (ab (pv 2) (ab (pv 3) (ab (pv 4) (ab (pv 5) ad)))))))) (ar (i:=6) nd rfl (Or.inl rfl))
   (ae (kset 7 nd (bV (ab (pv 2) (ab (pv 3) (ab (pv 4) (ab (pv 5) (ab (pv 6) ad)))))))
   (af (aw (aL (kcal Ke hr (ab (pv 0) (ab (pv 1) (ab (pv 7) ad))))) (af (ai (pv 7))) ap))))
   (af (ai iW)))
abbrev oe:Stmt:=top 87
theorem va{c:RCl RK}{d:RCl PzK}(KA:o9 Z c d)(Js:gh Z)(Lm:wo Z c d)(Jl:cf Z)(KB:uT Z)(D:De Z.K "found_by_rule" oe):nS Z c d:=okc Bz D uO bd4 fun hr hu nd=>(ae (kset 4 nd (aS cY rfl Bz.list_ bQ (ab (pv 1) ad)))
   (ae (kset 5 nd (aJ ad))
   (ae (bt M8 rfl (az (kcal KA hr (ab (pv 0) (ab (pv 2) (ab (pv 3) ad))))) (ar (i:=6) nd rfl (Or.inl rfl))
   (ae (bt M8 rfl (az (kcal Jl hr (ab (kix hu (pv 4) (pv 6)) ad))) (ar (i:=7) nd rfl (Or.inl rfl))
   (ae (kset 8 nd (kcal Lm hr (ab (pv 0) (ab (pv 4) (ab (pv 2) (ab (pv 3) (ab (pv 6) (ab (pv 7) ad))))))))
   (af (aw (ao Ch (pv 8) iW (aj _)) (ae (cq (bF MY Ng Nh bH (pv 5) (ab (pv 8) ad)))
   (af (kset 4 nd (kcal KB hr (ab (pv 4) (ab (pv 6) (ab (pv 7) ad))))))) ap))))
   (af (aw (aL (kcal Js hr (ab (pv 4) ad))) (af (ai (pv 5))) ap))))
   (af (ai (pv 5))))))
abbrev qL:Stmt:=top 89
theorem xY{c:RCl RK}{d:RCl PzK}(Kn:nS Z c d)(KC:ph Z c d)(JF:GTup Z.K Z.mg "KINDS" bu)(D:De Z.K "first_found" qL):lI Z c d:=okc Bz D xG bd3 fun hr hu nd=>(ae (bt M8 rfl (az (aG (ix:=[none,none,some 2]) [".0","word","kinds"] (aB rfl (by decide+kernel) rfl rfl rfl) rfl (vc (vX JF rfl)) (fun cl s H fp=>(ar (i:=1) (show([".0","word","kinds"]:List Str).Nodup by decide+kernel) rfl (Or.inl rfl))) (fun cl s H fp=>(a8 (ao ng (pv 1) (pv 2) (by with_unfolding_all rfl)))) (fun cl s H fp=>(pv 1)))) (ar (i:=3) nd rfl (Or.inl rfl))
   (af (bt M8 rfl (az (kcal KC hr (ab (pv 0) (ab (pv 3) ad)))) (ar (i:=4) nd rfl (Or.inl rfl))
   (ae (kset 5 nd (kcal Kn hr (ab (pv 0) (ab (pv 1) (ab (pv 3) (ab (pv 4) ad))))))
   (af (aw (ao (aV hu) (pv 5) (aJ ad) (aj _)) (af (ai (pv 5))) ap))))))
   (af (ai (aJ ad))))
abbrev pW:Stmt:=top 90
theorem wT{c:RCl RK}{d:RCl PzK}(Js:gh Z)(JL:lI Z c d)(D:De Z.K "next_thought" pW):kD Z c d:=okc Bz D we bd3 fun hr hu nd=>(ae (kset 3 nd (fL (be (aL (kcal Js hr (ab (pv 1) ad)))) (kcal JL hr (ab (pv 0) (ab (pv 1) (ab (pv 2) ad)))) (aJ ad)))
   (af (ai (fL (ao (aV hu) (pv 3) (aJ ad) (aj _)) (kix hu (pv 3) ah) iW))))
abbrev CJ:Stmt:=top 91
theorem F2{c:RCl RK}{d:RCl PzK}(Js:gh Z)(JL:lI Z c d)(KB:uT Z)(D:De Z.K "think" CJ):CI Z c d:=okc Bz D FT bd3 fun hr hu nd=>(ae (kset 3 nd (aS cY rfl Bz.list_ bQ (ab (pv 1) ad)))
   (ae (kset 4 nd (aJ ad))
   (ae (zM M8 (be (aL (kcal Js hr (ab (pv 3) ad))))
   (ae (kset 5 nd (kcal JL hr (ab (pv 0) (ab (pv 3) (ab (pv 2) ad)))))
   (ae (aw (ao (ax hu) (pv 5) (aJ ad) (aj _)) (af (ai (bV (ab (pv 3) (ab (pv 4) ad))))) ap)
   (af (bt M8 rfl (az (pv 5)) (ar (i:=6) nd rfl (Or.inl rfl))
   (ae (cq (bF MY Ng Nh bH (pv 4) (ab (pv 6) ad)))
   (af (kset 3 nd (kcal KB hr (ab (pv 3) (ab (kix hu (pv 6) ah) (ab (kix hu (pv 6) ah) ad))))))))))))
   (af (ai (bV (ab (pv 3) (ab (pv 4) ad))))))))
abbrev Fq:Stmt:=top 93
theorem Hh{c:RCl RK}{d:RCl PzK}(J0:qt Z)(JG:kD Z c d)(Jw:iS Z c d)(JF:GTup Z.K Z.mg "KINDS" bu)(D:De Z.K "hint" Fq):Fg Z c d:=okc Bz D G9 bd2 fun hr hu nd=>(af (ai (kcal JG hr (ab (pv 0) (ab (kcal J0 hr (ab (aI Jw hr (by decide) (pv 0)) (ab (pv 1) ad))) (ab (vX JF rfl) ad))))))
abbrev ur:Stmt:=top 134
theorem BC{c:RCl RK}{d:RCl PzK}(Lq:yF Z c d)(Js:gh Z)(J0:qt Z)(JG:kD Z c d)(Jx:iJ Z)(LJ:CI Z c d)(Jw:iS Z c d)(JF:GTup Z.K Z.mg "KINDS" bu)(D:De Z.K "_law_good" ur):ua Z c d:=okc Bz D xO bd4 fun hr hu nd=>(ae (kset 4 nd (kcal J0 hr (ab (aI Jw hr (by decide) (pv 0)) (ab (pv 2) ad))))
   (ae (kset 5 nd (kix hu (kcal LJ hr (ab (pv 0) (ab (pv 4) (ab (aS oJ rfl Bz.list_ bQ (ab (vX JF rfl) ad)) ad)))) ah))
   (ae (aw (ao zO (pv 3) iW (aj _)) (af (ai (bm (ay (ax hu) (pv 5) (aJ ad) (aj _)) (br (ay zO (kcal JG hr (ab (pv 0) (ab (pv 4) (ab (aS oJ rfl Bz.list_ bQ (ab (vX JF rfl) ad)) ad)))) iW (aj _)))))) ap)
   (ae (aw (Ou (bj (be (aL (au bX rfl Bz.isinstance_ bi (ab (pv 3) (ab (dI (v:=.ty "tuple") rfl Bz.tuple_ mj rfl) ad))))) (bj (ao (aV hu) (au aF rfl Bz.len_ aP (ab (pv 3) ad)) ah (aj _)) (bj (be (aL (au bX rfl Bz.isinstance_ bi (ab (kix hu (pv 3) ah) (ab (dI (v:=.ty "list") rfl Bz.list_ bQ rfl) ad))))) (bC (ao (ax hu) (pv 5) (aJ ad) (aj _))))))) (af (ai bg)) ap)
   (ae (aw (Ou (bj (ao (aV hu) (pv 3) (kcal JG hr (ab (pv 0) (ab (pv 4) (ab (aS oJ rfl Bz.list_ bQ (ab (vX JF rfl) ad)) ad)))) (aj _)) (bC (xu JF (kix hu (pv 3) ah) rfl)))) (af (ai bg)) ap)
   (ae (bt M8 rfl (vc (j6 Hv (pv 3) (gj ah) (gj ah))) (ar (i:=6) nd rfl (Or.inl rfl))
   (af (aw (Ou (bj (be (aL (au bX rfl Bz.isinstance_ bi (ab (pv 6) (ab (dI (v:=.ty "int") rfl Bz.int_ rb rfl) ad))))) (bC (aL (au bX rfl Bz.isinstance_ bi (ab (pv 6) (ab (dI (v:=.ty "bool") rfl Bz.bool_ Cm rfl) ad))))))) (af (ai bg)) ap)))
   (ae (aw (Ou (bj (aL (kcal Js hr (ab (pv 4) ad))) (bj (be (aL (kcal Lq hr (ab (pv 0) (ab (pv 4) (ab (pv 3) ad)))))) (bC (be (aL (kcal Jx hr (ab (kix hu (pv 4) (kix hu (pv 3) ah)) (ab (kix hu (pv 3) ah) ad))))))))) (af (ai bg)) ap)
   (ae (j7 (k:=7) nd rfl (Or.inl rfl) rfl (ix:=[none,none,some 1,some 2]) [".0","_law_k","_law_answer","_law_entries_here"] (aB rfl (by decide+kernel) rfl rfl rfl) rfl (cW rfl Bz.range_ (ab (au aF rfl Bz.len_ aP (ab (pv 1) ad)) ad)) (fun cl s H fp=>(ar (i:=1) (show([".0","_law_k","_law_answer","_law_entries_here"]:List Str).Nodup by decide+kernel) rfl (Or.inl rfl))) (fun cl s H fp=>(a8 (ao (fO hu) (kix hu (pv 3) (pv 1)) (bV (ab ah (ab (kix hu (pv 2) (pv 1)) ad))) (by with_unfolding_all rfl)))) (fun cl s H fp=>(pv 1)))
   (af (ai (vb (ay bW (au aF rfl Bz.len_ aP (ab (pv 7) ad)) (au aF rfl Bz.len_ aP (ab (pv 1) ad)) (aj _)) (br (ay (aV hu) (kix hu (pv 1) (kix hu (pv 3) ah)) (kix hu (pv 3) ah) (aj _))))))))))))))
abbrev wU:Stmt:=top 135
theorem IK{c:RCl RK}{d:RCl PzK}(K2:sx Z c)(J1:pb Z)(KF:ua Z c d)(Jo:dS Z)(LE:Fg Z c d)(KL:xR Z c d)(LB:lN Z "Puzzle" (d.A .Puzzle) c d){f:Addr}{fd:FuncData}(F:Fun Z.K "law" "law" wU f fd):FnOk Z.P Z.w Z.K Z.mg Z.base CX0 14 f fd ["_law_script"] (Fe Z.K c d):=okf F (by ac_rfl) II (fun hr hu nd=>(ae (zK (kcal K2 hr (ab (pv 0) ad)) (qS rfl (b8 (ar (i:=1) nd rfl (Or.inl rfl)) (b8 (ar (i:=2) nd rfl (Or.inl rfl)) (b8 (ar (i:=3) nd rfl (Or.inl rfl)) oR)))))
   (ae (kset 4 nd (aS cY rfl Bz.list_ bQ (ab (pv 3) ad)))
   (ae (bt M8 rfl (cW rfl Bz.range_ (ab (au aF rfl Bz.len_ aP (ab (pv 4) ad)) ad)) (ar (i:=5) nd rfl (Or.inl rfl))
   (af (aw (ao (ax hu) (av bh (kcal Jo hr (ab (pv 0) (ab (av aH ah (pv 5)) ad))) ah) ah (aj _)) (af (zK ah (Hn (pv 4) (pv 5) (IW hu)))) ap)))
   (ae (kset 6 nd (lV LB hr (by decide) rfl (ab (pv 1) (ab (pv 2) (ab (pv 4) ad)))))
   (ae (kset 7 nd (kcal J1 hr (ab (pv 0) (ab ah (ab (pv 1) (ab (pv 3) ad))))))
   (ae (kset 8 nd (kcal J1 hr (ab (pv 0) (ab ah (ab (pv 1) (ab (pv 3) ad))))))
   (ae (bt M8 rfl (az (aJ (ab (pv 7) (ab (av z5 (aJ (ab ah ad)) (au aF rfl Bz.len_ aP (ab (pv 3) ad))) (ab (pv 8) ad))))) (ar (i:=9) nd rfl (Or.inl rfl))
   (ae (kset 10 nd (aS cY rfl Bz.list_ bQ (ab (pv 9) ad)))
   (ae (kset 11 nd (kcal LE hr (ab (pv 6) (ab (pv 10) ad))))
   (ae (aw (Ou (bj (ao (aV hu) (pv 10) (pv 9) (aj _)) (bj (ao (aV hu) (aI KL hr (by decide) (pv 6)) (pv 4) (aj _)) (bC (be (aL (kcal KF hr (ab (pv 6) (ab (pv 3) (ab (pv 9) (ab (pv 11) ad))))))))))) (af (ai bg)) ap)
   (ae (aw (ao Ch (pv 11) iW (aj _)) (af (cq (bF MY Ng Nh bH (kix hu (pv 11) ah) (ab ah ad)))) ap)
   (af (aw (be (aL (kcal KF hr (ab (pv 6) (ab (pv 3) (ab (pv 9) (ab (kcal LE hr (ab (pv 6) (ab (pv 10) ad))) ad))))))) (af (ai bg)) ap)))))))
   (af (ai bg)))))))))) (by walk_at "l")
end
variable{l:PySem.W.OpenLaw}
theorem IL {w:World} {K:Frag} {h:Heap} {mg:Str->Option Value} {fa:Addr} (X:K.In h) (G:h.Ns mainGlobals mg) (hfa:mg "law"=some (.ref fa)) {x1 x2 x3 x4 x5 x6 x7 x8 y1 f13 f14 f15 f16 f17 f18 f19 f21 f22 f23 f41 f42 f43 f44 f45 f67 f82 f83 f92 f93 f100:Addr} {tk_FIGURES tk_MOST_CELLS tk_MOST_FIGURES tk_MOST_NUMBER tk_MOST_RULES tk_MOST_SIDE tk_MOST_SIGNS tk_MOST_WAYS:Tok}
  (Q_Unlike:ClsP K "Unlike" x1 f13) (Q_Sum:ClsP K "Sum" x2 f13) (Q_Rising:ClsP K "Rising" x3 f13) (Q_Seen:ClsP K "Seen" x4 f13) (Q_Count:ClsP K "Count" x5 f13) (Q_Joined:ClsP K "Joined" x6 f13) (Q_NoSquare:ClsP K "NoSquare" x7 f13) (Q_Ring:ClsP K "Ring" x8 f13) (Q_Puzzle:ClsP K "Puzzle" y1 f100) (a14:At8 K "name" (some (.ref f14)) x1 x2 x3 x4 x5 x6 x7 x8) (a15:At8 K "spots" (some (.ref f15)) x1 x2 x3 x4 x5 x6 x7 x8) (a16:At8 K "number" (some (.ref f16)) x1 x2 x3 x4 x5 x6 x7 x8) (a17:At8 K "sign" (some (.ref f17)) x1 x2 x3 x4 x5 x6 x7 x8) (a18:At8 K "signs_at" (some (.ref f18)) x1 x2 x3 x4 x5 x6 x7 x8) (a19:At8 K "marked" (some (.ref f19)) x1 x2 x3 x4 x5 x6 x7 x8) (LX:findIn K (.ref y1) "place"=some (some (.ref f21))) (LY:findIn K (.ref y1) "clues"=some (some (.ref f22))) (LZ:findIn K (.ref y1) "rules"=some (some (.ref f23))) (L0:findIn K (.ref x1) "holds"=some (some (.ref f41))) (Mb:findIn K (.ref x2) "holds"=some (some (.ref f42))) (L1:findIn K (.ref x3) "holds"=some (some (.ref f43))) (L7:findIn K (.ref x4) "holds"=some (some (.ref f44))) (L6:findIn K (.ref x5) "holds"=some (some (.ref f45))) (L8:findIn K (.ref x8) "has_two_beside"=some (some (.ref f67))) (L3:findIn K (.ref x6) "is_joined"=some (some (.ref f82))) (L9:findIn K (.ref x8) "is_joined"=some (some (.ref f82))) (LU:findIn K (.ref x7) "holds"=some (some (.ref f83))) (L4:findIn K (.ref x6) "holds"=some (some (.ref f92))) (Ma:findIn K (.ref x8) "holds"=some (some (.ref f93))) (n_c_amount:At8 K "amount" none x1 x2 x3 x4 x5 x6 x7 x8) (n_c_cells:At8 K "cells" none x1 x2 x3 x4 x5 x6 x7 x8) (n_c_floor:At8 K "floor" none x1 x2 x3 x4 x5 x6 x7 x8) (n_c_mark:At8 K "mark" none x1 x2 x3 x4 x5 x6 x7 x8) (n_c_words:At8 K "words" none x1 x2 x3 x4 x5 x6 x7 x8) (n_d_floor:findIn K (.ref y1) "floor"=some none) (n_d_given:findIn K (.ref y1) "given"=some none) (n_d_laws:findIn K (.ref y1) "laws"=some none) (D0:De K "is_whole" wp) (D1:De K "many_cells" sA) (D2:De K "spot_of" yG) (D3:De K "square_at" ub) (D4:De K "bit_of" Bf) (D5:De K "stands" Bg) (D6:De K "clashes" yH) (D7:De K "masks_at" wq) (D8:De K "clue_strikes" pD) (D9:De K "are_told_in_order" j2) (D10:De K "with_sign" uc) (D11:De K "place_mores" qF) (D12:De K "is_within" ud) (D13:Me K "__init__" "Rule.__init__" nT f13) (D14:Me K "name" "Rule.name" ue f14) (D15:Me K "spots" "Rule.spots" sB f15) (D16:Me K "number" "Rule.number" qG f16) (D17:Me K "sign" "Rule.sign" uf f17) (D18:Me K "signs_at" "Rule.signs_at" nU f18) (D19:Me K "marked" "Rule.marked" qH f19) (D20:De K "number_in" ug) (D21:Me K "place" "Puzzle.place" pE f21) (D22:Me K "clues" "Puzzle.clues" pF f22) (D23:Me K "rules" "Puzzle.rules" pG f23) (D24:De K "_law_mixed" sC) (D25:De K "_law_seen" uh) (D26:De K "_law_chain" sD) (D27:De K "is_from_one_to" mY) (D28:De K "beside" Bo) (D29:De K "is_corner" ui) (D30:De K "full_mask" uj) (D31:De K "without" yI) (D32:De K "signs_in" ww) (D33:De K "is_cell" yJ) (D34:De K "goes_by" yK) (D35:De K "others" Br) (D36:De K "many_may" wx) (D37:De K "ahead_of" wy) (D38:De K "behind" Bs) (D39:De K "with_each_sign" mZ) (D40:De K "cells_to_try" pH) (D41:Me K "holds" "Unlike.holds" pI f41) (D42:Me K "holds" "Sum.holds" uk f42) (D43:Me K "holds" "Rising.holds" pJ f43) (D44:Me K "holds" "Seen.holds" sE f44) (D45:Me K "holds" "Count.holds" qI f45) (D46:De K "number_within" nV) (D47:De K "is_filling" sF) (D48:De K "_law_cells" sG) (D49:De K "_law_entries" pK) (D50:De K "floor_of" wD) (D51:De K "squares" yL) (D52:De K "reached" yM) (D53:De K "has_only" wE) (D54:De K "struck" Bv) (D55:De K "ways" Fo) (D56:De K "masks_by" wF) (D57:De K "is_sign" yN) (D58:De K "has_its_rule" pL) (D59:De K "is_no_greater" nX) (D60:De K "is_no_less" sH) (D61:De K "pair_strikes" pM) (D62:De K "sum_strikes" qJ) (D63:De K "around" Bw) (D64:De K "turn_mores" sI) (D65:De K "pair_mores" sJ) (D66:De K "rule_numbers" pN) (D67:Me K "has_two_beside" "Ring.has_two_beside" iV f67) (D68:De K "first_within" pO) (D69:De K "told_cells" sK) (D70:De K "rule_by" yO) (D71:De K "checked_clues" nY) (D72:De K "is_formed" ul) (D73:De K "many_only" um) (D74:De K "only_strikes" pP) (D75:De K "place_strikes" nZ) (D76:De K "step_strikes" pQ) (D77:De K "rest_of_square" m3) (D78:De K "is_another_with_only" h9) (D79:De K "only_mores" sL) (D80:De K "square_mores" pR) (D81:De K "reach_mores" qK) (D82:Me K "is_joined" "Joined.is_joined" ld f82) (D83:Me K "holds" "NoSquare.holds" m5 f83) (D84:De K "cells_of" wN) (D85:De K "checked_floor" n6) (D86:De K "strikes_by_line" lO) (D87:De K "count_strikes" n9) (D88:De K "square_strikes" m7) (D89:De K "reach_strikes" oa) (D90:De K "turn_strikes" pS) (D91:De K "mores_to_try" pT) (D92:Me K "holds" "Joined.holds" pU f92) (D93:Me K "holds" "Ring.holds" sN f93) (D94:De K "read_rule" uo) (D95:De K "ways_strikes" pV) (D96:De K "strikes_by_region" j4) (D97:De K "read_rules" sO) (D98:De K "_law_line" uq) (D99:De K "strikes_by_number" j5) (D100:Me K "__init__" "Puzzle.__init__" lP f100) (D101:De K "_law_drawn" sQ) (D102:De K "strikes" yP) (D103:De K "allowed" yQ) (D104:De K "first_at" wS) (D105:De K "found_by_rule" oe) (D106:De K "first_found" qL) (D107:De K "next_thought" pW) (D108:De K "think" CJ) (D109:De K "hint" Fq) (D110:De K "_law_good" ur) (D111:De K "law" wU) (g_KINDS:GT0 K "KINDS" bu) (g_LINE_KINDS:GT0 K "LINE_KINDS" ie) (g_NUMBER_KINDS:GT0 K "NUMBER_KINDS" fJ) (g_OF_ALL_CELLS:GT0 K "OF_ALL_CELLS" fH) (g_WITH_NUMBER:GT0 K "WITH_NUMBER" gk) (g_WITH_SIGN:GT0 K "WITH_SIGN" fY) (gd_RULES_OF_KIND_:GD0 w K "RULES_OF_KIND" gd_RULES_OF_KIND) (L5:nsIn K mainGlobals "FIGURES"=some (some (.str (tx [48,49,50,51,52,53,54,55,56,57]) tk_FIGURES))) (LM:nsIn K mainGlobals "MOST_CELLS"=some (some (.int 16 tk_MOST_CELLS))) (LF:nsIn K mainGlobals "MOST_FIGURES"=some (some (.int 9 tk_MOST_FIGURES))) (LK:nsIn K mainGlobals "MOST_NUMBER"=some (some (.int 99 tk_MOST_NUMBER))) (LN:nsIn K mainGlobals "MOST_RULES"=some (some (.int 12 tk_MOST_RULES))) (LV:nsIn K mainGlobals "MOST_SIDE"=some (some (.int 6 tk_MOST_SIDE))) (LO:nsIn K mainGlobals "MOST_SIGNS"=some (some (.int 6 tk_MOST_SIGNS))) (LW:nsIn K mainGlobals "MOST_WAYS"=some (some (.int 32 tk_MOST_WAYS))) (z:Zn K):
  ∃ fd:FuncData,(∀(s:Shared) (v:Value),BindsTo s fd ⟨[v],[]⟩ [("_law_script",v)])/\∀ base:Heap,K.In base->base.Ns mainGlobals mg->FnOk l.prog w K mg base CX0 14 fa fd ["_law_script"] (xP K):=by
 obtain⟨f,fd,a,F⟩:=D111.ex;have e:=hfa.symm.trans (PySem.W.mg_of X G a);cases e;obtain⟨oc,od,kV,doc,pm,an,Mg,ct,osl,rfl,lk,hcd⟩:=F.ex;refine⟨fnOf "law" "law" (cU wU) (b3 wU) (a6 wU) .none kV doc pm an Mg ct,fun s v=>.of_eq rfl,fun base _ _=>?_⟩;let Z:Z5:=⟨l.prog,w,K,mg,base⟩;have Bz:Bt3 Z:=IJ X G z;let c:RCl RK:=mkC x1 x2 x3 x4 x5 x6 x7 x8;let d:RCl PzK:=mkD y1;have CC:C8 K x1 x2 x3 x4 x5 x6 x7 x8:=⟨Q_Unlike.cl,Q_Sum.cl,Q_Rising.cl,Q_Seen.cl,Q_Count.cl,Q_Joined.cl,Q_NoSquare.cl,Q_Ring.cl⟩;have Lo:=Bz.ns L5;have KN:=Bz.ns LM;have Ko:=Bz.ns LF;have KI:=Bz.ns LK;have KY:=Bz.ns LN;have KD:=Bz.ns LV;have KO:=Bz.ns LO;have Lb:=Bz.ns LW;have Jr:FldK Z.K c "amount":=fk8 CC n_c_amount;have Jy:FldK Z.K c "cells":=fk8 CC n_c_cells;have JB:FldK Z.K c "floor":=fk8 CC n_c_floor;have JI:FldK Z.K c "mark":=fk8 CC n_c_mark;have JX:FldK Z.K c "words":=fk8 CC n_c_words;have JM:FldK Z.K d "floor":=⟨fun _ _=>⟨Q_Puzzle.cl,n_d_floor⟩⟩;have JY:FldK Z.K d "given":=⟨fun _ _=>⟨Q_Puzzle.cl,n_d_given⟩⟩;have J7:FldK Z.K d "laws":=⟨fun _ _=>⟨Q_Puzzle.cl,n_d_laws⟩⟩;have JF:=g_KINDS.of Bz;have K1:=g_LINE_KINDS.of Bz;have Ky:=g_NUMBER_KINDS.of Bz;have Kq:=g_OF_ALL_CELLS.of Bz;have KJ:=g_WITH_NUMBER.of Bz;have La:=g_WITH_SIGN.of Bz;have Kf:=GD0.of (Z:=Z) gd_RULES_OF_KIND_ Bz;have Ju:=B4 Bz D0;have Jn:=ze Bz D1;have J8:=Dw Bz D2;have K6:=Be Bz D3;have JQ:=Fi Bz D4;have Jx:=Fj Bz D5;have Js:=Dx Bz D6;have Jp:=B5 Bz D7;have Kr:=wr Bz D8;have JT:=qu Bz D9;have JR:=Bh Bz D10;have KG:=xT Bz D11;have K8:=Bi Bz D12;have T13:=uV Bz Jr Jy JB JI JX D13;have Lx:aO Z "Unlike" (c.A .Unlike) c:=T13.mke Bz Q_Unlike;have K_Sum:aO Z "Sum" (c.A .Sum) c:=T13.mke Bz Q_Sum;have Lw:aO Z "Rising" (c.A .Rising) c:=T13.mke Bz Q_Rising;have LS:aO Z "Seen" (c.A .Seen) c:=T13.mke Bz Q_Seen;have LI:aO Z "Count" (c.A .Count) c:=T13.mke Bz Q_Count;have Lv:aO Z "Joined" (c.A .Joined) c:=T13.mke Bz Q_Joined;have Lg:aO Z "NoSquare" (c.A .NoSquare) c:=T13.mke Bz Q_NoSquare;have LR:aO Z "Ring" (c.A .Ring) c:=T13.mke Bz Q_Ring;have T14:=Bj Bz JX D14;have LQ:Fh Z c:=⟨fun i hi=>T14.at (c8 CC i) (at8 a14 i) fun _ _ _ _ h=>⟨i,h⟩⟩;have T15:=zg Bz Jy D15;have Jv:iU Z c:=⟨fun i hi=>T15.at (c8 CC i) (at8 a15 i) fun _ _ _ _ h=>⟨i,h⟩⟩;have T16:=xU Bz Jr D16;have JW:uU Z c:=⟨fun i hi=>T16.at (c8 CC i) (at8 a16 i) fun _ _ _ _ h=>⟨i,h⟩⟩;have T17:=Bl Bz JI D17;have JK:pC Z c:=⟨fun i hi=>T17.at (c8 CC i) (at8 a17 i) fun _ _ _ _ h=>⟨i,h⟩⟩;have T18:=uW Bz Jy D18;have JC:jU Z c:=⟨fun i hi=>T18.at (c8 CC i) (at8 a18 i) fun _ _ _ _ h=>⟨i,h⟩⟩;have Ls:=fk1 (k:=.Joined) rfl Jy;have LC:=fk1 (k:=.Joined) rfl JI;have T19_Joined:=kE (c:=(mk1 c .Joined)) Bz Ls LC D19;have LG:iL Z (mk1 c .Joined):=⟨fun i hi=>by cases o7 hi;exact T19_Joined.at Q_Joined.cl (at8 a19 .Joined) fun _ _ _ _ h=>⟨.Joined,h⟩⟩;have LH:=fk1 (k:=.Ring) rfl Jy;have LL:=fk1 (k:=.Ring) rfl JI;have T19_Ring:=kE (c:=(mk1 c .Ring)) Bz LH LL D19;have LP:iL Z (mk1 c .Ring):=⟨fun i hi=>by cases o7 hi;exact T19_Ring.at Q_Ring.cl (at8 a19 .Ring) fun _ _ _ _ h=>⟨.Ring,h⟩⟩;have T19:=kE Bz Jy JI D19;have JO:iL Z c:=⟨fun i hi=>T19.at (c8 CC i) (at8 a19 i) fun _ _ _ _ h=>⟨i,h⟩⟩;have K4:=Bm Bz Lo Ko D20;have T21:=wt (c:=c) Bz JM D21;have Jw:iS Z c d:=⟨fun i hi=>by cases i;exact T21.at Q_Puzzle.cl LX fun _ _ _ _ h=>h⟩;have T22:=wu (c:=c) Bz JY D22;have KL:xR Z c d:=⟨fun i hi=>by cases i;exact T22.at Q_Puzzle.cl LY fun _ _ _ _ h=>h⟩;have T23:=wv (c:=c) Bz J7 D23;have Jt:iT Z c d:=⟨fun i hi=>by cases i;exact T23.at Q_Puzzle.cl LZ fun _ _ _ _ h=>h⟩;have Jo:=zh Bz D24;have Lc:=Bn Bz D25;have Kj:=zi Bz D26;have Jz:=tI Bz Ju D27;have JA:=Fk Bz J8 D28;have K5:=Bp Bz J8 D29;have K7:=Bq Bz JQ D30;have J9:=Dy Bz JQ Jx D31;have Jl:=B6 Bz Jx D32;have Kb:=Dz Bz Ju Jn D33;have Ka:=DA Bz LQ Kf D34;have Jm:=Fl Bz Jv D35;have JH:=B7 Bz Jx D36;have Lh:=B8 Bz Jv D37;have Ly:=Fm Bz Jv D38;have J5:=tJ Bz JR D39;have KA:=wz Bz Jn Jw Jt Jv D40;have T41:=wA Bz JC D41;have T42:=Bu Bz Jr JC D42;have T43:=wB Bz JC D43;have T44:=zj Bz Jr JC D44;have T45:=xV Bz Jr JO D45;have JJ:=uX Bz K4 D46;have KP:=zk Bz Ju Jn D47;have KZ:=zn Bz Jo D48;have J1:=wC Bz Jo D49;have Li:=B9 Bz Jz KN KD KO D50;have JN:=DB Bz K5 Jn K6 D51;have JE:=DC Bz JA D52;have Jq:=Ca Bz J9 D53;have KB:=Fn Bz J9 D54;have LT:=Hg Bz Jl D55;have J0:=Cb Bz JQ K7 D56;have Kc:=DD Bz Jz D57;have Kp:=wG Bz Ka Ju Jt Jv D58;have Kg:=uY Bz Jl D59;have KQ:=zp Bz Jl D60;have Kt:=wH Bz JT Jm Jl D61;have KK:=xW Bz Js Jp Jm Jl JW D62;have Lz:=Fp Bz JA D63;have KW:=zq Bz JA D64;have KU:=zr Bz Jm Jl Jv D65;have KC:=wI Bz Ka Jt D66;have K3:=fk1 (k:=.Ring) rfl JB;have T67_Ring:=oP (c:=(mk1 c .Ring)) Bz JA K3 D67;have Lf:mX Z (mk1 c .Ring):=⟨fun i hi=>by cases o7 hi;exact T67_Ring.at Q_Ring.cl L8 fun _ _ _ _ h=>h⟩;have JZ:=wJ Bz JJ D68;have KR:=zt Bz Jn JJ D69;have Lp:=DE Bz LI Lv Lg LR Lw LS K_Sum Lx D70;have Kl:=uZ Bz KP D71;have Le:=Bx Bz Kp Kb Kc Ju Jw JF D72;have JD:=By Bz Jq D73;have Ks:=wK Bz Jq Jm D74;have Kh:=u6 Bz Kc JH Jp Jm Jv D75;have Ku:=wL Bz Lh Ly Kg KQ D76;have J4:=tK Bz JN D77;have JP:=m9 Bz Jq Kb D78;have KS:=zu Bz Jq Jm D79;have Kv:=wM Bz JN D80;have KH:=xX Bz Jq Jm JE Jx JK D81;have Lu:=fk1 (k:=.Joined) rfl JB;have T82_Joined:=j3 (c:=(mk1 c .Joined)) Bz JE Lu D82;have Lr:kS Z (mk1 c .Joined):=⟨fun i hi=>by cases o7 hi;exact T82_Joined.at Q_Joined.cl L3 fun _ _ _ _ h=>⟨.Joined,h⟩⟩;have T82_Ring:=j3 (c:=(mk1 c .Ring)) Bz JE K3 D82;have LD:kS Z (mk1 c .Ring):=⟨fun i hi=>by cases o7 hi;exact T82_Ring.at Q_Ring.cl L9 fun _ _ _ _ h=>⟨.Ring,h⟩⟩;have T83:=tL Bz K8 JN JB JO D83;have Lj:=Cc Bz Jn KR Kq D84;have Km:=u7 Bz Li D85;have J3:=sM Bz Kr Ks Kt Kh Ku KL Jw Jt D86;have Kk:=u8 Bz JH JD Jp Jm JW JK D87;have J6:=tN Bz JD Jp J4 JK D88;have Ki:=u9 Bz JP Jm JE Jx JK D89;have Kw:=wO Bz Lz JA Jq JH JD Jp JK D90;have Kz:=wP Bz KS KU KG KH Kv KW Jw Jt D91;have T92_Joined:=wQ (c:=(mk1 c .Joined)) Bz Lr LG D92;have T93_Ring:=zv (c:=(mk1 c .Ring)) Bz Lf LD LP D93;have KM:xS Z c:=⟨fun i hi=>by cases i with | Rule=>exact(ME hi).elim | Unlike=>exact T41.at Q_Unlike.cl L0 fun _ _ _ _ h=>h | Sum=>exact T42.at Q_Sum.cl Mb fun _ _ _ _ h=>h | Rising=>exact T43.at Q_Rising.cl L1 fun _ _ _ _ h=>h | Seen=>exact T44.at Q_Seen.cl L7 fun _ _ _ _ h=>h | Count=>exact T45.at Q_Count.cl L6 fun _ _ _ _ h=>h | Joined=>exact T92_Joined.at Q_Joined.cl L4 (fun vs H Q E h=>by obtain⟨r,p,f,ws,cs,xs,n,m,h,w,g,e,x,y⟩:=h;exact⟨r,p,f,ws,cs,xs,n,m,h,w,g,e,⟨rfl,x.ex⟩,y⟩) | NoSquare=>exact T83.at Q_NoSquare.cl LU fun _ _ _ _ h=>h | Ring=>exact T93_Ring.at Q_Ring.cl Ma (fun vs H Q E h=>by obtain⟨r,p,f,ws,cs,xs,n,m,h,w,g,e,x,y⟩:=h;exact⟨r,p,f,ws,cs,xs,n,m,h,w,g,e,⟨rfl,x.ex⟩,y⟩)⟩;have JS:=BA Bz Lj JZ Lp KI KJ La D94;have Kx:=wR Bz Js Jp Jm Jl LT J5 JR Lb KM D95;have JV:=qv Bz Ki J6 Kw Jw Jt D96;have K0:=zw Bz JS KY D97;have Ld:=BB Bz KZ Kj Jo Lc JS KM D98;have JU:=qw Bz Kk KK Kx Jt D99;have T100:=sP Bz Kl Km K0 JM JY J7 D100;have LB:lN Z "Puzzle" (d.A .Puzzle) c d:=T100.mke Bz Q_Puzzle;have K2:=zx Bz Ld Jo D101;have Ke:=DF Bz J3 JU JV K1 Ky D102;have Lq:=DG Bz Le Ke D103;have Lm:=Cd Bz Kz Ke D104;have Kn:=va Bz KA Js Lm Jl KB D105;have JL:=xY Bz Kn KC JF D106;have JG:=wT Bz Js JL D107;have LJ:=F2 Bz Js JL KB D108;have LE:=Hh Bz J0 JG Jw JF D109;have KF:=BC Bz Lq Js J0 JG Jx LJ Jw JF D110;exact(IK Bz K2 J1 KF Jo LE KL LB F).imp fun vs H Q E h=>by obtain⟨a,ns,e,hS,hn,k⟩:=h;exact⟨a,ns,e,hS,hn,fun k hk=>by cases k <;> first | rfl | exact absurd rfl hk,rfl,k⟩
theorem walk {q:Program} {loose:List Str} {XP:(Str->Option Value)->Heap->Prop} {YP:World->Heap->Prop} {d:DefRec} {K:Params->Frag} (hn:l.most=some 63) (hdf:d.params.defaults=[])
  (hY:∀(w:World) (h:Heap),YP w h->(K w.params).In h)
  (F:∀(w:World) (mg:Str->Option Value) (fa:Addr) (h:Heap),(K w.params).In h->h.Ns mainGlobals mg->mg d.name=some (.ref fa)->
   ∃ fd:FuncData,(∀(s:Shared) (u:Value),BindsTo s fd ⟨[u],[]⟩ [("_law_script",u)])/\∀ base:Heap,(K w.params).In base->base.Ns mainGlobals mg->FnOk l.prog w (K w.params) mg base CX0 14 fa fd ["_law_script"] (xP (K w.params))):
  PySem.W.WalkO q loose XP YP l.row.toRowW d [] (fun f vs=>PySem.call f vs):=
 L2.Gx (n:=63) (k:=14) (x:="_law_script") (CX:=fun _=>CX0) (sp:=fun w=>xP (K w.params)) hn (by decide) hdf ⟨rfl,by decide,by decide⟩ hY F (fun _ _ a ns hl _ hS=>⟨a,ns,rfl,hS,hl,fun _=>rfl⟩) fun _ _ _ _ _ z=>z
variable{P:Program}{w:World}{K:Frag}{mg:Str->Option Value}{base:Heap}
theorem tO {w:World} {K:Frag} {p:Addr} {ep:Nat} {dh0:Int} {dt0:Tok} {dq0:Addr} {dod0:Option Addr} {dn0:Nat} {dsl0:Array (Option Value)} {du0_0:Tok} {dh1:Int} {dt1:Tok} {dq1:Addr} {dod1:Option Addr} {dn1:Nat} {dsl1:Array (Option Value)} {du1_0:Tok} {dh2:Int} {dt2:Tok} {dq2:Addr} {dod2:Option Addr} {dn2:Nat} {dsl2:Array (Option Value)} {du2_0:Tok} {dh3:Int} {dt3:Tok} {dq3:Addr} {dod3:Option Addr} {dn3:Nat} {dsl3:Array (Option Value)} {du3_0:Tok} {dh4:Int} {dt4:Tok} {dq4:Addr} {dod4:Option Addr} {dn4:Nat} {dsl4:Array (Option Value)} {du4_0:Tok} {dh5:Int} {dt5:Tok} {dq5:Addr} {dod5:Option Addr} {dn5:Nat} {dsl5:Array (Option Value)} {du5_0:Tok} {dh6:Int} {dt6:Tok} {dq6:Addr} {dod6:Option Addr} {dn6:Nat} {dsl6:Array (Option Value)} {du6_0 du6_1:Tok} {dh7:Int} {dt7:Tok} {dq7:Addr} {dod7:Option Addr} {dn7:Nat} {dsl7:Array (Option Value)} {du7_0:Tok} {dh8:Int} {dt8:Tok} {dq8:Addr} {dod8:Option Addr} {dn8:Nat} {dsl8:Array (Option Value)} {du8_0:Tok}
  (a:nsIn K mainGlobals "RULES_OF_KIND"=some (some (.ref p))) (b:K.lookup p=some ⟨.type "dict",none,.dict #[⟨dh0,.str (tx [111,110,108,121]) dt0,.ref dq0⟩,⟨dh1,.str (tx [112,108,97,99,101]) dt1,.ref dq1⟩,⟨dh2,.str (tx [99,111,117,110,116]) dt2,.ref dq2⟩,⟨dh3,.str (tx [115,116,101,112]) dt3,.ref dq3⟩,⟨dh4,.str (tx [115,117,109]) dt4,.ref dq4⟩,⟨dh5,.str (tx [115,113,117,97,114,101]) dt5,.ref dq5⟩,⟨dh6,.str (tx [114,101,97,99,104]) dt6,.ref dq6⟩,⟨dh7,.str (tx [116,117,114,110]) dt7,.ref dq7⟩,⟨dh8,.str (tx [112,97,105,114]) dt8,.ref dq8⟩] ep,#[]⟩) (k0:K.lookup dq0=some ⟨.type "tuple",dod0,.seq #[.str (tx [117,110,108,105,107,101]) du0_0] dn0,dsl0⟩) (h0:dh0=hashStr w (tx [111,110,108,121])) (k1:K.lookup dq1=some ⟨.type "tuple",dod1,.seq #[.str (tx [117,110,108,105,107,101]) du1_0] dn1,dsl1⟩) (h1:dh1=hashStr w (tx [112,108,97,99,101])) (k2:K.lookup dq2=some ⟨.type "tuple",dod2,.seq #[.str (tx [99,111,117,110,116]) du2_0] dn2,dsl2⟩) (h2:dh2=hashStr w (tx [99,111,117,110,116])) (k3:K.lookup dq3=some ⟨.type "tuple",dod3,.seq #[.str (tx [114,105,115,105,110,103]) du3_0] dn3,dsl3⟩) (h3:dh3=hashStr w (tx [115,116,101,112])) (k4:K.lookup dq4=some ⟨.type "tuple",dod4,.seq #[.str (tx [115,117,109]) du4_0] dn4,dsl4⟩) (h4:dh4=hashStr w (tx [115,117,109])) (k5:K.lookup dq5=some ⟨.type "tuple",dod5,.seq #[.str (tx [110,111,115,113,117,97,114,101]) du5_0] dn5,dsl5⟩) (h5:dh5=hashStr w (tx [115,113,117,97,114,101])) (k6:K.lookup dq6=some ⟨.type "tuple",dod6,.seq #[.str (tx [106,111,105,110,101,100]) du6_0,.str (tx [114,105,110,103]) du6_1] dn6,dsl6⟩) (h6:dh6=hashStr w (tx [114,101,97,99,104])) (k7:K.lookup dq7=some ⟨.type "tuple",dod7,.seq #[.str (tx [114,105,110,103]) du7_0] dn7,dsl7⟩) (h7:dh7=hashStr w (tx [116,117,114,110])) (k8:K.lookup dq8=some ⟨.type "tuple",dod8,.seq #[.str (tx [117,110,108,105,107,101]) du8_0] dn8,dsl8⟩) (h8:dh8=hashStr w (tx [112,97,105,114])):GD0 w K "RULES_OF_KIND" gd_RULES_OF_KIND:=
 ⟨p,_,_,_,a,b,⟨rfl,rfl,rfl⟩,rfl,(.cons h0 k0 rfl rfl (Nj (aK (Nq rfl))) (.cons ⟨_,rfl⟩ .nil) (.cons h1 k1 rfl rfl (Nj (aK (Nq rfl))) (.cons ⟨_,rfl⟩ .nil) (.cons h2 k2 rfl rfl (Nj (aK (Nq rfl))) (.cons ⟨_,rfl⟩ .nil) (.cons h3 k3 rfl rfl (Nj (aK (Nq rfl))) (.cons ⟨_,rfl⟩ .nil) (.cons h4 k4 rfl rfl (Nj (aK (Nq rfl))) (.cons ⟨_,rfl⟩ .nil) (.cons h5 k5 rfl rfl (Nj (aK (Nq rfl))) (.cons ⟨_,rfl⟩ .nil) (.cons h6 k6 rfl rfl (Nj (aK (Nq rfl))) (.cons ⟨_,rfl⟩ (.cons ⟨_,rfl⟩ .nil)) (.cons h7 k7 rfl rfl (Nj (aK (Nq rfl))) (.cons ⟨_,rfl⟩ .nil) (.cons h8 k8 rfl rfl (Nj (aK (Nq rfl))) (.cons ⟨_,rfl⟩ .nil) .nil))))))))),by decide+kernel⟩
end L2
open PySem PySem.W PyProof.Rows
namespace PySem.W.Fast
def tw305570769980083182:=()
def tw8956617882434434195:=()
def tw3190517702224839115:=()
def tw17971049041250693833:=()
def tw8998749401592096735:=()
def tw6361224417678411498:=()
def tw6642355738821487097:=()
def tw10812822125467824275:=()
def tw7772510911818341520:=()
def tw4889444662603648982:=()
def tw9075927508828509226:=()
def tw14319787662069980074:=()
def tw12541285099917503755:=()
def tw1394997519079950928:=()
def tw13508334997142691667:=()
def tw11337725794652234364:=()
def tw7751506221902017862:=()
def tw17756777871621312862:=()
def tw4392571754002140446:=()
def tw15653137832392132571:=()
def tw5167105154247177665:=()
def tw6038255564166197923:=()
def tw2955618718550702224:=()
def tw2640766341374422075:=()
def tw15200687377280425307:=()
def tw6017773213882031448:=()
def tw8968430563734612304:=()
def tw49303293558614750:=()
def tw12008088544566060934:=()
def tw11853587209160651695:=()
def tw15926378691457385406:=()
def tw9552713518468942564:=()
def tw12684835098714355380:=()
def tw10400227751934261659:=()
def tw2013322970975953377:=()
def tw5110947148071148499:=()
def tw2811466846751838748:=()
def tw8140415456826956276:=()
def tw14965320438584347366:=()
def tw13651329747767241439:=()
def tw14663579652459850979:=()
def tw5505323058042146550:=()
def tw2967922434897549531:=()
def tw13941515766692029007:=()
def tw97310479201487487:=()
def tw12058063998546272497:=()
def tw5794712778223152316:=()
def tw15603321022365706201:=()
def tw4755761775739495818:=()
def tw3329036330942722939:=()
def tw13305143493097809221:=()
def tw3155130283619350697:=()
def tw7839287954964133408:=()
def tw17732821847994773897:=()
def tw1591737825534166546:=()
def tw10407542767836312479:=()
def tw12891339642409927872:=()
def tw11788005112055602302:=()
def tw3629210898326731579:=()
def tw2513784516837142633:=()
def tw17546020476736096247:=()
def tw309637940133109071:=()
def tw1425315319774794935:=()
def tw10036377539637697174:=()
def tw10198335206785730542:=()
def tw18333765134060575861:=()
def tw1872335748995338638:=()
def tw11175789912154949336:=()
def tw15557140243508500086:=()
def tw3198016524812314027:=()
def tw2528414704162098885:=()
def tw3002498370192285577:=()
def tw2922397988446685166:=()
def tw17456403942345686654:=()
def tw1668617155571967893:=()
def tw13179734034491897693:=()
def tw4012422015771499678:=()
def tw4479377216501836807:=()
def tw11560462407076566133:=()
def tw1636879862000214048:=()
def tw14298123955030811668:=()
def tw13613687951550973578:=()
def tw12764086336924636790:=()
def tw7309110972230180948:=()
def tw7906387530023034434:=()
def tw3142492872842270747:=()
def tw9169583897769032040:=()
def tw13227712333219049521:=()
def tw13767759578974747879:=()
def tw16490054924885862541:=()
def tw6016938817475690693:=()
def tw6818049115212004601:=()
def tw15461443521936962456:=()
def tw1346127008574663541:=()
def tw1057601712395614571:=()
def tw13465270306725827325:=()
def tw8704382282953341911:=()
def tw13359796798473424491:=()
def tw18290504338979086783:=()
def tw9868577022395354078:=()
def tw6062638355421238007:=()
def tw16422077083040153691:=()
def tw253151330165364995:=()
def tw3995623059571780428:=()
def tw14208805540948521144:=()
def tw4108476230894239251:=()
def tw3432775016287314676:=()
def tw14110161410681518374:=()
def tw9841985796388243926:=()
def tw9634456159141432882:=()
def tw17236820367350433830:=()
def tw4305606198365250287:=()
def tw13695934963358523874:=()
def tw8204827870852003419:=()
def tw9825745271792620377:=()
def tw9069229229814225474:=()
def tw12096289122841553567:=()
def tw3994980028311225686:=()
def tw16758699728452891863:=()
def tw2510461607001391443:=()
def tw9268879453935283085:=()
def tw8435563877183261061:=()
def tw6387617698448103314:=()
def tw7443641486037918160:=()
def tw7793009478775081606:=()
def tw7528900716453731437:=()
def tw5757582223917761722:=()
def tw7164651699779361886:=()
def tw1706797546701673114:=()
def tw5363783607179497333:=()
def tw13661215563473236543:=()
def tw6393050040389698642:=()
def tw12070942189969734614:=()
def tw5262867994123187702:=()
def tw3307008202437159161:=()
def tw120488139073109231:=()
def tw4779855409838956968:=()
def tw16530246543871922002:=()
def tw8144764342534653644:=()
def tw5219837811588576895:=()
def tw9107646050082570202:=()
def tw4060698571842754482:=()
def tw16552036834221310655:=()
def tw6015988475295777782:=()
def tw6706262248223097822:=()
def tw16683907191082482465:=()
def tw8925614718208728399:=()
def tw8162221695097590268:=()
def tw9205125440539156932:=()
def tw3326206089809692330:=()
def tw5519465547279844357:=()
def tw17135631516098248195:=()
def tw3809722136129990483:=()
def tw7331820397502866001:=()
def tw16325285445419798293:=()
def tw6447153058278987685:=()
def tw9470612973429468502:=()
def tw3472911462646805702:=()
def tw16834074019594163946:=()
def tw11827052411504583609:=()
def tw16882779365735242401:=()
def tw6456583991605872521:=()
def tw14927977552743437585:=()
def tw11261020291972909912:=()
def tw17514224024676619454:=()
def tw12255061222676853260:=()
def tw9194957436973179529:=()
def tw7661397176957798731:=()
def tw8313588176975898229:=()
def tw13499150634625003040:=()
def tw9365903847104289302:=()
def tw5089619749230528294:=()
def tw1242642490095044476:=()
def tw18275600566093311436:=()
def tw5586433673660694936:=()
def tw1548691821140088207:=()
def tw7741936455070264063:=()
def tw9484532260560016895:=()
def tw16721984204698121052:=()
def tw9948206238629482800:=()
def tw1627273444501847156:=()
def tw5780600594741162099:=()
def tw4990403990931954311:=()
def tw3573311858959813081:=()
def tw14040271499916006974:=()
def tw665765417855551998:=()
def tw14647580026140826712:=()
def tw4972043777990729784:=()
def tw9389269097568639063:=()
def tw17655160958578767241:=()
def tw7632697982079802426:=()
def tw17566749203930255154:=()
def tw7680979045522771415:=()
def tw374028770288160990:=()
def tw17867402600717945999:=()
def tw18262611053434553197:=()
def tw3059881655862491109:=()
def tw5665300932905191463:=()
def tw1239212079018510289:=()
def tw15631046514203728225:=()
def tw8799345933364131745:=()
def tw14809752700006966213:=()
def tw3478486758345272335:=()
def tw1279407207773328913:=()
def tw8466915637677653548:=()
def tw17703624055333362119:=()
def tw9780932871904015875:=()
def tw13509631929093555313:=()
def tw12024463842093534242:=()
def tw4559476181890520249:=()
def tw2830839193279666201:=()
def tw13671405911436097859:=()
def tw4719620550940331859:=()
def tw8169781490769315102:=()
def tw17654012478798300831:=()
def tw12988543835698889400:=()
def tw3825710404934104586:=()
def tw9619266353341774439:=()
def tw3643007072570293129:=()
def tw13538849319400263948:=()
def tw8922084910327823325:=()
def tw8478065186032827180:=()
def tw17195080708222611329:=()
def tw15883121230610549669:=()
def tw4855876232566596411:=()
def tw8033847349957360046:=()
def tw15076454371431856806:=()
def tw9631481598330851143:=()
def tw16662748328234788469:=()
def tw7915728955997848727:=()
def tw280906663946204857:=()
def tw14208627917474863366:=()
def tw10218651006291484224:=()
def tw1957296793142090704:=()
def tw6479656223826714945:=()
def tw3690201455750425879:=()
def tw17056032327539385089:=()
def tw14128526079951019341:=()
def tw10695644114072554944:=()
def tw11400450497847562074:=()
def tw11725182137499552676:=()
def tw3686467064502924253:=()
def tw8402882248860198349:=()
def tw619827218410542013:=()
def tw1048663085190125775:=()
def tw4304480233947675127:=()
def tw5059078672550813694:=()
def tw6339849175096142403:=()
def tw3841385209166016836:=()
def tw8837266492393813020:=()
def tw10553200552246749141:=()
def tw3927933230200379261:=()
def tw14187611754109005470:=()
def tw12532157203628590422:=()
def tw18203556273112340302:=()
def tw13810215565264989714:=()
def tw11967806137353470674:=()
def tw6682670063841931776:=()
def tw3398419715042045535:=()
def tw11095982174146201419:=()
def tw5582477094877833470:=()
def tw5858712109072217955:=()
def tw3507239152826950520:=()
def tw7603951284581297396:=()
def tw15014259707825618389:=()
def tw12926396596858124887:=()
def tw18236606434884582622:=()
def tw5866571242321237420:=()
def tw11080294360582089841:=()
def tw2555260583617390861:=()
def tw5963362804159552348:=()
def tw11586093495445635596:=()
def tw7497835719759940732:=()
def tw11710551143980478421:=()
def tw9960497245492284211:=()
def tw16831319967407094916:=()
def tw10468473948568567764:=()
def tw5102190602192455193:=()
def tw12751282831091645708:=()
def tw11418388499811821165:=()
def tw12606667308420338754:=()
def tw401932317106074135:=()
def tw679761708958673319:=()
def tw13825189764312831332:=()
def tw6336682755118616700:=()
def tw14545525826811817660:=()
def tw3601557415152254566:=()
def tw8598434369584664438:=()
def tw14942400879357301408:=()
def tw14181037333910148932:=()
def tw1391688262999285392:=()
def tw8976406606812852992:=()
def tw4100083608531804380:=()
def tw1891167387745354726:=()
def tw16403349087224605988:=()
def tw17977238769638098054:=()
def tw6927979139629639195:=()
def tw9070108607720929365:=()
def tw15356306216984336801:=()
def tw9283551312165792347:=()
def tw6996413765303378427:=()
def tw11067440994909605681:=()
def tw11617775507031537836:=()
def tw1691018020507062098:=()
def tw17023355969575791159:=()
def tw18143614878045956357:=()
def tw3848796548455830065:=()
def tw439662287750465843:=()
def tw12889429043472602508:=()
def tw6458775120171644607:=()
def tw18254509770868714587:=()
def tw752257773648530885:=()
def tw11402817770464000174:=()
def tw1315200225201208234:=()
end PySem.W.Fast
set_option maxRecDepth 100000 in
set_option maxHeartbeats 0 in
theorem PySem.Challenge.cw_cluemaker_k62_a_hint_holds : PySem.Challenge.rw_cluemaker_k62_a_hint.Holds := by
  w_on; o_law; k_head; (case hw => w_witness2)
  k_fill
  refine L2.walk (l := PySem.Challenge.rw_cluemaker_k62_a_hint) rfl rfl (fun w h Y => PySem.W.kIn_of Y) ?F
  case F =>
    intro w mg fa h KX G hmg
    refine' L2.IL KX G hmg ?_ ?_ ?_ ?_ ?_ ?_ ?_ ?_ ?_ ?_ ?_ ?_ ?_ ?_ ?_ ?_ ?_ ?_ ?_ ?_ ?_ ?_ ?_ ?_ ?_ ?_ ?_ ?_ ?_ ?_ ?_ ?_ ?_ ?_ ?_ ?_ ?_ ?_ ?_ ?_ ?_ ?_ ?_ ?_ ?_ ?_ ?_ ?_ ?_ ?_ ?_ ?_ ?_ ?_ ?_ ?_ ?_ ?_ ?_ ?_ ?_ ?_ ?_ ?_ ?_ ?_ ?_ ?_ ?_ ?_ ?_ ?_ ?_ ?_ ?_ ?_ ?_ ?_ ?_ ?_ ?_ ?_ ?_ ?_ ?_ ?_ ?_ ?_ ?_ ?_ ?_ ?_ ?_ ?_ ?_ ?_ ?_ ?_ ?_ ?_ ?_ ?_ ?_ ?_ ?_ ?_ ?_ ?_ ?_ ?_ ?_ ?_ ?_ ?_ ?_ ?_ ?_ ?_ ?_ ?_ ?_ ?_ ?_ ?_ ?_ ?_ ?_ ?_ ?_ ?_ ?_ ?_ ?_ ?_ ?_ ?_ ?_ ?_ ?_ ?_ ?_ ?_ ?_ ?_ ?_ ?_ ?_ ?_ ?_ ?_ ?_ ?_ ?_ ?_ ?_ ?_ ?_ ?_ ?_ ?_ ?_ ?_ ?_ ?_ ?_
    all_goals first
      | (refine' L2.De.of ?a (L2.Ea ?l ?c ?k); (case a => k_is); (case l => k_is); (case c => k_is); case k => k_is)
      | (refine' L2.Me.of (L2.Ea ?l ?c ?k) ?n; (case l => k_is); (case c => k_is); (case k => k_is); case n => k_is)
      | (refine' L2.ClsP.mk ?a ?b ?c ?d ⟨?e, ?f, ?g, ?h⟩; (case a => k_is); (case b => k_is); (case c => k_is); (case d => k_is); (case e => k_is); (case f => k_is); (case g => k_is); case h => k_is)
      | (unfold L2.At8; refine' ⟨?_, ?_, ?_, ?_, ?_, ?_, ?_, ?_⟩ <;> k_is)
      | (refine' L2.GT0.mk' ?a ?b ?x ?y ?c ?d; (case a => k_is); (case b => k_is); (case x => rfl); (case y => rfl); (case c => exact Nat.le_of_lt (L2.aK (by decide))); (case d => repeat' (first | exact .nil | refine' .cons ⟨_, rfl⟩ ?_)))
      | (refine' L2.tO ?a ?b ?k0 ?h0 ?k1 ?h1 ?k2 ?h2 ?k3 ?h3 ?k4 ?h4 ?k5 ?h5 ?k6 ?h6 ?k7 ?h7 ?k8 ?h8; (case a => k_is); (case b => k_is); (case k0 => k_is); (case h0 => first | exact rfl | with_unfolding_all rfl); (case k1 => k_is); (case h1 => first | exact rfl | with_unfolding_all rfl); (case k2 => k_is); (case h2 => first | exact rfl | with_unfolding_all rfl); (case k3 => k_is); (case h3 => first | exact rfl | with_unfolding_all rfl); (case k4 => k_is); (case h4 => first | exact rfl | with_unfolding_all rfl); (case k5 => k_is); (case h5 => first | exact rfl | with_unfolding_all rfl); (case k6 => k_is); (case h6 => first | exact rfl | with_unfolding_all rfl); (case k7 => k_is); (case h7 => first | exact rfl | with_unfolding_all rfl); (case k8 => k_is); case h8 => first | exact rfl | with_unfolding_all rfl)
      | (unfold L2.Zn; refine' ⟨?_, ?_, ?_, ?_, ?_, ?_, ?_, ?_, ?_, ?_, ?_, ?_, ?_, ?_, ?_, ?_, ?_, ?_, ?_⟩ <;> (unfold L2.Nn; k_is))
      | (unfold L2.Nn; k_is)
      | k_is
      | skip
