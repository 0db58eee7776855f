import PyProof.Rows.All
import Wide.All
import OpenK.AllK
import Wide.FinOn
import Lean
import PyProof.EqAt
import PyProof.EqKinds
import PyProof.TupleCall
import PyProof.ZipIter
import PyProof.ConsumeS
import PyProof.StrCalls2
import PyProof.StrWalks
import PyProof.SliceStr2
import PyProof.StrBlock
import PyProof.StrBlockL
import PyProof.ListIndex
import PyProof.StrLawsTight
import PyProof.StrLawsChain
import PyProof.StrLaws
import PyProof.StrLawsFirst
import PyProof.StationsW
import PyProof.ExcClass3
import PyProof.NsDelKeeps
import PyProof.RulesAs
import PyProof.ExcBaseAll.ValueError
import PyProof.ExcArgsOwn
import PyProof.ExcAttrAll.ValueError
import KE.KTryMore
import KE.RegKTryMore
import KE.RegKIsAll
import PyProof.Rows.Range3
import PyProof.Rows.SumGenD
import PyProof.Rows.RuleM_int
import PyProof.EnumMake
import PyProof.EnumFor
import PyProof.EnumStmt
import PyProof.Rows.EnumRows
import KE.KRevIter
import PyProof.ListNew
import PyProof.CollectIter
import PyProof.ListRange
import PyProof.CallStr
import PyProof.StrBlock2
import PyProof.Rows.StrMadeLen
import PyProof.Rows.SetFrom
import PyProof.SetRoads
import PyProof.MeetsStr2
import KE.KRevSl
import PyProof.Conv_int
import PyProof.WalkInts
import PyProof.Rows.SeqMore
import PySem.Challenge.RW_cluemaker_k52_whole_one_standstill
set_option Elab.async false
set_option linter.all false
set_option maxRecDepth 100000
open PySem.W (Frag nsIn findIn fnOf isFn codeIn keepIn)
set_option maxHeartbeats 40000000
namespace L2
open PySem PySem.Spec PyProof.Rows
abbrev LV:=@List.length_map
abbrev LW:=@List.getElem?_eq_getElem
abbrev LX:=@decide_eq_true_eq
abbrev LY:=@decide_eq_true
abbrev LZ:=@Bool.and_eq_true
abbrev L0:=@decide_eq_false
abbrev L1:=@List.getElem?_eq_some_iff
abbrev L4:=@of_decide_eq_true
abbrev L5:=@List.mem_of_getElem?
abbrev L6:=@List.all_eq_true
abbrev L7:=@Bool.false_ne_true
abbrev L8:=@List.mem_filter
abbrev L9:=@List.getElem?_map
abbrev Ma:=@List.mem_singleton
abbrev Mb:=@List.mem_range
abbrev Mc:=@List.mem_cons_of_mem
abbrev Md:=@if_neg
abbrev Mf:=@List.mem_cons_self
abbrev Mg:=@List.mem_map
abbrev Mh:=@List.length_filter_le
abbrev Mi:=@Nat.le_trans
abbrev Mj:=@List.mem_append
abbrev Mm:=@Bool.false_and
abbrev Mn:=@List.mem_cons
abbrev Mp:=@if_pos
abbrev Mq:=@Bool.true_and
abbrev Mr:=@PySem.F.plainAttrs_list
abbrev Mt:=@List.getElem?_eq_none
abbrev Mu:=@Nat.le_refl
abbrev Mv:=@Heap.get?_push_of_some
abbrev Mw:=@List.size_toArray
abbrev Mx:=@List.map_cons
abbrev My:=@List.length_cons
abbrev Mz:=@List.length_append
abbrev MA:=@Bool.eq_iff_iff
abbrev MC:=@Heap.lt_size
abbrev MD:=@PassesOwn.never
abbrev ME:=@List.getElem_mem
abbrev MF:=@Int.emod_lt_of_pos
abbrev MG:=@List.getElem?_append_left
abbrev MH:=@List.map_map
abbrev MI:=@Nat.lt_of_lt_of_le
abbrev MJ:=@Int.emod_nonneg
abbrev MK:=@PySem.F.slot_list_append
abbrev ML:=@PySem.F.type_list_append
abbrev MM:=@wpAny_bind
abbrev MN:=@List.filter_cons
abbrev MO:=@List.getElem?_append_right
abbrev MP:=@List.filter_append
abbrev MQ:=@Heap.get?_push_size
abbrev MR:=@List.length_range
abbrev MS:=@Nat.le_of_lt
abbrev MT:=@Nat.ne_of_lt
abbrev MU:=@List.mem_append_right
abbrev MV:=@List.range_succ
abbrev MW:=@wpAny_pure
abbrev MX:=@Bool.false_eq_true
abbrev MY:=@Nat.le_of_ble_eq_true
abbrev MZ:=@List.lookup_cons
abbrev M0:=@List.take_length
abbrev M2:=@Nat.zero_le
abbrev M3:=@List.append_assoc
abbrev M4:=@List.take_of_length_le
abbrev M5:=@PyProof.Rows.callWith_type1
abbrev M6:=@List.nodup_cons
abbrev M7:=@Bool.not_eq_true'
abbrev M8:=@List.take_add_one
abbrev M9:=@List.eq_nil_of_length_eq_zero
abbrev Na:=@Nat.lt_of_le_of_lt
abbrev Nb:=@List.length_take
abbrev Nc:=@Bool.false_or
abbrev Nd:=@PySem.mem_of_lookup
abbrev Nf:=@List.getElem?_range
abbrev Ng:=@decide_eq_false_iff_not
abbrev Nh:=@wpAny_mono
abbrev Ni:=@PySem.W.kia_one
abbrev Nj:=@List.foldl_cons
abbrev Nk:=@Bool.or_eq_true
abbrev Nl:=@PySem.F.slot_list_index
abbrev Nm:=@PySem.F.type_list_index
abbrev No:=@List.ext_getElem?
abbrev Np:=@List.map_id'
abbrev Nq:=@Option.some.inj
abbrev Nr:=@List.drop_eq_getElem_cons
abbrev Nt:=@wpAny_Call_Name_kw
abbrev Nv:=@Int.mul_le_mul_of_nonneg_right
abbrev Nw:=@List.mem_iff_getElem
abbrev Ny:=@wpAny_truthy_bool
abbrev Nz:=@Nat.lt_succ_of_lt
abbrev NA:=@List.flatMap_append
abbrev NB:=@if_true
abbrev NC:=@Option.map_eq_some_iff
abbrev ND:=@List.set_set
abbrev NE:=@Int.zero_add
abbrev NF:=@Nat.lt_irrefl
abbrev NG:=@Bool.not_true
abbrev NH:=@List.not_mem_nil
abbrev NI:=@List.any_eq_true
abbrev NJ:=@Int.mul_nonneg
abbrev NK:=@wpAny_passesOwn
abbrev NM:=@List.find?_cons
abbrev NN:=@Int.toNat_natCast
abbrev NO:=@beq_iff_eq
abbrev NP:=@List.replicate_succ
abbrev NQ:=@Heap.size_push
abbrev NR:=@if_false
abbrev NS:=@wpAny_getItem_str_slice
abbrev NT:=@Int.eq_ofNat_of_zero_le
abbrev NU:=@List.mem_flatMap
abbrev NV:=@call_meets
abbrev NW:=@List.all_map
abbrev NX:=@List.map_append
abbrev NY:=@List.any_cons
abbrev NZ:=@List.sum_cons
abbrev N0:=@List.nodup_append
abbrev N1:=@List.foldl_append
abbrev N4:=@List.mem_append_left
abbrev N5:=@Int.ediv_emod_unique
abbrev N6:=@Nat.mul_le_mul
abbrev N7:=@Bool.not_false
abbrev N8:=@Bool.true_or
abbrev N9:=@List.mem_of_find?_eq_some
abbrev Oa:=@beq_eq_false_iff_ne
abbrev Ob:=@Array.length_toList
abbrev Oc:=@Nat.add_le_add_left
abbrev Od:=@Calls.spliced_cons
abbrev Oe:=@tupleKind_room_in1
abbrev Of:=@decide_eq_true_iff
abbrev Og:=@List.length_eq_zero_iff
abbrev Oh:=@wpAny_pyIter_list
abbrev Oi:=@Calls.spliced_nil
abbrev Oj:=@List.take_sublist
abbrev Ol:=@List.flatten_cons
abbrev Om:=@List.length_pos_of_mem
abbrev On:=@List.nodup_nil
abbrev Oo:=@List.findIdx_lt_length_of_exists
abbrev Op:=@List.findIdx_cons
abbrev Oq:=@Nat.lt_or_ge
abbrev Os:=@Int.mul_ediv_add_emod
abbrev Ot:=@builtinLookup_eq_fast
abbrev Ou:=@Nat.lt_succ_self
abbrev Ov:=@PyProof.Rows.callWith_builtin1
abbrev Ow:=@typeIs_str
abbrev Ox:=@Nat.le_add_right
abbrev Oy:=@Nat.min_eq_right
abbrev Oz:=@List.find?_eq_some_iff_getElem
abbrev OA:=@List.drop_length
abbrev OB:=@Bool.not_eq_true
abbrev OC:=@List.all_cons
abbrev OD:=@List.map_take
abbrev OE:=@Nat.le_succ
abbrev OF:=@Nat.mul_le_mul_right
abbrev OG:=@List.getElem?_of_mem
abbrev OJ:=@wpAny_execs_nil
abbrev OK:=@List.append_nil
abbrev OL:=@pushCells_keeps
abbrev OM:=@post_val_or_str
abbrev ON:=@List.filter_map
abbrev OO:=@List.countP_eq_length_filter
abbrev OP:=@List.filterMap_cons
abbrev OQ:=@PySem.W.plainGet_of
abbrev OR:=@List.filter_sublist
abbrev OS:=@ne_true_of_eq_false
abbrev OT:=@List.filter_eq_self
abbrev OU:=@List.map_congr_left
abbrev OV:=@List.mergeSort_perm
abbrev OW:=@Nat.ne_of_gt
abbrev OX:=@PySem.F.slot_int_bit_length
abbrev OY:=@PySem.F.type_int_bit_length
abbrev OZ:=@Calls.Name_function_global
abbrev O0:=@Int.fdiv_eq_ediv_of_nonneg
abbrev O1:=@PySem.W.callWith_K
abbrev O4:=@F.args_str_split_2
abbrev O5:=@List.pairwise_cons
abbrev O6:=@List.take_succ
abbrev O7:=@List.map_replicate
abbrev O8:=@List.mem_replicate
abbrev O9:=@List.find?_eq_none
abbrev Pa:=@PySem.F.slot_dict_getitem
abbrev Pb:=@Array.getElem?_eq_getElem
abbrev Pc:=@Ne.symm
abbrev Pd:=@Option.isSome_map
abbrev Pe:=@F.entry_str_split
abbrev Pf:=@List.flatMap_cons
abbrev Pg:=@wpAny_holding
abbrev Ph:=@wpAny_comprehension_free
abbrev Pi:=@PySem.F.slot_list_extend
abbrev Pj:=@PySem.F.type_list_extend
abbrev Pk:=@or_false
abbrev Pl:=@F.slot_str_split
abbrev Pm:=@List.ext_getElem
abbrev Pn:=@List.getElem?_set_self
abbrev Po:=@PySem.W.cellsFrom_some
abbrev Pp:=@subscriptTail_builtinR
abbrev Pq:=@Calls.callWith_builtin
abbrev Pr:=@Nat.succ_mul
abbrev Ps:=@Txt.slice_le
abbrev Pt:=@List.drop_eq_nil_of_le
abbrev Pu:=@PySem.F.plainAttrs_int
abbrev Pw:=@PySem.F.plainAttrs_str
abbrev Px:=@List.of_mem_zip
abbrev Py:=@typeLookup_type
abbrev Pz:=@Nat.min_eq_left
abbrev PB:=@List.find?_some
abbrev PC:=@List.length_singleton
abbrev PD:=@Array.getElem?_toList
abbrev PF:=@PySem.W.methodCall_KW
abbrev PH:=@List.take_append_drop
abbrev PJ:=@Paired.length
abbrev PK:=@wpAny_standAt
abbrev PL:=@Bool.and_self
abbrev PN:=@codeAny_mono
abbrev PP:=@List.any_map
abbrev Key:=Sum Int Str
def keyIs:Key->Value->Bool
 | .inl k,v=>Value.isInt k v
 | .inr x,v=>Value.isStrOf x v
def keyH(w:World):Key->Int
 | .inl k=>hashInt k
 | .inr x=>hashStr w x
theorem bV:∀{k:Key} {v:Value},keyIs k v=true->(∃ i t,k=Sum.inl i/\v=Value.int i t)\/(∃ x t,k=Sum.inr x/\v=Value.str x t)
 | .inl i,v,h=>by
  obtain⟨t,e⟩:=Value.isInt_shape (k:=i) (v:=v) h;exact .inl ⟨i,t,rfl,e⟩
 | .inr x,v,h=>by
  obtain⟨t,e⟩:=Value.isStrOf_shape (x:=x) (v:=v) h;exact .inr ⟨x,t,rfl,e⟩
theorem CV(i:Int)(t:Tok):keyIs (.inl i) (.int i t)=true:=by simp[keyIs,Value.isInt]
theorem CW(x:Str)(t:Tok):keyIs (.inr x) (.str x t)=true:=by simp[keyIs,Value.isStrOf]
theorem GK(a b:Int):decide ((Sum.inl a:Key)=Sum.inl b)=(a==b):=by
 by_cases e:a=b
 . subst e;simp
 . have h:¬ (Sum.inl a:Key)=Sum.inl b:=fun q=>e (Sum.inl.inj q);rw[L0 h];exact(Oa.mpr e).symm
theorem GL(a b:Str):decide ((Sum.inr a:Key)=Sum.inr b)=decide (a=b):=by
 by_cases e:a=b
 . subst e;simp
 . have h:¬ (Sum.inr a:Key)=Sum.inr b:=fun q=>e (Sum.inr.inj q);rw[L0 h,L0 e]
theorem GM(a:Int)(b:Str):decide ((Sum.inl a:Key)=Sum.inr b)=false:=L0 (fun q=>nomatch q)
theorem GN(a:Str)(b:Int):decide ((Sum.inr a:Key)=Sum.inl b)=false:=L0 (fun q=>nomatch q)
def cf(prog:Program)(w:World):PySem.KeyKind prog w Key where
 is:=keyIs
 hash:=keyH w
 inj:=fun v a b ha hb=>by
  rcases bV ha with ⟨i,t,rfl,rfl⟩ | ⟨x,t,rfl,rfl⟩
  . rcases bV hb with ⟨j,u,rfl,e⟩ | ⟨y,u,rfl,e⟩
    . injection e with e1 _;rw[e1]
    . exact nomatch e
  . rcases bV hb with ⟨j,u,rfl,e⟩ | ⟨y,u,rfl,e⟩
    . exact nomatch e
    . injection e with e1 _;rw[e1]
 byValue:=fun k v h=>by
  rcases bV h with ⟨i,t,rfl,rfl⟩ | ⟨x,t,rfl,rfl⟩ <;> rfl
 pyHash:=fun hv h=>by
  rcases bV hv with ⟨i,t,rfl,rfl⟩ | ⟨x,t,rfl,rfl⟩
  . exact wpAny_pyHash_int h
  . exact wpAny_pyHash_str h
 eqBool:=fun hu hv h=>by
  rcases bV hu with ⟨i,t,rfl,rfl⟩ | ⟨x,t,rfl,rfl⟩
  . rcases bV hv with ⟨j,u,rfl,rfl⟩ | ⟨y,u,rfl,rfl⟩
    . rw[GK] at h;exact wpAny_eqBool_int h
    . rw[GM] at h;exact SeqAt.EqAt.int_str i t y u _ _ _ _ h
  . rcases bV hv with ⟨j,u,rfl,rfl⟩ | ⟨y,u,rfl,rfl⟩
    . rw[GN] at h;exact SeqAt.EqAt.str_int x t j u _ _ _ _ h
    . rw[GL] at h;exact wpAny_eqBool_str h
 «strs»:=fun k x t v h=>by
  rcases bV h with ⟨i,u,rfl,e⟩ | ⟨y,u,rfl,e⟩
  . exact nomatch e
  . injection e with e1 _;subst e1;cases v <;> rfl
theorem AK(prog:Program)(w:World)(i:Int)(t:Tok):(cf prog w).is (.inl i) (.int i t)=true:=CV i t
theorem AL(prog:Program)(w:World)(x:Str)(t:Tok):(cf prog w).is (.inr x) (.str x t)=true:=CW x t
inductive V where
 | non | bl (b:Bool) | int (i:Int) | str (x:Str) | byt (b:Array UInt8) | flt (b:UInt64) | ref (a:Addr) | ty (n:String)
 deriving DecidableEq
def RelV:V->Value->Prop
 | .non,u=>u=Value.none
 | .bl b,u=>u=Value.bool b
 | .int i,u=>∃ t,u=Value.int i t
 | .str x,u=>∃ t,u=Value.str x t
 | .byt b,u=>∃ t,u=Value.bytes b t
 | .flt b,u=>∃ t,u=Value.float b t
 | .ref a,u=>u=Value.ref a
 | .ty n,u=>u=Value.type n
abbrev Vals:List V->List Value->Prop:=Paired RelV
theorem Vals.length{xs:List V}{us:List Value}(r:Vals xs us):xs.length=us.length:=PJ r
theorem Vals.get:∀{xs:List V} {us:List Value} {i:Nat} {x:V},Vals xs us->xs[i]? =some x->∃ u,us[i]? =some u/\RelV x u
 | _,_,_,_,.nil,e=>by simp at e
 | _,_,0,_,.cons r _,e=>by simp at e;subst e;exact⟨_,rfl,r⟩
 | _,_,i+1,x,.cons _ t,e=>by
  obtain⟨u,h1,h2⟩:=Vals.get (i:=i) (x:=x) t (by simpa using e);exact⟨u,by simpa using h1,h2⟩
theorem Vals.append:∀{xs ys:List V} {us ws:List Value},Vals xs us->Vals ys ws->Vals (xs++ys) (us++ws)
 | _,_,_,_,.nil,s=>s
 | _,_,_,_,.cons r t,s=>.cons r (Vals.append t s)
theorem Vals.take:∀{xs:List V} {us:List Value} (n:Nat),Vals xs us->Vals (xs.take n) (us.take n)
 | _,_,0,_=>.nil
 | _,_,_+1,.nil=>.nil
 | _,_,n+1,.cons r t=>.cons r (Vals.take n t)
theorem Vals.drop:∀{xs:List V} {us:List Value} (n:Nat),Vals xs us->Vals (xs.drop n) (us.drop n)
 | _,_,0,r=>r
 | _,_,_+1,.nil=>.nil
 | _,_,n+1,.cons _ t=>Vals.drop n t
def RelO:Option V->Option Value->Prop
 | some v,some u=>RelV v u
 | none,none=>True
 | _,_=>False
def KV{κ:Type}:List (κ × V)->List (κ × Value)->Prop:=Paired fun(p:κ × V) (q:κ × Value)=>p.1=q.1/\RelV p.2 q.2
def kV:Key->V
 | .inl i=>.int i
 | .inr x=>.str x
inductive HO where
  | lst (xs:List V)
  | tup (xs:List V)
  | dK (LN:List (Key × V)) | dT (LN:List (List Key × V))
  | set (S:Int->Bool) (n:Nat)
  | ins (C dx:Addr) (fs:List (Str × V))
  | own (x:Addr)
  | xd (fs:List (Str × V))
  | met (f x:Addr)
  | rng (lo hi:Int)
  | frz (o:Obj) (u:HO)
  | tbl (ps:Array Value)
  | ext (φ:Heap->Prop)
abbrev Hp:=Addr->Option HO
def upd(H:Hp)(a:Addr)(o:HO):Hp:=fun b=>if b=a then some o else H b
variable{H:Hp}{a:Addr}{o:HO}
theorem ag:upd H a o a=some o:=by unfold upd;rw[Mp rfl]
variable{b:Addr}
theorem ai(h:b≠a):upd H a o b=H b:=by unfold upd;rw[Md h]
theorem Ia{u:HO}(h:H a=some o)(h':H b=some u)(d:o≠u):a≠b:=by
 intro e;subst e;rw[h] at h';exact d (Nq h')
theorem az(h:H a=some o)(h':H b=none):a≠b:=by
 intro e;subst e;rw[h] at h';cases h'
section
variable(P:Program)(w:World)
def ObjOk(H:Hp)(h:Heap)(a:Addr):HO->Prop
 | .lst xs=>xs.length<=sizeLine/\∃(LO:List Value) (n:Nat),Vals xs LO/\h.get? a=some {cls:=.type "list",data:=.seq LO.toArray n}
 | .tup xs=>xs.length<=sizeLine/\∃ LO:List Value,Vals xs LO/\IsTup h a LO.toArray
 | .dK LN=>LN.length<=sizeLine/\(a==sysModules)=false/\∃ vs,KV LN vs/\h.DictOf (cf P w) a vs
 | .dT LN=>LN.length<=sizeLine/\(a==sysModules)=false/\∃ xs:List (List Key × Addr × Value),
   Paired (fun(p:List Key × V) (q:List Key × Addr × Value)=>p.1=q.1/\H q.2.1=some (.tup (p.1.map kV))/\RelV p.2 q.2.2) LN xs/\
   ∃ o es ep,h.get? a=some o/\o.ExactDict/\o.data=.dict es ep/\es.toList=xs.map (entryOfKey (tupleKind (cf P w)))/\(xs.map (·.1)).Nodup
 | .set S n=>h.SetOf (intKind P w) a S n
 | .ins C dx fs=>H dx=some (.own a)/\fs.length<=1000/\dx≠a/\h.get? a=some (PySem.W.instObj C dx)/\
   ∃ mA,h.Ns1 dx mA/\(∀ f,RelO (fs.lookup f) (mA f))/\PySem.Within mA (fs.map (·.1))
 | .own _=>∃ o,h.get? a=some o
 | .xd fs=>∃ mA,h.Ns1 a mA/\∀ f,RelO (fs.lookup f) (mA f)
 | .rng lo hi=>∃ t u v,h.get? a=some {cls:=.type "range",data:=.fields #[.int lo t,.int hi u,.int 1 v]}
 | .frz o u=>h.get? a=some o/\ObjOk H h a u
 | .tbl ps=>h.get? a=some {cls:=.none,data:=.fields ps}
 | .met f x=>h.get? a=some (PySem.W.methodObj (.ref f) (.ref x))
 | .ext φ=>φ h/\(∃ o,h.get? a=some o)/\∀ h1 h2:Heap,φ h1->(∀ o,h1.get? a=some o->h2.get? a=some o)->φ h2
def HOk(H:Hp)(h:Heap):Prop:=∀ a o,H a=some o->ObjOk P w H h a o
end
section
variable{P:Program}{w:World}{H H':Hp}{h h':Heap}{a:Addr}{o:HO}
theorem ObjOk.lt(x:ObjOk P w H h a o):a<h.objs.size:=by
 cases o with
 | lst xs=>obtain⟨_,_,_,_,e⟩:=x;exact MC e
 | tup xs=>obtain⟨_,_,_,p⟩:=x;exact p.lt
 | dK LN=>obtain⟨_,_,_,_,o,_,_,e,_⟩:=x;exact MC e
 | dT LN=>obtain⟨_,_,_,_,o,_,_,e,_⟩:=x;exact MC e
 | set S n=>obtain⟨o,_,_,_,e,_⟩:=x;exact MC e
 | ins C dx fs=>obtain⟨_,_,_,e,_⟩:=x;exact MC e
 | own y=>obtain⟨_,e⟩:=x;exact MC e
 | xd fs=>obtain⟨_,⟨_,_,_,e,_⟩,_⟩:=x;exact MC e
 | rng lo hi=>obtain⟨_,_,_,e⟩:=x;exact MC e
 | frz ob u=>obtain⟨e,_⟩:=x;exact MC e
 | tbl ps=>exact MC (show h.get? a=some _ from x)
 | met f y=>exact MC (show h.get? a=some _ from x)
 | ext φ=>obtain⟨_,⟨_,e⟩,_⟩:=x;exact MC e
theorem Paired.mapP{α β:Type}{F G:α->β->Prop}:∀{l₁:List α} {l₂:List β},Paired F l₁ l₂->(∀ a b,F a b->G a b)->Paired G l₁ l₂
 | _,_,.nil,_=>.nil
 | _,_,.cons r t,f=>.cons (f _ _ r) (Paired.mapP t f)
theorem ObjOk.stay (x:ObjOk P w H h a o) (k:∀ b u,(b=a\/H b=some (.own a))->h.get? b=some u->h'.get? b=some u)
  (ho:∀ b,H b=some (.own a)->H' b=some (.own a)) (ht:∀ b xs,H b=some (.tup xs)->H' b=some (.tup xs)):ObjOk P w H' h' a o:=by
 induction o with
 | lst xs=>obtain⟨z,LO,n,r,e⟩:=x;exact⟨z,LO,n,r,k _ _ (.inl rfl) e⟩
 | tup xs=>obtain⟨z,LO,r,ob,e,c⟩:=x;exact⟨z,LO,r,ob,k _ _ (.inl rfl) e,c⟩
 | dK LN=>obtain⟨z,y,vs,r,ob,es,ep,e,c⟩:=x;exact⟨z,y,vs,r,ob,es,ep,k _ _ (.inl rfl) e,c⟩
 | dT LN=>
  obtain⟨z,y,xs,r,ob,es,ep,e,c⟩:=x;exact⟨z,y,xs,Paired.mapP r fun p q z=>⟨z.1,ht _ _ z.2.1,z.2.2⟩,ob,es,ep,k _ _ (.inl rfl) e,c⟩
 | set S n=>obtain⟨ob,es,ep,t,e,c⟩:=x;exact⟨ob,es,ep,t,k _ _ (.inl rfl) e,c⟩
 | ins C dx fs=>
  obtain⟨d,z,ne,e,mA,⟨od,es,ep,e2,c⟩,r⟩:=x;exact⟨ho _ d,z,ne,k _ _ (.inl rfl) e,mA,⟨od,es,ep,k _ _ (.inr d) e2,c⟩,r⟩
 | own y=>obtain⟨ob,e⟩:=x;exact⟨ob,k _ _ (.inl rfl) e⟩
 | xd fs=>obtain⟨mA,⟨od,es,ep,e,c⟩,r⟩:=x;exact⟨mA,⟨od,es,ep,k _ _ (.inl rfl) e,c⟩,r⟩
 | rng lo hi=>obtain⟨t,u,v,e⟩:=x;exact⟨t,u,v,k _ _ (.inl rfl) e⟩
 | frz ob u ih=>obtain⟨e,q⟩:=x;exact⟨k _ _ (.inl rfl) e,ih q⟩
 | tbl ps=>
  have e:h.get? a=some {cls:=.none,data:=.fields ps}:=x;show h'.get? a=some {cls:=.none,data:=.fields ps};exact k a _ (.inl rfl) e
 | met f y=>
  have e:h.get? a=some (PySem.W.methodObj (.ref f) (.ref y)):=x;show h'.get? a=some (PySem.W.methodObj (.ref f) (.ref y));exact k a _ (.inl rfl) e
 | ext φ=>obtain⟨p,⟨o,e⟩,st⟩:=x;exact⟨st _ _ p fun o q=>k _ _ (.inl rfl) q,⟨o,k _ _ (.inl rfl) e⟩,st⟩
theorem HOk.lt(x:HOk P w H h)(e:H a=some o):a<h.objs.size:=(x a o e).lt
theorem HOk.fresh(x:HOk P w H h)(e:h.objs.size<=a):H a=none:=by
 cases q:H a with
 | none=>rfl
 | some u=>exact absurd (MI (x.lt q) e) (NF _)
theorem HOk.kept(x:HOk P w H h)(k:∀ b u,h.get? b=some u->h'.get? b=some u):HOk P w H h':=fun a o e=>
 (x a o e).stay (fun b u _ q=>k b u q) (fun _ q=>q) fun _ _ q=>q
theorem HOk.laid(x:HOk P w H h)(k:∀ b u,h.get? b=some u->h'.get? b=some u)(hp:h.objs.size<=a)(new:ObjOk P w (upd H a o) h' a o):HOk P w (upd H a o) h':=fun b u e=>by
 have hn:=x.fresh hp;by_cases hb:b=a
 . subst hb;rw[ag] at e;cases e;exact new
 . rw[ai hb] at e;exact(x b u e).stay (fun c v _ q=>k c v q) (fun c q=>by rw[ai (az q hn)];exact q) fun c xs q=>by rw[ai (az q hn)];exact q
end
def Rd(H:Hp)(a:Addr)(u:HO):Prop:=H a=some u\/∃ o,H a=some (.frz o u)
variable{h:Heap}
theorem Rd.ok{P:Program}{w:World}{u:HO}(r:Rd H a u)(x:HOk P w H h):ObjOk P w H h a u:=by
 rcases r with r | ⟨o,r⟩
 . exact x a u r
 . obtain⟨_,q⟩:=x a _ r;exact q
def Mut:Option HO->Prop
 | some (.lst _)=>True
 | some (.dK _)=>True
 | some (.dT _)=>True
 | some (.set _ _)=>True
 | some (.ins _ _ _)=>True
 | some (.ext _)=>True
 | _=>False
section
variable{P:Program}{w:World}{H:Hp}{h h':Heap}{x e:Addr}{o':HO}
theorem HOk.write (ok:HOk P w H h) (mu:Mut (H x)) (he:e=x\/H e=some (.own x)) (k:∀ b u,b≠e->h.get? b=some u->h'.get? b=some u) (heo:∃ u,h'.get? e=some u)
  (new:ObjOk P w (upd H x o') h' x o'):HOk P w (upd H x o') h':=fun b u q=>by
 have nown:∀ c y,H c=some (.own y)->c≠x:=fun c y r z=>by subst z;rw[r] at mu;exact mu
 have ntup:∀ c xs,H c=some (.tup xs)->c≠x:=fun c xs r z=>by subst z;rw[r] at mu;exact mu
 by_cases hb:b=x
 . subst hb;rw[ag] at q;cases q;exact new
 . rw[ai hb] at q;by_cases hbe:b=e
   . have q':H b=some (.own x):=by
      rcases he with z | z
      . exact absurd (hbe.trans z) hb
      . rw[hbe];exact z
     rw[q] at q';cases q';obtain⟨v,hv⟩:=heo;exact⟨v,by rw[hbe];exact hv⟩
   . refine(ok b u q).stay (fun c v hc r=>k c v ?_ r) (fun c r=>by rw[ai (nown c b r)];exact r) fun c xs r=>by rw[ai (ntup c xs r)];exact r
     rcases hc with rfl | hc
     . exact hbe
     . rintro rfl;rcases he with z | z
       . exact nown c b hc z
       . rw[hc] at z;cases z;exact hb rfl
end
structure Un(fs ex:List Addr)(H H':Hp)(h h':Heap):Prop where
 keep:∀ b o,h.get? b=some o->H b=none->b∉fs->b∉ex->h'.get? b=some o
 slot:∀ b o,h.get? b=some o->H b=none->b∈fs->b∉ex->∃ sl,h'.get? b=some {o with slots:=sl}
 free:∀ b o,h.get? b=some o->H b=none->b∉ex->H' b=none
 there:∀ b o,h.get? b=some o->b∉ex->∃ o',h'.get? b=some o'
 tups:∀ b xs,H b=some (.tup xs)->H' b=some (.tup xs)
 frzs:∀ b o u,H b=some (.frz o u)->H' b=some (.frz o u)
 tbls:∀ b ps,H b=some (.tbl ps)->∃ more,H' b=some (.tbl (ps++more))
section
variable{fs fs' ex ex':List Addr}{H H1 H2:Hp}{h h1 h2 h':Heap}{a x e:Addr}{o:HO}
theorem Un.any(u:Un fs ex H H1 h h1){b:Addr}{ob:Obj}(q:h.get? b=some ob)(n:H b=none)(hx:b∉ex):∃ sl,h1.get? b=some {ob with slots:=sl}:=by
 by_cases hb:b∈fs
 . exact u.slot b ob q n hb hx
 . exact⟨ob.slots,u.keep b ob q n hb hx⟩
theorem Un.kept(k:∀ b u,h.get? b=some u->h'.get? b=some u):Un fs ex H H h h':=
 ⟨fun b ob q _ _ _=>k b ob q,fun b ob q _ _ _=>⟨ob.slots,k b ob q⟩,fun _ _ _ n _=>n,fun b ob q _=>⟨ob,k b ob q⟩,fun _ _ q=>q,fun _ _ _ q=>q,fun _ ps q=>⟨#[],by rw[q];simp⟩⟩
theorem Un.refl:Un fs ex H H h h:=Un.kept fun _ _ q=>q
theorem Un.laid(k:∀ b u,h.get? b=some u->h'.get? b=some u)(hp:h.objs.size<=a)(hn:H a=none):Un fs ex H (upd H a o) h h' where
 keep:=fun b u q _ _ _=>k b u q
 slot:=fun b u q _ _ _=>⟨u.slots,k b u q⟩
 free:=fun b u q n _=>by rw[ai (MT (MI (MC q) hp))];exact n
 there:=fun b u q _=>⟨u,k b u q⟩
 tups:=fun b xs q=>by rw[ai (az q hn)];exact q
 frzs:=fun b u xs q=>by rw[ai (az q hn)];exact q
 tbls:=fun b ps q=>⟨#[],by rw[ai (az q hn),q];simp⟩
theorem Un.write(mu:Mut (H x))(he:e=x\/H e=some (.own x))(k:∀ b u,b≠e->h.get? b=some u->h'.get? b=some u)(heo:∃ u,h'.get? e=some u):Un fs ex H (upd H x o) h h':=by
 have hx:∀ b,H b=none->b≠x:=fun b n z=>by subst z;rw[n] at mu;exact mu
 have hb:∀ b,H b=none->b≠e:=fun b n z=>by
  subst z;rcases he with r | r
  . exact hx b n r
  . rw[n] at r;cases r
 have hm:∀ b u,H b=some u->¬ Mut (some u)->b≠x:=fun b u q nm z=>by subst z;rw[q] at mu;exact nm mu
 refine⟨fun b u q n _ _=>k b u (hb b n) q,fun b u q n _ _=>⟨u.slots,k b u (hb b n) q⟩,fun b u q n _=>by rw[ai (hx b n)];exact n,fun b u q _=>?_,
  fun b xs q=>by rw[ai (hm b _ q fun z=>z)];exact q,fun b u xs q=>by rw[ai (hm b _ q fun z=>z)];exact q,fun b ps q=>⟨#[],by rw[ai (hm b _ q fun z=>z),q];simp⟩⟩
 by_cases hbe:b=e
 . subst hbe;exact heo
 . exact⟨u,k b u hbe q⟩
end
def trk(h:Heap)(H:Hp):List Addr:=(List.range h.objs.size).filter fun a=>(H a).isSome
def hidT(h:Heap)(H:Hp):Heap:=PySem.W.hideAll h (trk h H)
theorem CY(h:Heap)(H:Hp):(hidT h H).objs.size=h.objs.size:=PySem.W.hideAll_size _ _
theorem EL{o:Obj}(e:h.get? b=some o)(n:H b=none):(hidT h H).get? b=some o:=
 PySem.W.hideAll_get _ e fun hm=>by
  have q:(H b).isSome=true:=(L8.mp hm).2;rw[n] at q;simp at q
theorem FN{o:Obj}(e:(hidT h H).get? b=some o):h.get? b=some o/\H b=none:=by
 have e':h.get? b=some o:=PySem.W.of_hideAll (trk h H) e;refine⟨e',?_⟩
 cases q:H b with
 | none=>rfl
 | some x=>
  have hm:b∈trk h H:=L8.mpr ⟨Mb.mpr (MC e'),by simp[q]⟩;have z:(hidT h H).get? b=none:=PySem.W.hideAll_none (trk h H) hm;rw[z] at e;cases e
structure Mod(K:Frag)(mg:Str->Option Value)(base:Heap):Prop where
 kin:K.In base
 glob:base.Ns mainGlobals mg
 blt:∃ mb,base.Ns builtinsNs mb/\∀ x:Str,x≠"__name__"->mb x=bootBuiltins x
 nolimit:base.NoLimit
structure Cx where
 prog:Program
 w:World
 K:Frag
 mg:Str->Option Value
 base:Heap
 A:Around
 N:List Str
 s₀:Shared
 H₀:Hp
 env:Env
 outer:List Env
 stack:List Env
 ex:List Addr
 fn:Str->Bool
 calm:Bool
 pn:List (Addr × Obj)
 xe:Value->Shared->Prop
def frs(l:List Env):List Addr:=l.filterMap (·.frame)
abbrev Cx.fs(X:Cx):List Addr:=frs X.outer
def Vis(sc:Scope)(x:Str):Prop:=sc.names.lookup x=some .local\/sc.names.lookup x=some .cell\/sc.names.lookup x=some .free
def Loc(sc:Scope)(x:Str):Prop:=sc.names.lookup x=some .local\/sc.names.lookup x=some .cell
def Look(env:Env)(h:Heap)(m:Str->Option Value)(x:Str)(u:Value):Prop:=
 (env.kindOf x=some .local/\m x=some u)\/((env.kindOf x=some .cell\/env.kindOf x=some .free)/\∃ c,env.cells.lookup x=some c/\h.IsCell c (some u))
structure Cx.Ok(X:Cx):Prop where
 mod:Mod X.K X.mg X.base
 kind:X.env.scope.kind=.function
 glob:X.env.globals=mainGlobals
 blt:X.env.builtins=builtinsNs
 above:X.s₀.heap.objs.size<=X.env.locals
 inj:∀ x y c,X.env.cells.lookup x=some c->X.env.cells.lookup y=some c->x=y
 has:∀ x,(X.env.kindOf x=some .cell\/X.env.kindOf x=some .free)->∃ c,X.env.cells.lookup x=some c
 cab:∀ x c,X.fn x=true->X.env.cells.lookup x=some c->X.s₀.heap.objs.size<=c
 hd:X.calm=true->X.A.handled=none
 frames:X.A.frames=some X.stack
 stk:X.stack=X.outer\/(X.stack=X.env::X.outer/\X.env.frame=some X.env.locals)
 exf:∀ b∈X.ex,b≠X.env.locals/\∀ x c,X.env.cells.lookup x=some c->c≠b
 bs:∀ b o,X.base.get? b=some o->X.s₀.heap.get? b=some o/\X.H₀ b=none
 bsz:X.base.objs.size<=X.s₀.heap.objs.size
 noex:∀ b o,X.base.get? b=some o->b∉X.ex
 exfs:∀ b∈X.ex,b∉X.fs
 funs:X.s₀.heap.FunFrames X.base X.outer
 frf:∀ b∈X.fs,X.H₀ b=none
structure Inv(X:Cx)(LJ:List (Addr × Obj))(σ:List (Option V))(H:Hp)(s:Shared):Prop where
 ok:X.Ok
 os:s.os=X.s₀.os
 bare:AllBare s.gens
 base:Un X.fs X.ex X.H₀ H X.s₀.heap s.heap
 loc:∃ m,s.heap.Ns X.env.locals m/\∀(i:Nat) (x:Str) (v:V),X.N[i]? =some x->σ[i]? =some (some v)->Vis X.env.scope x->∃ u,RelV v u/\Look X.env s.heap m x u
 cell:∀ x c,X.env.cells.lookup x=some c->∃ v,s.heap.IsCell c v
 free:H X.env.locals=none
 freeC:∀ x c,X.env.cells.lookup x=some c->H c=none
 pin:∀ p∈X.pn++LJ,s.heap.get? p.1=some p.2/\H p.1=none/\p.1≠X.env.locals/\p.1∉X.fs/\∀ v,p.2.data≠.cell v
 hok:HOk X.prog X.w H s.heap
 len:σ.length=X.N.length
section
variable{X:Cx}{LJ:List (Addr × Obj)}{σ:List (Option V)}{H H':Hp}{s:Shared}{h':Heap}
theorem Cx.Ok.nofr(ok:X.Ok){b:Addr}{o:Obj}(e:X.base.get? b=some o):b∉X.fs:=fun hb=>by
 have:=(ok.funs.mem hb).1;rw[e] at this;cases this
theorem Inv.bs(I:Inv X LJ σ H s):∀ b o,X.base.get? b=some o->s.heap.get? b=some o/\H b=none:=fun b o e=>
 ⟨I.base.keep b o (I.ok.bs b o e).1 (I.ok.bs b o e).2 (I.ok.nofr e) (I.ok.noex b o e),I.base.free b o (I.ok.bs b o e).1 (I.ok.bs b o e).2 (I.ok.noex b o e)⟩
theorem Inv.bk(I:Inv X LJ σ H s):∀ b o,X.base.get? b=some o->s.heap.get? b=some o:=fun b o e=>(I.bs b o e).1
theorem Inv.mod(I:Inv X LJ σ H s):Mod X.K X.mg X.base:=I.ok.mod
theorem Inv.kIn(I:Inv X LJ σ H s):X.K.In s.heap:=I.ok.mod.kin.keeps I.bk
theorem Inv.lt(I:Inv X LJ σ H s):X.env.locals<s.heap.objs.size:=let ⟨_,hn,_⟩:=I.loc;hn.lt
theorem Inv.sz(I:Inv X LJ σ H s):X.s₀.heap.objs.size<=s.heap.objs.size:=Mi I.ok.above (MS I.lt)
theorem Inv.nofs(I:Inv X LJ σ H s){a:Addr}(h:s.heap.objs.size<=a):a∉X.fs:=fun hb=>by
 obtain⟨_,o,ho,_⟩:=I.ok.funs.mem hb;exact absurd (MI (MC ho) (Mi I.sz h)) (NF _)
theorem Inv.cne(I:Inv X LJ σ H s):∀ x c,X.env.cells.lookup x=some c->c≠X.env.locals:=fun x c e z=>by
 obtain⟨v,o,ho,hd⟩:=I.cell x c e;obtain⟨m,⟨o',es,ep,ho',hd',_⟩,_⟩:=I.loc;rw[z,ho'] at ho;cases ho;rw[hd'] at hd;cases hd
theorem Inv.funs(I:Inv X LJ σ H s):s.heap.FunFrames X.base X.outer:=by
 have all:∀(l:List Env),(∀ b∈frs l,b∈X.fs)->X.s₀.heap.FunFrames X.base l->s.heap.FunFrames X.base l:=by
  intro l
  induction l with
  | nil=>intro _ _;trivial
  | cons env r ih=>
   intro hs hl;obtain⟨hk,⟨L,o,hf,hn,ho,hd⟩,hr⟩:=hl;have hL:L∈X.fs:=hs L (by unfold frs;rw[OP,hf];exact Mf);obtain⟨sl,e⟩:=I.base.slot L o ho (I.ok.frf L hL) hL fun z=>I.ok.exfs L z hL;exact⟨hk,⟨L,_,hf,hn,e,hd⟩,ih (fun b hb=>hs b (by unfold frs;rw[OP,hf];exact Mc _ hb)) hr⟩
 exact all X.outer (fun _ hb=>hb) I.ok.funs
theorem Inv.stack(I:Inv X LJ σ H s):s.heap.FunFrames X.base X.stack:=by
 rcases I.ok.stk with e | ⟨e,hf⟩
 . rw[e];exact I.funs
 . rw[e];obtain⟨m,hn,_⟩:=I.loc;refine .cons (by rw[I.ok.kind];decide) hf hn ?_ I.funs;exact Heap.get?_none_of_le (Mi I.ok.bsz I.ok.above)
theorem Inv.stkSub(I:Inv X LJ σ H s):∀ b∈frs X.stack,b∈X.env.locals::X.fs:=fun b hb=>by
 rcases I.ok.stk with e | ⟨e,hf⟩
 . rw[e] at hb;exact Mc _ hb
 . rw[e] at hb;unfold frs at hb;rw[OP,hf] at hb;exact hb
theorem Inv.stkFree(I:Inv X LJ σ H s):∀ b∈frs X.stack,H b=none:=fun b hb=>by
 rcases Mn.mp (I.stkSub b hb) with e | hb
 . rw[e];exact I.free
 . obtain⟨_,o,ho,_⟩:=I.ok.funs.mem hb;exact I.base.free b o ho (I.ok.frf b hb) fun z=>I.ok.exfs b z hb
theorem Inv.step {g':Array GenState} {t':Nat} {d':Drawn} {ch:List Addr} (I:Inv X LJ σ H s)
  (hch:∀ b∈ch,(b∈X.ex\/X.s₀.heap.objs.size<=b)/\b≠X.env.locals/\(∀ x c,X.env.cells.lookup x=some c->c≠b)/\∀ p∈X.pn++LJ,p.1≠b)
  (keep:∀ b o,b≠X.env.locals->b∉X.fs->b∉ch->s.heap.get? b=some o->H b=none->h'.get? b=some o)
  (slot:∀ b o,b≠X.env.locals->b∈X.fs->b∉ch->s.heap.get? b=some o->H b=none->∃ sl,h'.get? b=some {o with slots:=sl}) (free:∀ b o,b∉ch->s.heap.get? b=some o->H b=none->H' b=none)
  (there:∀ b o,b∉ch->s.heap.get? b=some o->∃ o',h'.get? b=some o')
  (tups:∀ b xs,H b=some (.tup xs)->H' b=some (.tup xs)) (frzs:∀ b o u,H b=some (.frz o u)->H' b=some (.frz o u)) (tbls:∀ b ps,H b=some (.tbl ps)->∃ more,H' b=some (.tbl (ps++more)))
  (ns:∀ m,s.heap.Ns X.env.locals m->h'.Ns X.env.locals m) (hok:HOk X.prog X.w H' h') (hg:AllBare g'):
  Inv X LJ σ H' {s with heap:=h',gens:=g',drawn:=d',toks:=t'}:=by
 have neL:∀ b o,X.s₀.heap.get? b=some o->b≠X.env.locals:=fun b o e=>MT (MI (MC e) I.ok.above)
 have neC:∀ b o,X.s₀.heap.get? b=some o->b∉X.ex->b∉ch:=fun b o e hx hb=>by
  rcases(hch b hb).1 with z | z
  . exact hx z
  . exact absurd (MI (MC e) z) (NF _)
 have cellK:∀ x c,X.env.cells.lookup x=some c->∀ v,s.heap.IsCell c v->h'.IsCell c v:=fun x c e v ⟨o,ho,hd⟩=>by
  have nch:c∉ch:=fun z=>(hch c z).2.2.1 x c e rfl;by_cases hc:c∈X.fs
  . obtain⟨sl,q⟩:=slot c o (I.cne x c e) hc nch ho (I.freeC x c e);exact⟨_,q,hd⟩
  . exact⟨o,keep c o (I.cne x c e) hc nch ho (I.freeC x c e),hd⟩
 refine⟨I.ok,I.os,hg,⟨fun b o e n hb hx=>?_,fun b o e n hb hx=>?_,fun b o e n hx=>?_,fun b o e hx=>?_,fun b xs e=>tups b xs (I.base.tups b xs e),fun b o xs e=>frzs b o xs (I.base.frzs b o xs e),fun b ps e=>?_⟩,?_,fun x c e=>?_,?_,fun x c e=>?_,fun p hp=>?_,hok,I.len⟩
 . exact keep b o (neL b o e) hb (neC b o e hx) (I.base.keep b o e n hb hx) (I.base.free b o e n hx)
 . obtain⟨sl,e1⟩:=I.base.slot b o e n hb hx;obtain⟨sl',e2⟩:=slot b _ (neL b o e) hb (neC b o e hx) e1 (I.base.free b o e n hx);exact⟨sl',e2⟩
 . obtain⟨o',e1⟩:=I.base.there b o e hx;exact free b o' (neC b o e hx) e1 (I.base.free b o e n hx)
 . obtain⟨o',e1⟩:=I.base.there b o e hx;exact there b o' (neC b o e hx) e1
 . obtain⟨m1,e1⟩:=I.base.tbls b ps e;obtain⟨m2,e2⟩:=tbls b _ e1;exact⟨m1++m2,by rw[e2,Array.append_assoc]⟩
 . obtain⟨m,hn,hl⟩:=I.loc;refine⟨m,ns m hn,fun i x v e1 e2 e3=>?_⟩;obtain⟨u,r,l⟩:=hl i x v e1 e2 e3;refine⟨u,r,?_⟩;rcases l with l | ⟨k,c,e,z⟩
   . exact .inl l
   . exact .inr ⟨k,c,e,cellK x c e _ z⟩
 . obtain⟨v,z⟩:=I.cell x c e;exact⟨v,cellK x c e v z⟩
 . obtain⟨m,⟨o,_,_,ho,_⟩,_⟩:=I.loc;exact free _ o (fun z=>(hch _ z).2.1 rfl) ho I.free
 . obtain⟨v,o,ho,hd⟩:=I.cell x c e;exact free c o (fun z=>(hch c z).2.2.1 x c e rfl) ho (I.freeC x c e)
 . obtain⟨e,n,ne,nf,d⟩:=I.pin p hp;have nch:p.1∉ch:=fun z=>(hch p.1 z).2.2.2 p hp rfl;exact⟨keep p.1 p.2 ne nf nch e n,free p.1 p.2 nch e n,ne,nf,d⟩
theorem Inv.un{t':Nat}(I:Inv X LJ σ H s)(u:Un X.fs [] H H' s.heap h')(hok:HOk X.prog X.w H' h'):Inv X LJ σ H' {s with heap:=h',toks:=t'}:=by
 obtain⟨m,⟨o,es,ep,ho,r⟩,_⟩:=id I.loc;obtain⟨sl,hL⟩:=u.any ho I.free (by simp)
 exact I.step (g':=s.gens) (d':=s.drawn) (ch:=[]) (fun _ z=>nomatch z) (fun b o _ hb _ e n=>u.keep b o e n hb (by simp)) (fun b o _ hb _ e n=>u.slot b o e n hb (by simp)) (fun b o _ e n=>u.free b o e n (by simp)) (fun b o _ e=>u.there b o e (by simp)) u.tups u.frzs u.tbls (fun m' hm=>by
  obtain⟨o',es',ep',ho',r'⟩:=hm;rw[ho] at ho';cases ho';exact⟨_,es',ep',hL,r'⟩) hok I.bare
theorem Inv.call {g':Array GenState} {t':Nat} {d':Drawn} {ch:List Addr} (I:Inv X LJ σ H s) (u:Un (frs X.stack) ch H H' s.heap h') (hok:HOk X.prog X.w H' h') (hg:AllBare g')
  (hch:∀ b∈ch,(b∈X.ex\/X.s₀.heap.objs.size<=b)/\b≠X.env.locals/\(∀ x c,X.env.cells.lookup x=some c->c≠b)/\∀ p∈X.pn++LJ,p.1≠b):
  Inv X LJ σ H' {s with heap:=h',gens:=g',drawn:=d',toks:=t'}:=by
 obtain⟨m,⟨o,es,ep,ho,r⟩,_⟩:=id I.loc;obtain⟨sl,hL⟩:=u.any ho I.free fun z=>(hch _ z).2.1 rfl
 exact I.step (ch:=ch) hch (fun b o hL hb hc e n=>u.keep b o e n (fun z=>(Mn.mp (I.stkSub b z)).elim hL hb) hc) (fun b o _ _ hc e n=>u.any e n hc) (fun b o hc e n=>u.free b o e n hc) (fun b o hc e=>u.there b o e hc) u.tups u.frzs u.tbls (fun m' hm=>by
  obtain⟨o',es',ep',ho',r'⟩:=hm;rw[ho] at ho';cases ho';exact⟨_,es',ep',hL,r'⟩) hok hg
theorem Inv.turned {t':Nat} {it:Addr} (I:Inv X LJ σ H s) (k:∀ b o,b≠it->s.heap.get? b=some o->h'.get? b=some o) (hn:H it=none) (hL:it≠X.env.locals)
  (h1:it∈X.ex\/X.s₀.heap.objs.size<=it) (h2:∀ x c,X.env.cells.lookup x=some c->c≠it) (h3:∀ p∈X.pn++LJ,p.1≠it):Inv X LJ σ H {s with heap:=h',toks:=t'}:=by
 have nit:∀ b u,H b=some u->b≠it:=fun b u e z=>by rw[z,hn] at e;cases e
 refine I.step (g':=s.gens) (d':=s.drawn) (ch:=[it]) (fun b hb=>?_) (fun b o _ _ hc e _=>k b o (fun z=>hc (by simp[z])) e) (fun b o _ _ hc e _=>⟨o.slots,k b o (fun z=>hc (by simp[z])) e⟩) (fun _ _ _ _ n=>n)
  (fun b o hc e=>⟨o,k b o (fun z=>hc (by simp[z])) e⟩) (fun _ _ e=>e) (fun _ _ _ e=>e) (fun b ps e=>⟨#[],by rw[e];simp⟩) (fun m hm=>?_) (fun b u e=>?_) I.bare
 . have e:b=it:=by simpa using hb
   subst e;exact⟨h1,hL,h2,h3⟩
 . obtain⟨o,es,ep,ho,r⟩:=hm;exact⟨o,es,ep,k _ o (Pc hL) ho,r⟩
 . refine(I.hok b u e).stay (fun c v hc q=>k c v ?_ q) (fun _ q=>q) fun _ _ q=>q;rcases hc with z | z
   . rw[z];exact nit b u e
   . exact nit c _ z
theorem Inv.tok(I:Inv X LJ σ H s)(t:Nat):Inv X LJ σ H {s with toks:=t}:=I.un (h':=s.heap) (t':=t) Un.refl I.hok
theorem Inv.kept{t':Nat}(I:Inv X LJ σ H s)(k:∀ b u,s.heap.get? b=some u->h'.get? b=some u):Inv X LJ σ H {s with heap:=h',toks:=t'}:=I.un (Un.kept k) (I.hok.kept k)
theorem Inv.laid{a:Addr}{o:HO}{t':Nat}(I:Inv X LJ σ H s)(k:∀ b u,s.heap.get? b=some u->h'.get? b=some u)(hp:s.heap.objs.size<=a)(new:ObjOk X.prog X.w (upd H a o) h' a o):
  Inv X LJ σ (upd H a o) {s with heap:=h',toks:=t'}:=I.un (Un.laid k hp (I.hok.fresh hp)) (I.hok.laid k hp new)
theorem Inv.write {x e:Addr} {o:HO} {t':Nat} (I:Inv X LJ σ H s) (mu:Mut (H x)) (he:e=x\/H e=some (.own x)) (k:∀ b u,b≠e->s.heap.get? b=some u->h'.get? b=some u) (heo:∃ u,h'.get? e=some u)
  (new:ObjOk X.prog X.w (upd H x o) h' x o):Inv X LJ σ (upd H x o) {s with heap:=h',toks:=t'}:=I.un (Un.write mu he k heo) (I.hok.write mu he k heo new)
theorem Inv.pins_of{pins':List (Addr × Obj)}(I:Inv X LJ σ H s)(h:∀ p∈pins',s.heap.get? p.1=some p.2/\H p.1=none/\p.1≠X.env.locals/\p.1∉X.fs/\∀ v,p.2.data≠.cell v):Inv X pins' σ H s:=
 ⟨I.ok,I.os,I.bare,I.base,I.loc,I.cell,I.free,I.freeC,fun p hp=>(Mj.mp hp).elim (fun z=>I.pin p (N4 _ z)) (h p),I.hok,I.len⟩
theorem y8{N:List Str}(hN:N.Nodup){i j:Nat}{x:Str}(a:N[i]? =some x)(b:N[j]? =some x):i=j:=by
 obtain⟨h1,e1⟩:=L1.mp a;obtain⟨h2,e2⟩:=L1.mp b;exact(List.getElem_inj hN).mp (e1.trans e2.symm)
theorem xC {M:Model} {A:Around} {E:Value->Shared->Prop} {i:Nat} {x:Str} {v:V} {u:Value} {Q:Unit->Shared->Prop} (I:Inv X LJ σ H s) (hN:X.N.Nodup) (hi:X.N[i]? =some x) (hx:Loc X.env.scope x) (r:RelV v u)
  (h:∀ s',Inv X LJ (σ.set i (some v)) H s'->(∃ a,Heap.SameBut a s.heap s'.heap/\(a=X.env.locals\/X.env.cells.lookup x=some a))->Q () s') (hf:X.fn x=true\/X.env.scope.names.lookup x=some .local:=by first | exact .inl rfl | exact .inr rfl | assumption):wpAny M A (storeName X.env x u) Q E s:=by
 obtain⟨m,hn,hl⟩:=id I.loc;have hcls:(X.env.scope.kind==.class||(X.env.scope.kind==.module&&X.env.locals != X.env.globals))=false:=by rw[I.ok.kind];rfl
 have hiσ:i<σ.length:=by rw[I.len];exact(L1.mp hi).1
 have cne:=I.cne
 have tracked:∀{a:Addr} {h':Heap},(∃ o,s.heap.get? a=some o/\H a=none)->Heap.SameBut a s.heap h'->HOk X.prog X.w H h':=fun{a h'} ha hs b ob e=>by
  obtain⟨_,_,hfree⟩:=ha;refine(I.hok b ob e).stay (fun c w' hc q=>(hs.2 c ?_).trans q) (fun _ q=>q) fun _ _ q=>q;rintro rfl;rcases hc with rfl | hc
  . rw[hfree] at e;cases e
  . rw[hfree] at hc;cases hc
 rcases hx with hk | hk
 . refine wpAny_storeName_local hk hn (fun h' hn' hs=>?_) hcls;obtain⟨oL,_,_,hoL,_⟩:=id hn;refine h _ ⟨I.ok,I.os,I.bare,⟨fun b o e n hb hx=>?_,fun b o e n hb hx=>?_,I.base.free,fun b o e hx=>?_,I.base.tups,I.base.frzs,I.base.tbls⟩,⟨_,hn',fun j y v' e1 e2 e3=>?_⟩,fun y c e=>?_,I.free,I.freeC,fun p hp=>?_,tracked ⟨oL,hoL,I.free⟩ hs,by simpa using I.len⟩ ⟨_,hs,.inl rfl⟩
   . exact(hs.2 b (MT (MI (MC e) I.ok.above))).trans (I.base.keep b o e n hb hx)
   . obtain⟨sl,e1⟩:=I.base.slot b o e n hb hx;exact⟨sl,(hs.2 b (MT (MI (MC e) I.ok.above))).trans e1⟩
   . obtain⟨o',e1⟩:=I.base.there b o e hx;exact⟨o',(hs.2 b (MT (MI (MC e) I.ok.above))).trans e1⟩
   . by_cases hj:j=i
     . subst hj;rw[hi] at e1;cases e1;rw[Pn hiσ] at e2;cases e2;exact⟨u,r,.inl ⟨hk,by simp⟩⟩
     . rw[List.getElem?_set_ne (Pc hj)] at e2;obtain⟨u',r',q⟩:=hl j y v' e1 e2 e3;refine⟨u',r',?_⟩;rcases q with ⟨k,e⟩ | ⟨k,c,e,z⟩
       . refine .inl ⟨k,?_⟩;have:y≠x:=fun e=>hj (y8 hN e1 (e ▸ hi));simp[this,e]
       . exact .inr ⟨k,c,e,z.sameBut hs (cne y c e)⟩
   . obtain⟨w',z⟩:=I.cell y c e;exact⟨w',z.sameBut hs (cne y c e)⟩
   . obtain⟨e,n,ne,nf,d⟩:=I.pin p hp;exact⟨(hs.2 p.1 ne).trans e,n,ne,nf,d⟩
 . have hfn:X.fn x=true:=by
    rcases hf with z | z
    . exact z
    . rw[z] at hk;cases hk
   obtain⟨c,hc⟩:=I.ok.has x (.inl hk);obtain⟨w',z⟩:=I.cell x c hc;refine wpAny_storeName_cell I.ok.kind hk hc z (fun h' hc' hs=>?_);obtain⟨oc,hoc,hocd⟩:=id z;refine h {s with heap:=h'} ⟨I.ok,I.os,I.bare,⟨fun b o e n hb hx=>?_,fun b o e n hb hx=>?_,I.base.free,fun b o e hx=>?_,I.base.tups,I.base.frzs,I.base.tbls⟩,⟨m,hn.sameBut hs (Pc (cne x c hc)),fun j y v' e1 e2 e3=>?_⟩,fun y c' e=>?_,I.free,I.freeC,fun p hp=>?_,tracked ⟨oc,hoc,I.freeC x c hc⟩ hs,by simpa using I.len⟩ ⟨c,hs,.inr hc⟩
   . exact(hs.2 b (MT (MI (MC e) (I.ok.cab x c hfn hc)))).trans (I.base.keep b o e n hb hx)
   . obtain⟨sl,e1⟩:=I.base.slot b o e n hb hx;exact⟨sl,(hs.2 b (MT (MI (MC e) (I.ok.cab x c hfn hc)))).trans e1⟩
   . obtain⟨o',e1⟩:=I.base.there b o e hx;exact⟨o',(hs.2 b (MT (MI (MC e) (I.ok.cab x c hfn hc)))).trans e1⟩
   . by_cases hj:j=i
     . subst hj;rw[hi] at e1;cases e1;rw[Pn hiσ] at e2;cases e2;exact⟨u,r,.inr ⟨.inl hk,c,hc,hc'⟩⟩
     . rw[List.getElem?_set_ne (Pc hj)] at e2;obtain⟨u',r',q⟩:=hl j y v' e1 e2 e3;refine⟨u',r',?_⟩;rcases q with q | ⟨k,c',e,z'⟩
       . exact .inl q
       . refine .inr ⟨k,c',e,z'.sameBut hs ?_⟩;rintro rfl;exact hj (y8 hN e1 (I.ok.inj _ _ _ e hc ▸ hi))
   . by_cases hcc:c'=c
     . subst hcc;exact⟨_,hc'⟩
     . obtain⟨w2,z2⟩:=I.cell y c' e;exact⟨w2,z2.sameBut hs hcc⟩
   . obtain⟨e,n,ne,nf,d⟩:=I.pin p hp;refine⟨(hs.2 p.1 ?_).trans e,n,ne,nf,d⟩;intro q;rw[q,hoc] at e;have q':oc=p.2:=Nq e;exact d w' (by rw[← q'];exact hocd)
theorem y9 {M:Model} {A:Around} {E:Value->Shared->Prop} {i:Nat} {x:Str} {v:V} {u:Value} {Q:Unit->Shared->Prop} (I:Inv X LJ σ H s) (hN:X.N.Nodup) (hi:X.N[i]? =some x) (hx:Loc X.env.scope x) (r:RelV v u)
  (h:∀ s',Inv X LJ (σ.set i (some v)) H s'->Q () s') (hf:X.fn x=true\/X.env.scope.names.lookup x=some .local:=by first | exact .inl rfl | exact .inr rfl | assumption):wpAny M A (storeName X.env x u) Q E s:=
 xC I hN hi hx r (fun s' I' _=>h s' I') hf
theorem Inv.call' {s':Shared} {ch:List Addr} (I:Inv X LJ σ H s) (ho:s'.os=s.os) (u:Un (frs X.stack) ch H H' s.heap s'.heap) (hok:HOk X.prog X.w H' s'.heap) (hg:AllBare s'.gens)
  (hch:∀ b∈ch,(b∈X.ex\/X.s₀.heap.objs.size<=b)/\b≠X.env.locals/\(∀ x c,X.env.cells.lookup x=some c->c≠b)/\∀ p∈X.pn++LJ,p.1≠b):Inv X LJ σ H' s':=by
 obtain⟨h',g',d',t',o'⟩:=s';have e:o'=s.os:=ho;subst e;exact I.call (g':=g') (t':=t') (d':=d') u hok hg hch
end
abbrev XK:=Value->Option Addr->Hp->Prop
abbrev St:=List (Option V)
abbrev VK:=V->Hp->Prop
abbrev TE:=St->Hp->VK->Prop
abbrev TT:=St->Hp->(Bool->Hp->Prop)->Prop
abbrev TA:=St->Hp->(List V->Hp->Prop)->Prop
structure Ends where
 nx:St->Hp->Prop
 rt:VK
 bk:St->Hp->Prop:=fun _ _=>False
 ct:St->Hp->Prop:=fun _ _=>False
abbrev TS:=Ends->St->Hp->Prop
def EP(X:Cx)(LJ:List (Addr × Obj))(σ:St)(Q:VK)(u:Value)(s':Shared):Prop:=∃ v H',Inv X LJ σ H' s'/\RelV v u/\Q v H'
def TP(X:Cx)(LJ:List (Addr × Obj))(σ:St)(Q:Bool->Hp->Prop)(b:Bool)(s':Shared):Prop:=∃ H',Inv X LJ σ H' s'/\Q b H'
def AP(X:Cx)(LJ:List (Addr × Obj))(σ:St)(Q:List V->Hp->Prop)(us:List Value)(s':Shared):Prop:=∃ vs H',Inv X LJ σ H' s'/\Vals vs us/\Q vs H'
def SP(X:Cx)(LJ:List (Addr × Obj))(D:Ends)(f:Flow)(s':Shared):Prop:=
 match f with
 | .next=>∃ σ' H',Inv X LJ σ' H' s'/\D.nx σ' H'
 | .brk=>∃ σ' H',Inv X LJ σ' H' s'/\D.bk σ' H'
 | .cont=>∃ σ' H',Inv X LJ σ' H' s'/\D.ct σ' H'
 | .ret u=>∃ v σ' H',Inv X LJ σ' H' s'/\RelV v u/\D.rt v H'
def PE(X:Cx)(e:Expr)(t:TE):Prop:=
 ∀(LJ:List (Addr × Obj)) (s:Shared) (σ:St) (H:Hp) (Q:VK),Inv X LJ σ H s->t σ H Q->wpAny (model X.prog X.w) X.A (eval e X.env) (EP X LJ σ Q) X.xe s
def PT(X:Cx)(e:Expr)(t:TT):Prop:=
 ∀(LJ:List (Addr × Obj)) (s:Shared) (σ:St) (H:Hp) (Q:Bool->Hp->Prop),Inv X LJ σ H s->t σ H Q->wpAny (model X.prog X.w) X.A (isTrue e X.env (eval e X.env)) (TP X LJ σ Q) X.xe s
def PW(X:Cx)(e:Expr)(t:TT):Prop:=
 ∀(LT:Sem Value) (LJ:List (Addr × Obj)) (s:Shared) (σ:St) (H:Hp) (Q:Bool->Hp->Prop),Inv X LJ σ H s->t σ H Q->wpAny (model X.prog X.w) X.A (isTrue e X.env LT) (TP X LJ σ Q) X.xe s
theorem PW.pt{X:Cx}{e:Expr}{t:TT}(h:PW X e t):PT X e t:=h _
abbrev OI:=@PW.pt
def PA(X:Cx)(es:List Expr)(t:TA):Prop:=
 ∀(pos:Pos) (LJ:List (Addr × Obj)) (s:Shared) (σ:St) (H:Hp) (Q:List V->Hp->Prop),Inv X LJ σ H s->t σ H Q->wpAny (model X.prog X.w) X.A (spliced (backTo pos (starEach es X.env))) (AP X LJ σ Q) X.xe s
def PS(X:Cx)(st:Stmt)(t:TS):Prop:=
 ∀(LJ:List (Addr × Obj)) (s:Shared) (σ:St) (H:Hp) (D:Ends),Inv X LJ σ H s->t D σ H->wpAny (model X.prog X.w) X.A (exec st X.env) (SP X LJ D) X.xe s
def PSs(X:Cx)(st:List Stmt)(t:TS):Prop:=
 ∀(LJ:List (Addr × Obj)) (s:Shared) (σ:St) (H:Hp) (D:Ends),Inv X LJ σ H s->t D σ H->wpAny (model X.prog X.w) X.A (execs st X.env) (SP X LJ D) X.xe s
theorem thn{α:Type}{t:Sem α}{Q Q':α->Shared->Prop}{M:Model}{A:Around}{E:Value->Shared->Prop}{s:Shared}(h:wpAny M A t Q E s)(hQ:∀ a s,Q a s->Q' a s):wpAny M A t Q' E s:=Nh h hQ fun _ _ x=>x
section
variable{X:Cx}
def vB:Option (Option V)->(V->Prop)->Prop
 | some (some v),k=>k v
 | _,_=>False
theorem FB{o:Option (Option V)}{k:V->Prop}(h:vB o k):∃ v,o=some (some v)/\k v:=by
 rcases o with _ | _ | v
 . cases h
 . cases h
 . exact⟨v,rfl,h⟩
theorem pC{o:Option (Option V)}{k:V->Prop}{v:V}(e:o=some (some v))(h:k v):vB o k:=by subst e;exact h
def tVar(i:Nat):TE:=fun σ H Q=>vB σ[i]? fun v=>Q v H
def tC(v:V):TE:=fun _ H Q=>Q v H
theorem GO{i:Nat}{x:Str}{pos:Pos}(hN:X.N[i]? =some x)(hv:Vis X.env.scope x)(hd:(x==("__debug__":Str))=false:=by decide)(hcd:(x==("__classdict__":Str))=false:=by decide):PE X (.Name x pos) (tVar i):=by
 intro LJ s σ H Q I h;obtain⟨v,e,h⟩:=FB h;obtain⟨m,hn,hl⟩:=I.loc;obtain⟨u,r,l⟩:=hl i x v hN e hv;have fin:EP X LJ σ Q u s:=⟨v,H,I,r,h⟩;rcases l with ⟨hk,hm⟩ | ⟨hk,c,hc,hcell⟩
 . exact wpAny_Name (wpAny_loadName_local I.ok.kind hk hn hm fin) hd
 . rcases hk with hk | hk
   . exact wpAny_Name (wpAny_loadName_cell I.ok.kind hk hc hcell fin) hd
   . exact wpAny_Name (wpAny_loadName_free I.ok.kind hk hc hcell fin hcd) hd
theorem ae{i j pos}:PE X (.Constant (.int i) j pos) (tC (.int i)):=fun _ _ _ H _ I h=>wpAny_Constant_int ⟨.int i,H,I.tok _,⟨_,rfl⟩,h⟩
theorem bF{b j pos}:PE X (.Constant (.bool b) j pos) (tC (.bl b)):=fun _ _ _ H _ I h=>Constant_bool ⟨.bl b,H,I,rfl,h⟩
theorem ki{j pos}:PE X (.Constant .none j pos) (tC .non):=fun _ _ _ H _ I h=>Constant_none ⟨.non,H,I,rfl,h⟩
theorem aB{x j pos}:PE X (.Constant (.str x) j pos) (tC (.str x)):=fun _ _ _ H _ I h=>Calls.Constant_str ⟨.str x,H,I.tok _,⟨_,rfl⟩,h⟩
def Gl(X:Cx)(x:Str):Prop:=X.env.kindOf x=some .globalImplicit
theorem wQ {E:Value->Shared->Prop} {LJ:List (Addr × Obj)} {s:Shared} {σ:St} {H:Hp} {x:Str} {u:Value} {pos:Pos} {Q:Value->Shared->Prop} (I:Inv X LJ σ H s) (hg:Gl X x) (hm:X.mg x=some u) (h:Q u s)
  (hd:(x==("__debug__":Str))=false:=by decide):wpAny (model X.prog X.w) X.A (eval (.Name x pos) X.env) Q E s:=
 OZ I.ok.kind hg (Calls.loadGlobal_global (by rw[I.ok.glob];exact I.mod.glob.keeps I.bk) hm h) hd
theorem gD {E:Value->Shared->Prop} {LJ:List (Addr × Obj)} {s:Shared} {σ:St} {H:Hp} {x:Str} {u:Value} {pos:Pos} {Q:Value->Shared->Prop} (I:Inv X LJ σ H s) (hg:Gl X x) (hm:X.mg x=none) (hv:bootBuiltins x=some u) (h:Q u s)
  (hn:x≠"__name__":=by decide) (hd:(x==("__debug__":Str))=false:=by decide):wpAny (model X.prog X.w) X.A (eval (.Name x pos) X.env) Q E s:=by
 obtain⟨mb,h1,h2⟩:=I.mod.blt;exact OZ I.ok.kind hg (Calls.loadGlobal_builtin (by rw[I.ok.glob];exact I.mod.glob.keeps I.bk) hm (by rw[I.ok.blt];exact h1.keeps I.bk) ((h2 x hn).trans hv) h) hd
theorem cg{x:Str}{v:V}{u:Value}{pos:Pos}(hg:Gl X x)(hm:X.mg x=some u)(r:RelV v u)(hd:(x==("__debug__":Str))=false:=by decide):PE X (.Name x pos) (tC v):=
 fun _ _ _ H _ I h=>wQ I hg hm ⟨v,H,I,r,h⟩ hd
theorem iz{x:Str}{v:V}{u:Value}{pos:Pos}(hg:Gl X x)(hm:X.mg x=none)(hv:bootBuiltins x=some u)(r:RelV v u)(hn:x≠"__name__":=by decide)(hd:(x==("__debug__":Str))=false:=by decide):PE X (.Name x pos) (tC v):=
 fun _ _ _ H _ I h=>gD I hg hm hv ⟨v,H,I,r,h⟩ hn hd
variable{a b:Expr}{ta tb:TE}{pos:Pos}
def tB(t:TE):TT:=fun σ H Q=>t σ H fun x H1=>∃ c,x=.bl c/\Q c H1
theorem aO{e:Expr}{t:TE}(h:PE X e t)(he:∀ LT,isTrue e X.env LT=(do let v ← LT;standAt e.pos;holding [v] (truthy v)):=by intro _;rfl):PT X e (tB t):=by
 intro LJ s σ H Q I hw;refine isTrue_plain (thn (h LJ s σ H _ I hw) fun v s1 ⟨x,H1,I1,r1,q1⟩=>?_) (he _);obtain⟨d,rfl,q⟩:=q1;cases r1;exact Ny ⟨H1,I1,q⟩
variable{tA tB':TT}{rest:List Expr}
def tAnd(t u:TT):TT:=fun σ H Q=>t σ H fun c H1=>if c=true then u σ H1 Q else Q false H1
def tOr(t u:TT):TT:=fun σ H Q=>t σ H fun c H1=>if c=true then Q true H1 else u σ H1 Q
def tNot(t:TT):TT:=fun σ H Q=>t σ H fun c H1=>Q (!c) H1
theorem sC(ha:PT X a tA):PW X (.BoolOp .And [a] pos) tA:=by
 intro wh LJ s σ H Q I h;refine isTrue_and (thn (ha LJ s σ H Q I h) fun c s1 e=>?_)
 cases c with
 | true=>exact isTrue_and_nil e
 | false=>exact e
theorem cE(ha:PT X a tA):PW X (.BoolOp .Or [a] pos) tA:=by
 intro wh LJ s σ H Q I h;refine isTrue_or (thn (ha LJ s σ H Q I h) fun c s1 e=>?_)
 cases c with
 | false=>exact isTrue_or_nil e
 | true=>exact e
theorem uT(ha:PT X a tA)(hb:PW X (.BoolOp .And (b::rest) pos) tB'):PW X (.BoolOp .And (a::b::rest) pos) (tAnd tA tB'):=by
 intro wh LJ s σ H Q I h;refine isTrue_and (thn (ha LJ s σ H _ I h) fun c s1 ⟨H1,I1,q1⟩=>?_)
 cases c with
 | true=>exact hb wh LJ s1 σ H1 Q I1 q1
 | false=>exact⟨H1,I1,q1⟩
theorem b9(ha:PT X a tA)(hb:PW X (.BoolOp .Or (b::rest) pos) tB'):PW X (.BoolOp .Or (a::b::rest) pos) (tOr tA tB'):=by
 intro wh LJ s σ H Q I h;refine isTrue_or (thn (ha LJ s σ H _ I h) fun c s1 ⟨H1,I1,q1⟩=>?_)
 cases c with
 | true=>exact⟨H1,I1,q1⟩
 | false=>exact hb wh LJ s1 σ H1 Q I1 q1
theorem bN(ha:PT X a tA):PT X (.UnaryOp .Not a pos) (tNot tA):=by
 intro LJ s σ H Q I h;exact isTrue_not (ha LJ s σ H (fun c H1=>Q (!c) H1) I h)
def tAndV(ta tb:TE):TE:=fun σ H Q=>ta σ H fun x H1=>∃ c,x=.bl c/\if c=true then tb σ H1 Q else Q (.bl false) H1
def tOrV(ta tb:TE):TE:=fun σ H Q=>ta σ H fun x H1=>∃ c,x=.bl c/\if c=true then Q (.bl true) H1 else tb σ H1 Q
def tNotV(ta:TE):TE:=fun σ H Q=>ta σ H fun x H1=>∃ c,x=.bl c/\Q (.bl (!c)) H1
theorem bq{op}{t:TE}(h:PE X a t):PE X (.BoolOp op [a] pos) t:=fun LJ s σ H Q I hw=>BoolOp_one (h LJ s σ H Q I hw)
theorem be(ha:PE X a ta)(hb:PE X (.BoolOp .And (b::rest) pos) tb):PE X (.BoolOp .And (a::b::rest) pos) (tAndV ta tb):=by
 intro LJ s σ H Q I h;refine BoolOp_and (thn (ha LJ s σ H _ I h) fun v s1 ⟨x,H1,I1,r1,q1⟩=>?_);obtain⟨c,rfl,q1⟩:=q1;cases r1;refine Ny ?_
 cases c with
 | true=>exact hb LJ s1 σ H1 Q I1 q1
 | false=>exact⟨.bl false,H1,I1,rfl,q1⟩
theorem yY(ha:PE X a ta)(hb:PE X (.BoolOp .Or (b::rest) pos) tb):PE X (.BoolOp .Or (a::b::rest) pos) (tOrV ta tb):=by
 intro LJ s σ H Q I h;refine BoolOp_or (thn (ha LJ s σ H _ I h) fun v s1 ⟨x,H1,I1,r1,q1⟩=>?_);obtain⟨c,rfl,q1⟩:=q1;cases r1;refine Ny ?_
 cases c with
 | false=>exact hb LJ s1 σ H1 Q I1 q1
 | true=>exact⟨.bl true,H1,I1,rfl,q1⟩
theorem CZ(ha:PE X a ta):PE X (.UnaryOp .Not a pos) (tNotV ta):=by
 intro LJ s σ H Q I h;refine UnaryOp_ (thn (ha LJ s σ H _ I h) fun v s1 ⟨x,H1,I1,r1,q1⟩=>?_);obtain⟨c,rfl,q1⟩:=q1;cases r1;exact not_of (Ny ⟨.bl (!c),H1,I1,rfl,q1⟩)
def tIf(t:TT)(ta tb:TE):TE:=fun σ H Q=>t σ H fun c H1=>if c=true then ta σ H1 Q else tb σ H1 Q
theorem lE{c:Expr}(hc:PT X c tA)(ha:PE X a ta)(hb:PE X b tb):PE X (.IfExp c a b pos) (tIf tA ta tb):=by
 intro LJ s σ H Q I h;refine wpAny_IfExp (thn (hc LJ s σ H _ I h) fun d s1 ⟨H1,I1,q1⟩=>?_)
 cases d with
 | true=>exact ha LJ s1 σ H1 Q I1 q1
 | false=>exact hb LJ s1 σ H1 Q I1 q1
end
def SqL(K:Frag)(H:Hp)(a:Addr)(xs:List V):Prop:=
 Rd H a (.lst xs)\/
  ∃(o:Obj) (LO:Array Value) (n:Nat),K.lookup a=some o/\o.cls=.type "list"/\o.dict=none/\o.data=.seq LO n/\LO.size<=sizeLine/\Vals xs LO.toList
def SqT(K:Frag)(H:Hp)(a:Addr)(xs:List V):Prop:=
 Rd H a (.tup xs)\/
  ∃(o:Obj) (LO:Array Value) (n:Nat),K.lookup a=some o/\o.cls=.type "tuple"/\o.data=.seq LO n/\LO.size<=sizeLine/\Vals xs LO.toList
def absV:Value->Option V
 | .none=>some .non
 | .bool b=>some (.bl b)
 | .int i _=>some (.int i)
 | .str x _=>some (.str x)
 | .bytes b _=>some (.byt b)
 | .float b _=>some (.flt b)
 | .ref a=>some (.ref a)
 | .type n=>some (.ty n)
 | _=>none
variable{u:Value}
theorem RelV.abs{x:V}(r:RelV x u):absV u=some x:=by
 cases x with
 | non=>cases r;rfl
 | bl _=>cases r;rfl
 | int _=>obtain⟨t,rfl⟩:=r;rfl
 | str _=>obtain⟨t,rfl⟩:=r;rfl
 | byt _=>obtain⟨t,rfl⟩:=r;rfl
 | flt _=>obtain⟨t,rfl⟩:=r;rfl
 | ref _=>cases r;rfl
 | ty _=>cases r;rfl
theorem RelV.inj{x y:V}(r:RelV x u)(q:RelV y u):x=y:=Nq (r.abs.symm.trans q.abs)
theorem Vals.inj:∀{xs ys:List V} {us:List Value},Vals xs us->Vals ys us->xs=ys
 | _,_,_,.nil,.nil=>rfl
 | _,_,_,.cons r t,.cons r' t'=>by rw[r.inj r',Vals.inj t t']
section
variable{X:Cx}{LJ:List (Addr × Obj)}{σ:St}{H:Hp}{s:Shared}{a:Addr}{xs ys:List V}
theorem SqL.of{K:Frag}(h:H a=some (.lst xs)):SqL K H a xs:=.inl (.inl h)
abbrev Ml:=@SqL.of
theorem SqT.of{K:Frag}(h:H a=some (.tup xs)):SqT K H a xs:=.inl (.inl h)
abbrev PQ:=@SqT.of
theorem Inv.list(I:Inv X LJ σ H s)(h:SqL X.K H a xs):∃ LO:List Value,Vals xs LO/\PlainL s.heap a LO.toArray/\xs.length<=sizeLine:=by
 rcases h with h | ⟨o,LO,n,hk,hc,hd,hs,hz,r⟩
 . obtain⟨z,LO,n,r,e⟩:=h.ok I.hok;exact⟨LO,r,⟨_,n,e,rfl,rfl,rfl⟩,z⟩
 . refine⟨LO.toList,r,⟨o,n,I.kIn a o hk,hc,hd,by simpa using hs⟩,?_⟩;have e:=r.length;simp only[Ob] at e;omega
theorem Inv.tuple(I:Inv X LJ σ H s)(h:SqT X.K H a xs):∃ LO:List Value,Vals xs LO/\IsTup s.heap a LO.toArray/\xs.length<=sizeLine:=by
 rcases h with h | ⟨o,LO,n,hk,hc,hs,hz,r⟩
 . obtain⟨z,LO,r,p⟩:=h.ok I.hok;exact⟨LO,r,p,z⟩
 . refine⟨LO.toList,r,⟨o,I.kIn a o hk,hc,n,by simpa using hs⟩,?_⟩;have e:=r.length;simp only[Ob] at e;omega
theorem Inv.list_inj(I:Inv X LJ σ H s)(h:SqL X.K H a xs)(h':SqL X.K H a ys):xs=ys:=by
 obtain⟨LO,r,⟨o,n,e,_,_,d⟩,_⟩:=I.list h;obtain⟨its',r',⟨o',n',e',_,_,d'⟩,_⟩:=I.list h';rw[e] at e';cases e';rw[d] at d';injection d' with d1 _;have:LO=its':=by simpa using congrArg Array.toList d1
 subst this;exact r.inj r'
theorem Inv.tuple_inj(I:Inv X LJ σ H s)(h:SqT X.K H a xs)(h':SqT X.K H a ys):xs=ys:=by
 obtain⟨LO,r,⟨o,e,_,n,d⟩,_⟩:=I.tuple h;obtain⟨its',r',⟨o',e',_,n',d'⟩,_⟩:=I.tuple h';rw[e] at e';cases e';rw[d] at d';injection d' with d1 _;have:LO=its':=by simpa using congrArg Array.toList d1
 subst this;exact r.inj r'
end
abbrev Cx.wish(X:Cx)(E:Value->Shared->Prop):Cx:={X with xe:=E}
abbrev Cx.nox(X:Cx):Cx:=X.wish fun _ _=>False
variable{X:Cx}
theorem Cx.Ok.wish(ok:X.Ok)(E:Value->Shared->Prop):(X.wish E).Ok:=
 ⟨ok.mod,ok.kind,ok.glob,ok.blt,ok.above,ok.inj,ok.has,ok.cab,ok.hd,ok.frames,ok.stk,ok.exf,ok.bs,ok.bsz,ok.noex,ok.exfs,ok.funs,ok.frf⟩
variable{E:Value->Shared->Prop}
theorem Cx.Ok.unwish(ok:(X.wish E).Ok):X.Ok:=
 ⟨ok.mod,ok.kind,ok.glob,ok.blt,ok.above,ok.inj,ok.has,ok.cab,ok.hd,ok.frames,ok.stk,ok.exf,ok.bs,ok.bsz,ok.noex,ok.exfs,ok.funs,ok.frf⟩
section
variable{X:Cx}{LJ:List (Addr × Obj)}{σ:St}{H:Hp}{s:Shared}{E:Value->Shared->Prop}
theorem Inv.wish(I:Inv X LJ σ H s)(E:Value->Shared->Prop):Inv (X.wish E) LJ σ H s:=⟨I.ok.wish E,I.os,I.bare,I.base,I.loc,I.cell,I.free,I.freeC,I.pin,I.hok,I.len⟩
theorem Inv.unwish(I:Inv (X.wish E) LJ σ H s):Inv X LJ σ H s:=⟨I.ok.unwish,I.os,I.bare,I.base,I.loc,I.cell,I.free,I.freeC,I.pin,I.hok,I.len⟩
theorem SP.unwish{D:Ends}{f:Flow}{s':Shared}(h:SP (X.wish E) LJ D f s'):SP X LJ D f s':=by
 cases f with
 | next=>obtain⟨σ',H',I,q⟩:=h;exact⟨σ',H',I.unwish,q⟩
 | brk=>obtain⟨σ',H',I,q⟩:=h;exact⟨σ',H',I.unwish,q⟩
 | cont=>obtain⟨σ',H',I,q⟩:=h;exact⟨σ',H',I.unwish,q⟩
 | ret u=>obtain⟨v,σ',H',I,r,q⟩:=h;exact⟨v,σ',H',I.unwish,r,q⟩
theorem PSs.nox{st:List Stmt}{t:TS}(h:PSs X.nox st t):PSs X st t:=fun LJ s σ H D I hw=>
 Nh (h LJ s σ H D (I.wish _) hw) (fun _ _ q=>q.unwish) fun _ _ z=>False.elim z
end
section
variable{X:Cx}{st:Stmt}{rest:List Stmt}{t u:TS}{e:Expr}{te:TE}{pos:Pos}
def tNext:TS:=fun D σ H=>D.nx σ H
def tSeq(t u:TS):TS:=fun D σ H=>t {D with nx:=u D} σ H
theorem ak:PSs X [] tNext:=fun _ _ σ H _ I h=>OJ ⟨σ,H,I,h⟩
theorem ac(h1:PS X st t)(h2:PSs X rest u):PSs X (st::rest) (tSeq t u):=by
 intro LJ s σ H D I h;refine wpAny_execs_cons (thn (h1 LJ s σ H {D with nx:=u D} I h) fun f s1 q=>?_)
 cases f with
 | next=>
  obtain⟨σ',H',I',q⟩:=q;exact h2 LJ s1 σ' H' D I' q
 | ret v=>exact q
 | brk=>exact q
 | cont=>exact q
theorem ad(h1:PS X st t):PSs X [st] t:=by
 intro LJ s σ H D I h;refine wpAny_execs_cons (thn (h1 LJ s σ H D I h) fun f s1 q=>?_)
 cases f with
 | next=>exact OJ q
 | ret v=>exact q
 | brk=>exact q
 | cont=>exact q
def C0:TS:=fun D σ H=>D.bk σ H
theorem EM:PS X (.Break pos) C0:=fun _ _ σ H _ I h=>wpAny_Break ⟨σ,H,I,h⟩
theorem Inv.quiet{LJ:List (Addr × Obj)}{σ:St}{H:Hp}{s:Shared}(I:Inv X LJ σ H s):interactive X.env=false:=by simp[interactive,I.ok.kind]
def tDrop(te:TE):TS:=fun D σ H=>te σ H fun _ H1=>D.nx σ H1
theorem bO(he:PE X e te)(hs:swapsWith e none pos.line X.env=pure false:=by rfl):PS X (.Expr e pos) (tDrop te):=by
 intro LJ s σ H D I h;exact wpAny_Expr_any (thn (he LJ s σ H _ I h) fun v s1 ⟨x,H1,I1,r1,q1⟩=>⟨σ,H1,I1,q1⟩) I.quiet hs
def tRet(te:TE):TS:=fun D σ H=>te σ H D.rt
theorem af(he:PE X e te):PS X (.Return (some e) pos) (tRet te):=by
 intro LJ s σ H D I h;exact wpAny_Return_some (thn (he LJ s σ H _ I h) fun v s1 ⟨x,H1,I1,r1,q1⟩=>⟨x,σ,H1,I1,r1,q1⟩)
def tRetN:TS:=fun D _ H=>D.rt .non H
def tIfS(c:TT)(t u:TS):TS:=fun D σ H=>c σ H fun b H1=>if b=true then t D σ H1 else u D σ H1
theorem au{c:Expr}{a b:List Stmt}{tc:TT}(hc:PT X c tc)(ha:PSs X a t)(hb:PSs X b u):PS X (.If c a b pos) (tIfS tc t u):=by
 intro LJ s σ H D I h;refine wpAny_If (thn (hc LJ s σ H _ I h) fun d s1 ⟨H1,I1,q1⟩=>?_)
 cases d with
 | true=>exact ha LJ s1 σ H1 D I1 q1
 | false=>exact hb LJ s1 σ H1 D I1 q1
def cq:TS:=fun _ _ _=>False
theorem bG:PS X st cq:=fun _ _ _ _ _ _ h=>h.elim
end
abbrev TG:=V->St->Hp->(St->Hp->Prop)->Prop
abbrev TGs:=List V->St->Hp->(St->Hp->Prop)->Prop
def PG(X:Cx)(target:Expr)(t:TG):Prop:=
 ∀(LJ:List (Addr × Obj)) (s:Shared) (σ:St) (H:Hp) (v:V) (u:Value) (Q:St->Hp->Prop),Inv X LJ σ H s->RelV v u->t v σ H Q->
  wpAny (model X.prog X.w) X.A (assign target X.env u) (fun _ s'=>∃ σ' H',Inv X LJ σ' H' s'/\Q σ' H') X.xe s
def PGs(X:Cx)(ts:List Expr)(t:TGs):Prop:=
 ∀(LJ:List (Addr × Obj)) (s:Shared) (σ:St) (H:Hp) (vs:List V) (us:List Value) (Q:St->Hp->Prop),Inv X LJ σ H s->Vals vs us->t vs σ H Q->
  wpAny (model X.prog X.w) X.A (assignInOrder ((assignEach ts X.env).map (·.2)) us) (fun _ s'=>∃ σ' H',Inv X LJ σ' H' s'/\Q σ' H') X.xe s
abbrev TSet:=V->V->V->Hp->(Hp->Prop)->Prop
def PSet(X:Cx)(t:TSet):Prop:=
 ∀(LJ:List (Addr × Obj)) (s:Shared) (σ:St) (H:Hp) (o i v:V) (ov iv u:Value) (Q:Hp->Prop),Inv X LJ σ H s->RelV o ov->RelV i iv->RelV v u->t o i v H Q->
  wpAny (model X.prog X.w) X.A (setItem ov iv u) (fun _ s'=>∃ H',Inv X LJ σ H' s'/\Q H') X.xe s
section
variable{X:Cx}{pos:Pos}
def gName(i:Nat):TG:=fun v σ H Q=>Q (σ.set i (some v)) H
theorem aq{i:Nat}{x:Str}(hN:X.N.Nodup)(hi:X.N[i]? =some x)(hx:Loc X.env.scope x)(hf:X.fn x=true\/X.env.scope.names.lookup x=some .local:=by first | exact .inl rfl | exact .inr rfl | assumption):PG X (.Name x pos) (gName i):=by
 intro LJ s σ H v u Q I r h;exact wpAny_assign_Name (y9 I hN hi hx r (fun s' I'=>⟨_,H,I',h⟩) hf)
def gNil:TGs:=fun vs σ H Q=>vs=[]/\Q σ H
def gCons(t:TG)(u:TGs):TGs:=fun vs σ H Q=>∃ v r,vs=v::r/\t v σ H fun σ' H'=>u r σ' H' Q
theorem ow:PGs X [] gNil:=by
 intro LJ s σ H vs us Q I r h;obtain⟨e,h⟩:=h;subst e;cases r;exact assignInOrder_nil ⟨σ,H,I,h⟩
theorem cO {e:Expr} {es:List Expr} {t:TG} {u:TGs} (h1:PG X e t) (h2:PGs X es u)
  (hs:(assignEach (e::es) X.env).map (·.2)=assign e X.env::(assignEach es X.env).map (·.2):=by rfl):PGs X (e::es) (gCons t u):=by
 intro LJ s σ H vs us Q I r h;obtain⟨v,vr,e1,h⟩:=h;subst e1
 cases r with
 | cons r rr=>
  rw[hs];refine assignInOrder_cons (thn (h1 LJ s σ H _ _ _ I r h) fun _ s1 ⟨σ1,H1,I1,q1⟩=>?_);exact h2 LJ s1 σ1 H1 _ _ Q I1 rr q1
def gTup(K:Frag)(n:Nat)(t:TGs):TG:=fun v σ H Q=>∃ a xs,v=.ref a/\SqT K H a xs/\xs.length=n/\t xs σ H Q
theorem qC {es:List Expr} {k:Nat} {t:TGs} {n:Nat} (hc:X.calm=true) (h:PGs X es t)
  (hn:(assignEach es X.env).length=n:=by rfl) (hst:(assignEach es X.env).findIdx? (·.1)=none:=by rfl):PG X (.Tuple es k pos) (gTup X.K n t):=by
 intro LJ s σ H v u Q I r hw;obtain⟨a,xs,e1,hq,hl,hw⟩:=hw;subst e1;cases r;obtain⟨LO,rv,ht,hz⟩:=I.tuple hq;refine assign_Tuple_tuple (I.ok.hd hc) ht (by simp[hn,← hl,rv.length]) hst fun h' hx=>?_;have I1:Inv X LJ σ H {s with heap:=h'}:=I.kept (t':=s.toks) fun b o e=>hx b o (MT (MC e)) e;exact h LJ _ σ H xs _ Q I1 (by simpa using rv) hw
def gSub(to ti:TE)(t:TSet):TG:=fun v σ H Q=>to σ H fun o H1=>ti σ H1 fun i H2=>t o i v H2 fun H3=>Q σ H3
theorem GP {o i:Expr} {to ti:TE} {t:TSet} (ho:PE X o to) (hi:PE X i ti) (hs:PSet X t)
  (ha:∀ v,assign (.Subscript o i pos) X.env v=(do
   let ov ← holding [v] (eval o X.env);let iv ← holding [v,ov] (eval i X.env)
   standAt pos
   holding [v,ov,iv] (setItem ov iv v)
   release [v,ov,iv] []):=by intro _;rfl):PG X (.Subscript o i pos) (gSub to ti t):=by
 intro LJ s σ H v u Q I r h;rw[ha];refine MM (Pg (thn (ho LJ s σ H _ I h) fun ov s1 ⟨x,H1,I1,r1,q1⟩=>?_));refine MM (Pg (thn (hi LJ s1 σ H1 _ I1 q1) fun iv s2 ⟨y,H2,I2,r2,q2⟩=>?_));refine MM (PK (MM (Pg (thn (hs LJ s2 σ H2 x y v ov iv u _ I2 r1 r2 r q2) fun _ s3 ⟨H3,I3,q3⟩=>?_))));exact wpAny_release ⟨σ,H3,I3,q3⟩
def tAsg(te:TE)(g:TG):TS:=fun D σ H=>te σ H fun x H1=>g x σ H1 D.nx
theorem za {tg e:Expr} {te:TE} {g:TG} (he:PE X e te) (hg:PG X tg g) (hs:swapsWithSole [tg] e pos.line X.env=pure false:=by rfl) (hw:swappedStores [tg] e X.env=pure none:=by rfl)
  (h1:(assignEach [tg] X.env).map (·.2)=[assign tg X.env]:=by rfl):PS X (.Assign [tg] e pos) (tAsg te g):=by
 intro LJ s σ H D I h;refine wpAny_Assign_stores (thn (he LJ s σ H _ I h) fun v s1 ⟨x,H1,I1,r1,q1⟩=>?_) hs hw;rw[h1];exact thn (hg LJ s1 σ H1 x v _ I1 r1 q1) fun _ s2 q=>q
theorem dX{i:Nat}{x:Str}{e:Expr}{te:TE}{pos':Pos}(hN:X.N.Nodup)(hi:X.N[i]? =some x)(hx:Loc X.env.scope x)(he:PE X e te)(hs:swapsWith e (some (.Name x pos')) pos.line X.env=pure false:=by rfl)(hf:X.fn x=true\/X.env.scope.names.lookup x=some .local:=by first | exact .inl rfl | exact .inr rfl | assumption):
  PS X (.Assign [.Name x pos'] e pos) (tAsg te (gName i)):=by
 intro LJ s σ H D I h;refine wpAny_Assign_Name (thn (he LJ s σ H _ I h) fun v s1 ⟨y,H1,I1,r1,q1⟩=>?_) hs;exact y9 I1 hN hi hx r1 (fun s2 I2=>⟨_,H1,I2,q1⟩) hf
end
section
variable{X:Cx}{pos:Pos}
def zb(c:TT)(tb:TS):TS:=fun D σ H=>∃ W:Nat->St->Hp->Prop,(∃ m,W m σ H)/\∀ m σ H,W m σ H->
 c σ H fun b H1=>if b=true then ∃ N:St->Hp->Prop,(∀ σ' H',N σ' H'->∃ m',m'<m/\W m' σ' H')/\tb {D with nx:=N,ct:=N,bk:=D.nx} σ H1 else D.nx σ H1
theorem zc{c:Expr}{body:List Stmt}{tc:TT}{tb:TS}(hp:PassesOwn (model X.prog X.w) X.A X.env X.xe)(hc:PT X c tc)(hb:PSs X body tb):PS X (.While c body [] pos) (zb tc tb):=by
 intro LJ s σ H D I h;obtain⟨W,⟨m0,w0⟩,turn⟩:=h;refine wpAny_While (codeAny_whileLoop (fun n s'=>∃ σ' H',Inv X LJ σ' H' s'/\W n σ' H') ?_ m0 ⟨σ,H,I,w0⟩);rintro n s1 ⟨σ1,H1,I1,w1⟩;refine NK hp (thn (hc LJ s1 σ1 H1 _ I1 (turn n σ1 H1 w1)) fun b s2 ⟨H2,I2,q2⟩=>?_)
 cases b with
 | true=>
  obtain⟨N,hN,q2⟩:=q2;rw[Mp rfl];refine NK hp (thn (hb LJ s2 σ1 H2 _ I2 q2) fun f s3 q3=>?_)
  cases f with
  | next=>
   obtain⟨σ3,H3,I3,n3⟩:=q3;obtain⟨m',hm,w3⟩:=hN σ3 H3 n3;exact⟨m',hm,σ3,H3,I3,w3⟩
  | cont=>
   obtain⟨σ3,H3,I3,n3⟩:=q3;obtain⟨m',hm,w3⟩:=hN σ3 H3 n3;exact⟨m',hm,σ3,H3,I3,w3⟩
  | brk=>exact q3
  | ret v=>exact q3
 | false=>
  rw[Md L7];exact OJ ⟨σ1,H2,I2,q2⟩
end
structure It where
 go:Nat->Hp->Prop
 yld:Nat->Hp->V->Hp->Prop
 stop:Nat->Hp->Prop
def FpOk(X:Cx)(LJ:List (Addr × Obj))(H:Hp)(b:Addr):Prop:=
 H b=none/\b≠X.env.locals/\b∉X.fs/\(b∈X.ex\/X.s₀.heap.objs.size<=b)/\(∀ x c,X.env.cells.lookup x=some c->c≠b)/\∀ p∈X.pn++LJ,p.1≠b
variable{s:Shared}
theorem Inv.fpOk{LJ:List (Addr × Obj)}{σ:St}{H H':Hp}{b:Addr}(I:Inv X LJ σ H s)(hb:s.heap.objs.size<=b)(hn:H' b=none):FpOk X LJ H' b:=by
 refine⟨hn,OW (MI I.lt hb),I.nofs hb,.inr (Mi I.sz hb),fun x c e z=>?_,fun p hp z=>?_⟩
 . obtain⟨v,q⟩:=I.cell x c e;exact absurd (MI q.lt (by rw[z];exact hb)) (NF _)
 . exact absurd (MI (MC (I.pin p hp).1) (by rw[z];exact hb)) (NF _)
structure Turn(P:Program)(w:World)(K:Frag)(tg:Expr)(J:It)(fp:List Addr)(it:Addr)(tn:Nat->Heap->Prop):Prop where
 mem:it∈fp
 obj:∀ i h,tn i h->∀ b∈fp,∃ o,h.get? b=some o/\∀ v,o.data≠.cell v
 keep:∀ i h h',tn i h->(∀ b∈fp,∀ o,h.get? b=some o->h'.get? b=some o)->tn i h'
 item:∀(X:Cx),X.prog=P->X.w=w->X.K=K->X.calm=true->∀(i:Nat) (LJ:List (Addr × Obj)) (s:Shared) (σ:St) (H:Hp) (E:Value->Shared->Prop),Inv X LJ σ H s->(∀ b∈fp,FpOk X LJ H b)->tn i s.heap->J.go i H->
  wpAny (model P w) X.A (pyNext (.ref it)) (fun r s1=>∃ u,r=some u/\
   wpAny (model P w) X.A (letOwnedTupleGo tg (.ref it) u) (fun _ s2=>∃ x H',Inv X LJ σ H' s2/\RelV x u/\J.yld i H x H'/\tn (i+1) s2.heap/\∀ b∈fp,H' b=none) E s1) E s
 done:∀(X:Cx),X.prog=P->X.w=w->X.K=K->X.calm=true->∀(i:Nat) (LJ:List (Addr × Obj)) (s:Shared) (σ:St) (H:Hp) (E:Value->Shared->Prop),Inv X LJ σ H s->(∀ b∈fp,FpOk X LJ H b)->tn i s.heap->J.stop i H->
  wpAny (model P w) X.A (pyNext (.ref it)) (fun r s1=>r=none/\Inv X LJ σ H s1) E s
 self:∀(A:Around) (i:Nat) (s:Shared) (Q:Value->Shared->Prop) (E:Value->Shared->Prop),tn i s.heap->Q (.ref it) s->wpAny (model P w) A (pyIter (.ref it)) Q E s
abbrev TI:=St->Hp->(It->Hp->Prop)->Prop
def PIE(X:Cx)(LJ:List (Addr × Obj))(σ:St)(tg:Expr)(R:It->Hp->Prop)(itv:Value)(s2:Shared):Prop:=
 ∃(it:Addr) (fp:List Addr) (tn:Nat->Heap->Prop) (J:It) (H':Hp),itv=.ref it/\Inv X LJ σ H' s2/\Turn X.prog X.w X.K tg J fp it tn/\tn 0 s2.heap/\(∀ b∈fp,FpOk X LJ H' b)/\R J H'
def PI(X:Cx)(tg iter:Expr)(wi:TI):Prop:=
 ∀(LJ:List (Addr × Obj)) (s:Shared) (σ:St) (H:Hp) (R:It->Hp->Prop),Inv X LJ σ H s->wi σ H R->
  wpAny (model X.prog X.w) X.A (eval iter X.env) (fun v s1=>wpAny (model X.prog X.w) X.A (pyIter v) (PIE X LJ σ tg R) X.xe s1) X.xe s
variable{tg:Expr}
theorem yZ {M:Model} {A:Around} {it:Addr} {o:Obj} {n:String} {vs:Array Value} {Q:Unit->Shared->Prop} (ho:s.heap.get? it=some o) (hc:o.cls=.type n) (hd:o.data=.fields vs)
  (hn:["enumerate","zip","dict_itemiterator","dict_reverseitemiterator","odict_iterator","itertools.zip_longest","itertools.pairwise"].contains n=false) (hQ:Q () s):wpAny M A (letOwnedTupleGo tg (.ref it) u) Q E s:=by
 unfold letOwnedTupleGo
 cases tg <;> first
  | exact MW hQ
  | (cases u <;> first
    | exact MW hQ
    | (refine MM (wpAny_load ho ?_)
       rw[hc,hd];show wpAny M A (if (["enumerate","zip","dict_itemiterator","dict_reverseitemiterator","odict_iterator","itertools.zip_longest","itertools.pairwise"].contains n&&vs[0]? ==some (rawInt _))=true then _ else _) Q E s;rw[Md (by intro h;rw[hn,Mm] at h;cases h)];exact MW hQ))
def Itl(K:Frag)(a:Addr):It:=
 ⟨fun i H=>∃ xs x,SqL K H a xs/\xs[i]? =some x,fun i H x H'=>H'=H/\∀ xs,SqL K H a xs->xs[i]? =some x,fun i H=>∃ xs,SqL K H a xs/\xs.length<=i⟩
def Itt(K:Frag)(a:Addr):It:=
 ⟨fun i H=>∃ xs x,SqT K H a xs/\xs[i]? =some x,fun i H x H'=>H'=H/\∀ xs,SqT K H a xs->xs[i]? =some x,fun i H=>∃ xs,SqT K H a xs/\xs.length<=i⟩
def Itr(lo:Int)(n:Nat):It:=⟨fun i _=>i<n,fun i H x H'=>H'=H/\x=.int (lo+i),fun i _=>n<=i⟩
variable{P:Program}{w:World}{K:Frag}
theorem C5(a it:Addr):Turn P w K tg (Itl K a) [it] it (fun i h=>h.IsListIter it a i) where
 mem:=by simp
 obj:=fun i h st b hb=>by
  have e:b=it:=by simpa using hb
  subst e;obtain⟨o,e,c,d⟩:=st;exact⟨o,e,fun v z=>by rw[d] at z;cases z⟩
 keep:=fun i h h' st k=>st.at fun o e=>k it (by simp) o e
 item:=by
  intro X hP hw hK hc i LJ s σ H E I hf st hg;subst hP hw hK;obtain⟨xs,x,hq,hx⟩:=hg;obtain⟨LO,rv,p,hz⟩:=I.list hq;obtain⟨u,hu,ru⟩:=rv.get hx;obtain⟨f0,f1,f2,f3,f4,f5⟩:=hf it (by simp);refine wpAny_pyNext_list_item st p.isList (x:=u) (by simpa using hu) fun h' st' sb=>?_;have I1:Inv X LJ σ H {s with heap:=h'}:=I.turned (t':=s.toks) (fun b o hb e=>(sb.2 b hb).trans e) f0 f1 f3 f4 f5;obtain⟨o,e,c,d⟩:=id st';exact⟨u,rfl,yZ (s:={s with heap:=h'}) e c d (by decide) ⟨x,H,I1,ru,⟨rfl,fun ys hy=>by rw[I.list_inj hy hq];exact hx⟩,st',fun b hb=>(hf b hb).1⟩⟩
 done:=by
  intro X hP hw hK hc i LJ s σ H E I hf st hg;subst hP hw hK;obtain⟨xs,hq,hx⟩:=hg;obtain⟨LO,rv,p,hz⟩:=I.list hq;obtain⟨f0,f1,f2,f3,f4,f5⟩:=hf it (by simp);have hl:=rv.length;exact wpAny_pyNext_list_end (I.ok.hd hc) st p.isList (by simp;omega) fun h' eb=>⟨rfl,I.turned (t':=s.toks) (fun b o hb e=>eb b o hb e) f0 f1 f3 f4 f5⟩
 self:=fun _ _ _ _ _ st h=>wpAny_pyIter_listiter st h
theorem BY(a it:Addr):Turn P w K tg (Itt K a) [it] it (fun i h=>h.IsTupleIter it a i) where
 mem:=by simp
 obj:=fun i h st b hb=>by
  have e:b=it:=by simpa using hb
  subst e;obtain⟨o,e,c,d⟩:=st;exact⟨o,e,fun v z=>by rw[d] at z;cases z⟩
 keep:=fun i h h' st k=>st.at fun o e=>k it (by simp) o e
 item:=by
  intro X hP hw hK hc i LJ s σ H E I hf st hg;subst hP hw hK;obtain⟨xs,x,hq,hx⟩:=hg;obtain⟨LO,rv,p,hz⟩:=I.tuple hq;obtain⟨u,hu,ru⟩:=rv.get hx;obtain⟨f0,f1,f2,f3,f4,f5⟩:=hf it (by simp);refine wpAny_pyNext_tuple_item st (show s.heap.IsTuple a LO.toArray from p) (x:=u) (by simpa using hu) fun h' st' sb=>?_;have I1:Inv X LJ σ H {s with heap:=h'}:=I.turned (t':=s.toks) (fun b o hb e=>(sb.2 b hb).trans e) f0 f1 f3 f4 f5;obtain⟨o,e,c,d⟩:=id st';exact⟨u,rfl,yZ (s:={s with heap:=h'}) e c d (by decide) ⟨x,H,I1,ru,⟨rfl,fun ys hy=>by rw[I.tuple_inj hy hq];exact hx⟩,st',fun b hb=>(hf b hb).1⟩⟩
 done:=by
  intro X hP hw hK hc i LJ s σ H E I hf st hg;subst hP hw hK;obtain⟨xs,hq,hx⟩:=hg;obtain⟨LO,rv,p,hz⟩:=I.tuple hq;obtain⟨f0,f1,f2,f3,f4,f5⟩:=hf it (by simp);have hl:=rv.length;exact wpAny_pyNext_tuple_end (I.ok.hd hc) st (show s.heap.IsTuple a LO.toArray from p) (by simp;omega) fun h' eb=>⟨rfl,I.turned (t':=s.toks) (fun b o hb e=>eb b o hb e) f0 f1 f3 f4 f5⟩
 self:=fun _ _ _ _ _ st h=>wpAny_pyIter_tupleiter st h
theorem BZ(it:Addr)(lo:Int)(n:Nat):Turn P w K tg (Itr lo n) [it] it (fun i h=>IsRangeIter h it (lo+(i:Nat)*1) ((n:Int) - (i:Nat)) 1) where
 mem:=by simp
 obj:=fun i h st b hb=>by
  have e:b=it:=by simpa using hb
  subst e
  exact⟨_,st,fun v z=>by
   have z':Data.fields _=Data.cell v:=z;cases z'⟩
 keep:=fun i h h' st k=>k it (by simp) _ st
 item:=by
  intro X hP hw hK hc i LJ s σ H E I hf st hg;subst hP hw hK;obtain⟨f0,f1,f2,f3,f4,f5⟩:=hf it (by simp);have W:=Walks.range (prog:=X.prog) (w:=X.w) (I.ok.hd hc) it lo 1 n;refine W.item i s _ _ hg st fun v h' tk hv st' kk=>?_;obtain⟨t,rfl⟩:=hv;have I1:Inv X LJ σ H {s with heap:=h',toks:=tk}:=I.turned (fun b o hb e=>kk b o (by simpa using hb) e) f0 f1 f3 f4 f5;refine⟨_,rfl,yZ (s:={s with heap:=h',toks:=tk}) (n:="range_iterator") st' rfl rfl (by decide) ⟨.int (lo+i),H,I1,⟨t,?_⟩,⟨rfl,rfl⟩,st',fun b hb=>(hf b hb).1⟩⟩;rw[Int.mul_one]
 done:=by
  intro X hP hw hK hc i LJ s σ H E I hf st hg;subst hP hw hK;obtain⟨f0,f1,f2,f3,f4,f5⟩:=hf it (by simp);exact wpAny_pyNext_range_end (I.ok.hd hc) st (by have:n<=i:=hg;omega) fun h' eb=>⟨rfl,I.turned (t':=s.toks) (fun b o hb e=>eb b o hb e) f0 f1 f3 f4 f5⟩
 self:=fun _ _ _ _ _ st h=>wpAny_pyIter_rangeiter st h
section
variable{X:Cx}{tg:Expr}
def iList(K:Frag)(tl:TE):TI:=fun σ H R=>tl σ H fun x H1=>∃ a,x=.ref a/\(∃ xs,SqL K H1 a xs)/\R (Itl K a) H1
def iTup(K:Frag)(tl:TE):TI:=fun σ H R=>tl σ H fun x H1=>∃ a,x=.ref a/\(∃ xs,SqT K H1 a xs)/\R (Itt K a) H1
theorem aA{l:Expr}{tl:TE}(hl:PE X l tl):PI X tg l (iList X.K tl):=by
 intro LJ s σ H R I h;refine thn (hl LJ s σ H _ I h) fun v s1 ⟨x,H1,I1,r1,q1⟩=>?_;obtain⟨a,e,⟨xs,hq⟩,q⟩:=q1;subst e;cases r1;obtain⟨LO,rv,p,hz⟩:=I1.list hq;refine Oh p.isList ?_;refine⟨s1.heap.objs.size,[s1.heap.objs.size],_,_,H1,rfl,I1.kept (t':=s1.toks) fun b o e=>Mv _ e,C5 a _,⟨_,MQ _ rfl,rfl,rfl⟩,fun b hb=>?_,q⟩;have e:b=s1.heap.objs.size:=by simpa using hb
 subst e;exact I1.fpOk (Mu _) (I1.hok.fresh (Mu _))
theorem zd{l:Expr}{tl:TE}(hl:PE X l tl):PI X tg l (iTup X.K tl):=by
 intro LJ s σ H R I h;refine thn (hl LJ s σ H _ I h) fun v s1 ⟨x,H1,I1,r1,q1⟩=>?_;obtain⟨a,e,⟨xs,hq⟩,q⟩:=q1;subst e;cases r1;obtain⟨LO,rv,p,hz⟩:=I1.tuple hq;refine wpAny_pyIter_tuple (show s1.heap.IsTuple a LO.toArray from p) ?_;refine⟨s1.heap.objs.size,[s1.heap.objs.size],_,_,H1,rfl,I1.kept (t':=s1.toks) fun b o e=>Mv _ e,BY a _,⟨_,MQ _ rfl,rfl,rfl⟩,fun b hb=>?_,q⟩;have e:b=s1.heap.objs.size:=by simpa using hb
 subst e;exact I1.fpOk (Mu _) (I1.hok.fresh (Mu _))
theorem ze {LJ:List (Addr × Obj)} {σ:St} {H:Hp} {s:Shared} {R:It->Hp->Prop} {E:Value->Shared->Prop} {lo hi:Int} {t u v:Tok} {tk:Nat} (I:Inv X LJ σ H s) (h1: -(2^62)<=lo) (h2:lo<2^62) (h3: -(2^62)<=hi) (h4:hi<2^62)
  (q:R (Itr lo (hi-lo).toNat) H):wpAny (model X.prog X.w) X.A (pyIter (.ref s.heap.objs.size)) (PIE X LJ σ tg R) E {s with heap:=s.heap.push {cls:=.type "range",data:=.fields #[.int lo t,.int hi u,.int 1 v]},toks:=tk}:=by
 refine wpAny_pyIter_range (IsRange.new ..) (small_one h1 h2 h3 h4) ?_;have I1:Inv X LJ σ H {s with heap:=s.heap.push {cls:=.type "range",data:=.fields #[.int lo t,.int hi u,.int 1 v]},toks:=tk}:=I.kept fun b o e=>Mv _ e
 refine⟨(s.heap.push {cls:=.type "range",data:=.fields #[.int lo t,.int hi u,.int 1 v]}).objs.size,[(s.heap.push {cls:=.type "range",data:=.fields #[.int lo t,.int hi u,.int 1 v]}).objs.size],_,_,H,rfl,
  I1.kept (t':=tk) fun b o e=>Mv _ e,BZ _ lo (hi-lo).toNat,?_,fun b hb=>?_,q⟩
 . have e1:lo+((0:Nat):Int)*1=lo:=by simp
   have e2:(((hi-lo).toNat:Nat):Int) - ((0:Nat):Int)=Builtin.Range.rangeSize lo hi 1:=by rw[rangeSize_one];split <;> omega
   show IsRangeIter _ _ (lo+((0:Nat):Int)*1) ((((hi-lo).toNat:Nat):Int) - ((0:Nat):Int)) 1;rw[e1,e2];exact MQ _ rfl
 . have e:b=(s.heap.push {cls:=.type "range",data:=.fields #[.int lo t,.int hi u,.int 1 v]}).objs.size:=by simpa using hb
   subst e;exact I1.fpOk (Mu _) (I1.hok.fresh (Mu _))
def de(ta:TA):TI:=fun σ H R=>ta σ H fun vs H1=>∃ j:Int,vs=[.int j]/\ -(2^62)<=j/\j<2^62/\R (Itr 0 j.toNat) H1
def pD(ta:TA):TI:=fun σ H R=>ta σ H fun vs H1=>∃ i j:Int,vs=[.int i,.int j]/\(-(2^62)<=i/\i<2^62/\ -(2^62)<=j/\j<2^62)/\R (Itr i (j-i).toNat) H1
theorem bK{a:Expr}{ta:TA}{p pos:Pos}(hg:Gl X "range")(hm:X.mg "range"=none)(ha:PA X [a] ta)(hs:starEach [a] X.env=[(false,eval a X.env)]:=by rfl):PI X tg (.Call (.Name "range" p) [a] [] pos) (de ta):=by
 intro LJ s σ H R I h;refine Call_ (gD I hg hm boot_range (M5 (thn (ha pos LJ s σ H _ I h) fun us s1 ⟨vs,H1,I1,r1,q1⟩=>?_) hs rfl));obtain⟨j,e,q1,q2,q⟩:=q1;subst e
 cases r1 with
 | cons r rr=>
  cases rr;obtain⟨t,rfl⟩:=r;exact call_range_1 (ze I1 (by omega) (by omega) q1 q2 (by simpa using q))
theorem qD{a b:Expr}{ta:TA}{p pos:Pos}(hg:Gl X "range")(hm:X.mg "range"=none)(ha:PA X [a,b] ta)(hs:starEach [a,b] X.env=[(false,eval a X.env),(false,eval b X.env)]:=by rfl)(hs2:starEach [b] X.env=[(false,eval b X.env)]:=by rfl):
  PI X tg (.Call (.Name "range" p) [a,b] [] pos) (pD ta):=by
 intro LJ s σ H R I h;refine Call_ (gD I hg hm boot_range (M5 (thn (ha pos LJ s σ H _ I h) fun us s1 ⟨vs,H1,I1,r1,q1⟩=>?_) (by rw[hs,hs2]) (by rw[hs2];rfl)));obtain⟨i,j,e,⟨q1,q2,q3,q4⟩,q⟩:=q1;subst e
 cases r1 with
 | cons r rr=>
  cases rr with
  | cons r' rr=>
   cases rr;obtain⟨t,rfl⟩:=r;obtain⟨t',rfl⟩:=r';exact call_range_2 (ze I1 q1 q2 q3 q4 q)
def tFor(wi:TI)(g:TG)(tb:TS):TS:=fun D σ H=>wi σ H fun J H1=>∃ W:Nat->Nat->St->Hp->Prop,(∃ m,W 0 m σ H1)/\∀ i m σ H,W i m σ H->
 (J.stop i H/\D.nx σ H)\/(J.go i H/\∃ N:St->Hp->Prop,(∀ σ' H',N σ' H'->∃ m',m'<m/\W (i+1) m' σ' H')/\∀ x H',J.yld i H x H'->g x σ H' fun σ2 H2=>tb {D with nx:=N,ct:=N,bk:=D.nx} σ2 H2)
def qE(fp:List Addr)(h:Heap):List (Addr × Obj):=fp.filterMap fun b=>(h.get? b).map fun o=>(b,o)
theorem kZ{fp:List Addr}{h:Heap}{b:Addr}{o:Obj}(hb:b∈fp)(e:h.get? b=some o):(b,o)∈qE fp h:=List.mem_filterMap.mpr ⟨b,hb,by rw[e];rfl⟩
theorem C6{fp:List Addr}{h:Heap}{p:Addr × Obj}(hp:p∈qE fp h):p.1∈fp/\h.get? p.1=some p.2:=by
 obtain⟨b,hb,e⟩:=List.mem_filterMap.mp hp
 cases q:h.get? b with
 | none=>rw[q] at e;cases e
 | some o=>
  rw[q] at e;have e':(b,o)=p:=Nq e;subst e';exact⟨hb,q⟩
theorem Inv.pinned{LJ:List (Addr × Obj)}{σ:St}{H:Hp}{s:Shared}{fp:List Addr}(I:Inv X LJ σ H s)(hf:∀ b∈fp,FpOk X LJ H b)(ho:∀ b∈fp,∃ o,s.heap.get? b=some o/\∀ v,o.data≠.cell v):Inv X (LJ++qE fp s.heap) σ H s:=
 I.pins_of fun p hp=>(Mj.mp hp).elim (fun z=>I.pin p (MU _ z)) fun z=>by
  obtain⟨hb,e⟩:=C6 z;obtain⟨f0,f1,f2,_⟩:=hf p.1 hb;obtain⟨o,e',d⟩:=ho p.1 hb;rw[e] at e';cases e';exact⟨e,f0,f1,f2,d⟩
theorem Inv.unpinned{LJ pl:List (Addr × Obj)}{σ:St}{H:Hp}{s:Shared}(I:Inv X (LJ++pl) σ H s):Inv X LJ σ H s:=I.pins_of fun p hp=>I.pin p (MU _ (N4 _ hp))
theorem bc {iter:Expr} {body:List Stmt} {wi:TI} {g:TG} {tb:TS} {pos:Pos} (hp:PassesOwn (model X.prog X.w) X.A X.env X.xe) (hc:X.calm=true) (hi:PI X tg iter wi) (hg:PG X tg g) (hb:PSs X body tb)
  (hs:∀ x,foldedSetIterable iter X.env x=pure x:=by intro _;rfl):PS X (.For tg iter body [] pos) (tFor wi g tb):=by
 intro LJ s σ H D I h;refine wpAny_For (thn (hi LJ s σ H _ I h) fun v s1 h1=>thn h1 fun itv s2 h2=>?_) hs;obtain⟨it,fp,tn,J,H2,e,I2,T,st2,f2,W,⟨m0,w0⟩,turn⟩:=h2;subst e;have stat:∀{H':Hp},(∀ b∈fp,H' b=none)->∀ b∈fp,FpOk X LJ H' b:=fun hn b hb=>⟨hn b hb,(f2 b hb).2⟩;refine codeAny_forLoop_any (fun n s'=>∃ i σ' H',Inv X LJ σ' H' s'/\tn i s'.heap/\(∀ b∈fp,H' b=none)/\W i n σ' H') ?_ m0 ⟨0,σ,H2,I2,st2,fun b hb=>(f2 b hb).1,w0⟩;rintro n s3 ⟨i,σ3,H3,I3,st3,fr3,w3⟩;rcases turn i n σ3 H3 w3 with ⟨stop,qn⟩ | ⟨go,N,hN,step⟩
 . refine NK hp (thn (T.done X rfl rfl rfl hc i LJ s3 σ3 H3 X.xe I3 (stat fr3) st3 stop) fun r s4 ⟨hr,I4⟩=>?_);subst hr;exact OJ ⟨σ3,H3,I4,qn⟩
 . refine NK hp (thn (T.item X rfl rfl rfl hc i LJ s3 σ3 H3 X.xe I3 (stat fr3) st3 go) fun r s4 ⟨u,hr,h4⟩=>?_);subst hr;refine NK hp (thn h4 fun _ s5 ⟨x,H5,I5,r5,y5,st5,fr5⟩=>?_);have I5':=I5.pinned (stat fr5) (T.obj _ _ st5);refine NK hp (thn (hg _ s5 σ3 H5 x u _ I5' r5 (step x H5 y5)) fun _ s6 ⟨σ6,H6,I6,q6⟩=>?_);refine NK hp (thn (hb _ s6 σ6 H6 _ I6 q6) fun f s7 q7=>?_)
   have again:∀{σ7:St} {H7:Hp},Inv X (LJ++qE fp s5.heap) σ7 H7 s7->N σ7 H7->∃ m,m<n/\∃ i σ' H',Inv X LJ σ' H' s7/\tn i s7.heap/\(∀ b∈fp,H' b=none)/\W i m σ' H':=fun{σ7 H7} I7 n7=>by
    obtain⟨m',hm,w7⟩:=hN σ7 H7 n7;refine⟨m',hm,i+1,σ7,H7,I7.unpinned,T.keep _ _ _ st5 fun b hb o e=>(I7.pin (b,o) (MU _ (MU _ (kZ hb e)))).1,fun b hb=>?_,w7⟩;obtain⟨o,e,d⟩:=T.obj _ _ st5 b hb;exact(I7.pin (b,o) (MU _ (MU _ (kZ hb e)))).2.1
   cases f with
   | next=>obtain⟨σ7,H7,I7,n7⟩:=q7;exact again I7 n7
   | cont=>obtain⟨σ7,H7,I7,n7⟩:=q7;exact again I7 n7
   | brk=>obtain⟨σ7,H7,I7,q7⟩:=q7;exact⟨σ7,H7,I7.unpinned,q7⟩
   | ret v=>obtain⟨x7,σ7,H7,I7,r7,q7⟩:=q7;exact⟨x7,σ7,H7,I7.unpinned,r7,q7⟩
end
theorem bi {K:Frag} {a:Addr} {xs:List V} {g:TG} {tb:TS} {D:Ends} {σ:St} {H:Hp} (Pv:Nat->St->Hp->Prop) (h0:Pv 0 σ H) (hl:∀ i σ H,i<=xs.length->Pv i σ H->SqL K H a xs)
  (hs:∀ i x σ H,xs[i]? =some x->Pv i σ H->g x σ H fun σ2 H2=>tb {D with nx:=Pv (i+1),ct:=Pv (i+1),bk:=D.nx} σ2 H2) (hd:∀ σ H,Pv xs.length σ H->D.nx σ H):
  ∃ W:Nat->Nat->St->Hp->Prop,(∃ m,W 0 m σ H)/\∀ i m σ H,W i m σ H->
   ((Itl K a).stop i H/\D.nx σ H)\/((Itl K a).go i H/\∃ N:St->Hp->Prop,(∀ σ' H',N σ' H'->∃ m',m'<m/\W (i+1) m' σ' H')/\∀ x H',(Itl K a).yld i H x H'->g x σ H' fun σ2 H2=>tb {D with nx:=N,ct:=N,bk:=D.nx} σ2 H2):=by
 refine⟨fun i m σ H=>m=xs.length-i/\i<=xs.length/\Pv i σ H,⟨xs.length,by simp,M2 _,h0⟩,?_⟩;rintro i m σ H ⟨rfl,hi,p⟩;have q:=hl i σ H hi p;by_cases hlt:i<xs.length
 . refine .inr ⟨⟨xs,xs[i],q,by simp[hlt]⟩,Pv (i+1),fun σ' H' p'=>⟨xs.length - (i+1),by omega,rfl,hlt,p'⟩,fun x H' y=>?_⟩;obtain⟨e,y⟩:=y;subst e;exact hs i x σ _ (y xs q) p
 . have e:i=xs.length:=by omega
   subst e;exact .inl ⟨⟨xs,q,Mu _⟩,hd σ H p⟩
theorem cF {lo:Int} {n:Nat} {g:TG} {tb:TS} {D:Ends} {σ:St} {H:Hp} (Pv:Nat->St->Hp->Prop) (h0:Pv 0 σ H)
  (hs:∀ i σ H,i<n->Pv i σ H->g (.int (lo+i)) σ H fun σ2 H2=>tb {D with nx:=Pv (i+1),ct:=Pv (i+1),bk:=D.nx} σ2 H2) (hd:∀ σ H,Pv n σ H->D.nx σ H):
  ∃ W:Nat->Nat->St->Hp->Prop,(∃ m,W 0 m σ H)/\∀ i m σ H,W i m σ H->
   ((Itr lo n).stop i H/\D.nx σ H)\/((Itr lo n).go i H/\∃ N:St->Hp->Prop,(∀ σ' H',N σ' H'->∃ m',m'<m/\W (i+1) m' σ' H')/\∀ x H',(Itr lo n).yld i H x H'->g x σ H' fun σ2 H2=>tb {D with nx:=N,ct:=N,bk:=D.nx} σ2 H2):=by
 refine⟨fun i m σ H=>m=n-i/\i<=n/\Pv i σ H,⟨n,by simp,M2 _,h0⟩,?_⟩;rintro i m σ H ⟨rfl,hi,p⟩;by_cases hlt:i<n
 . refine .inr ⟨hlt,Pv (i+1),fun σ' H' p'=>⟨n - (i+1),by omega,rfl,hlt,p'⟩,fun x H' y=>?_⟩;obtain⟨e,y⟩:=y;subst e y;exact hs i σ _ hlt p
 . have e:i=n:=by omega
   subst e;exact .inl ⟨Mu _,hd σ H p⟩
abbrev R2:=V->V->Hp->VK->Prop
def OpR(X:Cx)(f:Value->Value->Sem Value)(r:R2):Prop:=
 ∀(LJ:List (Addr × Obj)) (s:Shared) (σ:St) (H:Hp) (x y:V) (v u:Value) (Q:VK),Inv X LJ σ H s->RelV x v->RelV y u->r x y H Q->
  wpAny (model X.prog X.w) X.A (f v u) (EP X LJ σ Q) X.xe s
def UnR(X:Cx)(f:Value->Sem Value)(r:V->Hp->VK->Prop):Prop:=
 ∀(LJ:List (Addr × Obj)) (s:Shared) (σ:St) (H:Hp) (x:V) (v:Value) (Q:VK),Inv X LJ σ H s->RelV x v->r x H Q->
  wpAny (model X.prog X.w) X.A (f v) (EP X LJ σ Q) X.xe s
def CallR(X:Cx)(f:Value)(r:List V->Hp->VK->Prop):Prop:=
 ∀(LJ:List (Addr × Obj)) (s:Shared) (σ:St) (H:Hp) (xs:List V) (us:List Value) (Q:VK),Inv X LJ σ H s->Vals xs us->r xs H Q->
  wpAny (model X.prog X.w) X.A (call f us) (EP X LJ σ Q) X.xe s
def tOp(r:R2)(ta tb:TE):TE:=fun σ H Q=>ta σ H fun x H1=>tb σ H1 fun y H2=>r x y H2 Q
def tUn(r:V->Hp->VK->Prop)(ta:TE):TE:=fun σ H Q=>ta σ H fun x H1=>r x H1 Q
def rI(C:Int->Int->Prop)(g:Int->Int->V):R2:=fun x y H Q=>∃ i j,x=.int i/\y=.int j/\C i j/\Q (g i j) H
def rI0(g:Int->Int->V):R2:=fun x y H Q=>∃ i j,x=.int i/\y=.int j/\Q (g i j) H
def rU(g:Int->V):V->Hp->VK->Prop:=fun x H Q=>∃ i,x=.int i/\Q (g i) H
section
variable{X:Cx}{a b c:Expr}{ta tb tc:TE}{pos:Pos}
theorem binT (ha:PE X a ta) (hb:PE X b tb) {LJ:List (Addr × Obj)} {s:Shared} {σ:St} {H:Hp} {R:V->V->Hp->Prop} (I:Inv X LJ σ H s)
  (h:ta σ H fun x H1=>tb σ H1 fun y H2=>R x y H2) {Q:Value->Shared->Prop} {f:Value->Value->Sem Value}
  (hf:∀ v u s2 x y H2,Inv X LJ σ H2 s2->RelV x v->RelV y u->R x y H2->wpAny (model X.prog X.w) X.A (f v u) Q X.xe s2):
  wpAny (model X.prog X.w) X.A (eval a X.env) (fun v s₁=>wpAny (model X.prog X.w) X.A (eval b X.env) (fun u s₂=>wpAny (model X.prog X.w) X.A (f v u) Q X.xe s₂) X.xe s₁) X.xe s:=by
 refine thn (ha LJ s σ H _ I h) fun v s1 ⟨x,H1,I1,r1,q1⟩=>?_;refine thn (hb LJ s1 σ H1 _ I1 q1) fun u s2 ⟨y,H2,I2,r2,q2⟩=>?_;exact hf v u s2 x y H2 I2 r1 r2 q2
theorem ao{op:Operator}{r:R2}(ho:OpR X (binaryOp op) r)(ha:PE X a ta)(hb:PE X b tb):PE X (.BinOp a op b pos) (tOp r ta tb):=by
 intro LJ s σ H Q I h;exact wpAny_BinOp (binT ha hb I h fun v u s2 x y H2 I2 rx ry q=>ho LJ s2 σ H2 x y v u Q I2 rx ry q)
theorem Ib{op:UnaryOp}{r:V->Hp->VK->Prop}(ho:UnR X (unaryOp op) r)(ha:PE X a ta):PE X (.UnaryOp op a pos) (tUn r ta):=by
 intro LJ s σ H Q I h;exact UnaryOp_ (thn (ha LJ s σ H _ I h) fun v s1 ⟨x,H1,I1,r1,q1⟩=>ho LJ s1 σ H1 x v Q I1 r1 q1)
theorem opI {f:Value->Value->Sem Value} {C:Int->Int->Prop} {g:Int->Int->Int}
  (rule:∀(i j:Int) (t u:Tok) (s:Shared) (Q:Value->Shared->Prop) (E:Value->Shared->Prop),C i j->Q (.int (g i j) s.toks) {s with toks:=s.toks+1}->wpAny (model X.prog X.w) X.A (f (.int i t) (.int j u)) Q E s):
  OpR X f (rI C fun i j=>.int (g i j)):=by
 intro LJ s σ H x y v u Q I rx ry h;obtain⟨i,j,rfl,rfl,hc,q⟩:=h;obtain⟨t,rfl⟩:=rx;obtain⟨t',rfl⟩:=ry;exact rule i j t t' s _ _ hc ⟨.int (g i j),H,I.tok _,⟨_,rfl⟩,q⟩
theorem EN {f:Value->Value->Sem Value} {g:Int->Int->Int}
  (rule:∀(i j:Int) (t u:Tok) (s:Shared) (Q:Value->Shared->Prop) (E:Value->Shared->Prop),Q (.int (g i j) s.toks) {s with toks:=s.toks+1}->wpAny (model X.prog X.w) X.A (f (.int i t) (.int j u)) Q E s):
  OpR X f (rI0 fun i j=>.int (g i j)):=by
 intro LJ s σ H x y v u Q I rx ry h;obtain⟨i,j,rfl,rfl,q⟩:=h;obtain⟨t,rfl⟩:=rx;obtain⟨t',rfl⟩:=ry;exact rule i j t t' s _ _ ⟨.int (g i j),H,I.tok _,⟨_,rfl⟩,q⟩
theorem B0 {f:Value->Value->Sem Value} {g:Int->Int->Bool}
  (rule:∀(i j:Int) (t u:Tok) (s:Shared) (Q:Value->Shared->Prop) (E:Value->Shared->Prop),Q (.bool (g i j)) s->wpAny (model X.prog X.w) X.A (f (.int i t) (.int j u)) Q E s):
  OpR X f (rI0 fun i j=>.bl (g i j)):=by
 intro LJ s σ H x y v u Q I rx ry h;obtain⟨i,j,rfl,rfl,q⟩:=h;obtain⟨t,rfl⟩:=rx;obtain⟨t',rfl⟩:=ry;exact rule i j t t' s _ _ ⟨.bl (g i j),H,I,rfl,q⟩
def CDiv(i j:Int):Prop:=0<j/\j<1073741824
def CPow(i j:Int):Prop:=0<=j/\j<=1000000/\i.natAbs<2^64
def CMul(i j:Int):Prop:=(-(2^64)<i/\i<2^64)\/(-(2^64)<j/\j<2^64)
theorem CMul.ok{i j:Int}(h:CMul i j):IntMulOk i j:=by
 rcases h with ⟨h1,h2⟩ | ⟨h1,h2⟩
 . exact .of_left (intBits_le_64 h1 h2)
 . exact .of_right (intBits_le_64 h1 h2)
theorem B1(k:Nat):(0:Int)<=2^k:=by
 rw[two_pow_cast];exact Int.natCast_nonneg _
theorem GQ:OpR X (binaryOp .Add) (rI0 fun i j=>.int (i+j)):=EN fun _ _ _ _ _ _ _ q=>add_int q
theorem GR:OpR X (binaryOp .Sub) (rI0 fun i j=>.int (i-j)):=EN fun _ _ _ _ _ _ _ q=>sub_int q
theorem GS:OpR X (binaryOp .Mult) (rI CMul fun i j=>.int (i*j)):=opI fun _ _ _ _ _ _ _ hc q=>mul_int q hc.ok
theorem FO:OpR X (binaryOp .FloorDiv) (rI CDiv fun i j=>.int (i/j)):=opI fun i j _ _ _ _ _ hc q=>by
 have h1:(0:Int)<j:=hc.1;have h2:j<1073741824:=hc.2;exact floordiv_int (by omega) (by rw[O0 i (by omega)];exact q) (.inl (PyProof.noPylong_small (by omega)))
theorem GT:OpR X (binaryOp .Mod) (rI (fun _ j=>0<j) fun i j=>.int (i%j)):=opI fun i j _ _ _ _ _ hc q=>by
 have h1:(0:Int)<j:=hc;exact mod_int' (by omega) (by rw[Int.fmod_eq_emod_of_nonneg i (by omega)];exact q)
theorem GU:OpR X (binaryOp .RShift) (rI (fun _ j=>0<=j) fun i j=>.int (i/2^j.toNat)):=opI fun i j _ _ _ _ _ hc q=>
 rshift_int hc (by rw[O0 i (B1 _)];exact q)
theorem Ic:OpR X (binaryOp .BitOr) (rI0 fun i j=>.int (Builtin.bitOr i j)):=EN fun _ _ _ _ _ _ _ q=>or_int q
theorem unI {f:Value->Sem Value} {g:Int->Int}
  (rule:∀(i:Int) (t:Tok) (s:Shared) (Q:Value->Shared->Prop) (E:Value->Shared->Prop),Q (.int (g i) s.toks) {s with toks:=s.toks+1}->wpAny (model X.prog X.w) X.A (f (.int i t)) Q E s):
  UnR X f (rU fun i=>.int (g i)):=by
 intro LJ s σ H x v Q I rx h;obtain⟨i,rfl,q⟩:=h;obtain⟨t,rfl⟩:=rx;exact rule i t s _ _ ⟨.int (g i),H,I.tok _,⟨_,rfl⟩,q⟩
theorem GV:UnR X (unaryOp .USub) (rU fun i=>.int (-i)):=unI fun _ _ _ _ _ q=>neg_int q
end
def scal:V->V->Bool
 | .non,.non=>true | .non,.int _=>true | .int _,.non=>true | .non,.bl _=>true | .bl _,.non=>true | .non,.str _=>true | .str _,.non=>true
 | .int _,.int _=>true | .bl _,.bl _=>true | .str _,.str _=>true | .byt _,.byt _=>true
 | .int _,.str _=>true | .str _,.int _=>true | .bl _,.str _=>true | .str _,.bl _=>true
 | _,_=>false
def rEq:R2:=fun x y H Q=>scal x y=true/\Q (.bl (decide (x=y))) H
def rNe:R2:=fun x y H Q=>scal x y=true/\Q (.bl (!decide (x=y))) H
theorem Bl{i j:Int}:decide (V.int i=V.int j)=(i==j):=by
 rw[MA];simp
theorem C7{i j:Bool}:decide (V.bl i=V.bl j)=(i==j):=by
 rw[MA];simp
theorem Bm{i j:Str}:decide (V.str i=V.str j)=(i==j):=by
 rw[MA];simp
theorem Bn{i j:Array UInt8}:decide (V.byt i=V.byt j)=(i.toList==j.toList):=by
 rw[MA];cases i;cases j;simp
section
variable{X:Cx}{a b c:Expr}{ta tb tc:TE}{pos:Pos}
theorem aR{LJ:List (Addr × Obj)}{σ:St}{H:Hp}{s:Shared}{Q:VK}{k k':Bool}(I:Inv X LJ σ H s)(q:Q (.bl k) H)(e:k=k'):EP X LJ σ Q (.bool k') s:=by
 subst e;exact⟨.bl k,H,I,rfl,q⟩
theorem B2:OpR X (compareOp .Eq) rEq:=by
 intro LJ s σ H x y v u Q I rx ry h;obtain⟨hs,q⟩:=h
 cases x with
 | non=>
  cases rx
  cases y with
  | non=>cases ry;exact PySem.EqNone.eq_none_none (aR I q (by simp))
  | bl j=>cases ry;exact PySem.EqNone.eq_none_bool (aR I q (by simp))
  | int j=>obtain⟨t',rfl⟩:=ry;exact PySem.EqNone.eq_none_int (aR I q (by simp))
  | str j=>obtain⟨t',rfl⟩:=ry;exact PySem.EqNone.eq_none_str (aR I q (by simp))
  | _=>exact absurd (show false=true from hs) L7
 | bl i=>
  cases rx
  cases y with
  | non=>cases ry;exact PySem.EqNone.eq_bool_none (aR I q (by simp))
  | bl j=>cases ry;exact eq_bool (aR I q C7)
  | str j=>obtain⟨t',rfl⟩:=ry;exact PySem.EqMixed.eq_bool_str (aR I q (by simp))
  | _=>exact absurd (show false=true from hs) L7
 | int i=>
  obtain⟨t,rfl⟩:=rx
  cases y with
  | non=>cases ry;exact PySem.EqNone.eq_int_none (aR I q (by simp))
  | int j=>obtain⟨t',rfl⟩:=ry;exact eq_int (aR I q Bl)
  | str j=>obtain⟨t',rfl⟩:=ry;exact PySem.EqMixed.eq_int_str (aR I q (by simp))
  | _=>exact absurd (show false=true from hs) L7
 | str i=>
  obtain⟨t,rfl⟩:=rx
  cases y with
  | non=>cases ry;exact PySem.EqNone.eq_str_none (aR I q (by simp))
  | bl j=>cases ry;exact PySem.EqMixed.eq_str_bool (aR I q (by simp))
  | int j=>obtain⟨t',rfl⟩:=ry;exact PySem.EqMixed.eq_str_int (aR I q (by simp))
  | str j=>obtain⟨t',rfl⟩:=ry;exact eq_str (aR I q Bm)
  | _=>exact absurd (show false=true from hs) L7
 | byt i=>
  obtain⟨t,rfl⟩:=rx
  cases y with
  | byt j=>obtain⟨t',rfl⟩:=ry;exact PySem.W.eq_bytes (aR I q Bn)
  | _=>exact absurd (show false=true from hs) L7
 | _=>cases y <;> exact absurd (show false=true from hs) L7
theorem B3:OpR X (compareOp .NotEq) rNe:=by
 intro LJ s σ H x y v u Q I rx ry h;obtain⟨hs,q⟩:=h
 cases x with
 | non=>
  cases rx
  cases y with
  | non=>cases ry;exact PySem.EqNone.ne_none_none (aR I q (by simp))
  | bl j=>cases ry;exact PySem.EqNone.ne_none_bool (aR I q (by simp))
  | int j=>obtain⟨t',rfl⟩:=ry;exact PySem.EqNone.ne_none_int (aR I q (by simp))
  | str j=>obtain⟨t',rfl⟩:=ry;exact PySem.EqNone.ne_none_str (aR I q (by simp))
  | _=>exact absurd (show false=true from hs) L7
 | bl i=>
  cases rx
  cases y with
  | non=>cases ry;exact PySem.EqNone.ne_bool_none (aR I q (by simp))
  | bl j=>cases ry;exact ne_bool (aR I q (congrArg not C7))
  | str j=>obtain⟨t',rfl⟩:=ry;exact PySem.EqMixed.ne_bool_str (aR I q (by simp))
  | _=>exact absurd (show false=true from hs) L7
 | int i=>
  obtain⟨t,rfl⟩:=rx
  cases y with
  | non=>cases ry;exact PySem.EqNone.ne_int_none (aR I q (by simp))
  | int j=>obtain⟨t',rfl⟩:=ry;exact ne_int (aR I q (congrArg not Bl))
  | str j=>obtain⟨t',rfl⟩:=ry;exact PySem.EqMixed.ne_int_str (aR I q (by simp))
  | _=>exact absurd (show false=true from hs) L7
 | str i=>
  obtain⟨t,rfl⟩:=rx
  cases y with
  | non=>cases ry;exact PySem.EqNone.ne_str_none (aR I q (by simp))
  | bl j=>cases ry;exact PySem.EqMixed.ne_str_bool (aR I q (by simp))
  | int j=>obtain⟨t',rfl⟩:=ry;exact PySem.EqMixed.ne_str_int (aR I q (by simp))
  | str j=>obtain⟨t',rfl⟩:=ry;exact ne_str (aR I q (congrArg not Bm))
  | _=>exact absurd (show false=true from hs) L7
 | byt i=>
  obtain⟨t,rfl⟩:=rx
  cases y with
  | byt j=>obtain⟨t',rfl⟩:=ry;exact PySem.W.ne_bytes (aR I q (congrArg not Bn))
  | _=>exact absurd (show false=true from hs) L7
 | _=>cases y <;> exact absurd (show false=true from hs) L7
theorem Id:OpR X (compareOp .Lt) (rI0 fun i j=>.bl (decide (i<j))):=B0 fun _ _ _ _ _ _ _ q=>lt_int q
theorem Ie:OpR X (compareOp .LtE) (rI0 fun i j=>.bl (decide (i<=j))):=B0 fun _ _ _ _ _ _ _ q=>le_int q
theorem Ig:OpR X (compareOp .Gt) (rI0 fun i j=>.bl (decide (j<i))):=B0 fun _ _ _ _ _ _ _ q=>gt_int q
theorem Ih:OpR X (compareOp .GtE) (rI0 fun i j=>.bl (decide (j<=i))):=B0 fun _ _ _ _ _ _ _ q=>ge_int q
theorem C9:OpR X (compareOp .In) (fun x y H Q=>∃ i j,x=.str i/\y=.str j/\Q (.bl (!(Builtin.Str.occurrences j i 0 j.length 1).isEmpty)) H):=by
 intro LJ s σ H x y v u Q I rx ry h;obtain⟨i,j,rfl,rfl,q⟩:=h;obtain⟨t,rfl⟩:=rx;obtain⟨t',rfl⟩:=ry;exact in_str (aR I q rfl)
theorem Da:OpR X (compareOp .Is) (fun x y H Q=>y=.non/\Q (.bl (decide (x=.non))) H):=by
 intro LJ s σ H x y v u Q I rx ry h;obtain⟨rfl,q⟩:=h;cases ry;refine is_none_gen (aR I q ?_)
 cases x <;> first
  | (cases rx;rfl)
  | (obtain⟨t,rfl⟩:=rx;rfl)
theorem FP:OpR X (compareOp .IsNot) (fun x y H Q=>y=.non/\Q (.bl (!decide (x=.non))) H):=by
 intro LJ s σ H x y v u Q I rx ry h;obtain⟨rfl,q⟩:=h;cases ry;refine isnot_none_gen (aR I q ?_)
 cases x <;> first
  | (cases rx;rfl)
  | (obtain⟨t,rfl⟩:=rx;rfl)
theorem ah(b:Expr){op:CmpOp}(h:op≠.In:=by decide)(h2:op≠.NotIn:=by decide):behindInMarks op b=false:=by
 have e1:(op==CmpOp.In)=false:=by cases op <;> first | rfl | exact absurd rfl h
 have e2:(op==CmpOp.NotIn)=false:=by cases op <;> first | rfl | exact absurd rfl h2
 cases b <;> simp[behindInMarks,e1,e2]
theorem aw{op:CmpOp}{r:R2}(ho:OpR X (compareOp op) r)(ha:PE X a ta)(hb:PE X b tb)(hm:behindInMarks op b=false):PE X (.Compare a [op] [b] pos) (tOp r ta tb):=by
 intro LJ s σ H Q I h;exact wpAny_Compare1 (binT ha hb I h fun v u s2 x y H2 I2 rx ry q=>ho LJ s2 σ H2 x y v u Q I2 rx ry q) hm
def tTest(t:TE):TT:=fun σ H Q=>t σ H fun x H'=>∃ k,x=.bl k/\Q k H'
theorem aj{op:CmpOp}{r:R2}(ho:OpR X (compareOp op) r)(ha:PE X a ta)(hb:PE X b tb)(hm:behindInMarks op b=false):PT X (.Compare a [op] [b] pos) (tTest (tOp r ta tb)):=by
 intro LJ s σ H Q I h
 refine wpAny_isTrue_Compare1 (thn (ha LJ s σ H _ I h) fun v s1 ⟨x,H1,I1,r1,q1⟩=>thn (hb LJ s1 σ H1 _ I1 q1) fun u s2 ⟨y,H2,I2,r2,q2⟩=>
  thn (ho LJ s2 σ H2 x y v u _ I2 r1 r2 q2) fun c s3 ⟨z,H3,I3,r3,k,e,q3⟩=>?_) hm
 subst e;cases r3;exact Ny ⟨H3,I3,q3⟩
theorem qF:(sizeLine:Nat)<2^63:=by rw[sizeLine_eq];decide
theorem B4:OpR X (binaryOp .Add) (fun x y H Q=>∃ i j,x=.str i/\y=.str j/\i.length+j.length<=sizeLine/\Q (.str (i++j)) H):=by
 intro LJ s σ H x y v u Q I rx ry h;obtain⟨i,j,rfl,rfl,hz,q⟩:=h;obtain⟨t,rfl⟩:=rx;obtain⟨t',rfl⟩:=ry;exact add_str (fun t' tk=>⟨.str (i++j),H,I.tok _,⟨_,rfl⟩,q⟩) hz
theorem cG{x:V}{us:List Value}(r:Vals [x] us):∃ u,us=[u]/\RelV x u:=by
 cases r with
 | cons r1 r2=>cases r2;exact⟨_,rfl,r1⟩
theorem Ii{x y:V}{us:List Value}(r:Vals [x,y] us):∃ u w',us=[u,w']/\RelV x u/\RelV y w':=by
 cases r with
 | cons r1 r2=>
  cases r2 with
  | cons r3 r4=>cases r4;exact⟨_,_,rfl,r1,r3⟩
theorem xD:CallR X (.type "int") (fun xs H Q=>(∃ i,xs=[.int i]/\Q (.int i) H)\/∃ k,xs=[.bl k]/\Q (.int (if k then 1 else 0)) H):=by
 intro LJ s σ H xs us Q I r h;rcases h with ⟨i,rfl,q⟩ | ⟨k,rfl,q⟩
 . obtain⟨u,rfl,t,rfl⟩:=cG r;exact call_int_int ⟨.int i,H,I,⟨_,rfl⟩,q⟩
 . obtain⟨u,rfl,r1⟩:=cG r;cases r1;exact call_int_bool ⟨.int (if k then 1 else 0),H,I.tok _,⟨_,rfl⟩,q⟩
end
structure ObjM(h:Heap)(x dx C:Addr)(mA:Str->Option Value):Prop where
 obj:h.get? x=some (PySem.W.instObj C dx)
 ns:h.Ns1 dx mA
 ne:dx≠x
variable{mA:Str->Option Value}
theorem Db{h:Heap}{dx:Addr}(n:h.Ns1 dx mA):∃ od,h.get? dx=some od/\∀ name,PySem.W.lookIn name od=some (mA name):=by
 obtain⟨o,es,ep,ho,hd,hk,_,hm⟩:=n;refine⟨o,ho,fun name=>?_⟩;have e:=hm name;unfold nsFind findBy at e;rw[← Array.find?_toList] at e;unfold PySem.W.lookIn;rw[hd];dsimp only
 split
 . rename_i y q
   rw[q] at e;exact congrArg some e
 . rename_i q
   rw[q] at e
   have a:es.toList.any (·.refKey)=false:=by
    rw[List.any_eq_false];intro y hy;obtain⟨z,t,hkey⟩:=hk y (Array.mem_toList_iff.mp hy);simp[DictEntry.refKey,hkey]
   have a':¬ es.toList.any (·.refKey)=true:=by rw[a];exact L7
   rw[Md a'];exact congrArg some e
variable{C:Addr}
theorem ObjM.look{h:Heap}{x dx:Addr}(I:ObjM h x dx C mA):∃ od,PySem.W.InstAt h x (PySem.W.instObj C dx) C (some od)/\∀ name,PySem.W.lookIn name od=some (mA name):=
 let ⟨od,ho,hl⟩:=Db I.ns
 ⟨od,⟨I.obj,rfl,rfl,ho⟩,hl⟩
section
variable{prog:Program}{w:World}{A:Around}{E:Value->Shared->Prop}{s:Shared}{K:Frag}{x dx C f:Addr}{mA:Str->Option Value}{name:Str}{v:Value}
theorem FQ {expr:Bool} {Q:Value->Shared->Prop} (X:K.In s.heap) (I:ObjM s.heap x dx C mA) (hg:PySem.W.plainGet K C name=true) (hh:PySem.W.hasDictIn K C=true)
  (ha:findIn K (.ref C) name=some none) (hv:mA name=some v) (hv':PySem.W.handedIn v=true) (h:Q v {s with toks:=s.toks+1}):
  wpAny (model prog w) A (getAttr (.ref x) name expr) Q E s:=by
 obtain⟨od,J,hl⟩:=I.look;exact PySem.W.get_value X J (OQ hg).1 (PySem.W.findObj_own hh ha rfl (by rw[hl,hv])) hv' h
theorem EO {pl:Sem Bool} {Q:Value × List Value->Shared->Prop} (X:K.In s.heap) (I:ObjM s.heap x dx C mA) (hg:PySem.W.plainGet K C name=true)
  (hf:findIn K (.ref C) name=some (some (.ref f))) (ht:isFn K (.ref f)=true) (hv:mA name=none) (h:Q (.ref f,[.ref x]) s):
  wpAny (model prog w) A (getMethod (.ref x) name pl) Q E s:=by
 obtain⟨od,J,hl⟩:=I.look;exact PySem.W.method_fn X J (OQ hg).1 (OQ hg).2 hf (NO.mp ht) (by show(PySem.W.lookIn name od).map (·.isSome)=some false;rw[hl,hv];rfl) h
theorem FR {ns:List Str} {Q:Unit->Shared->Prop} (X:K.In s.heap) (I:ObjM s.heap x dx C mA)
  (hs:findIn K (.ref C) "__setattr__"=some (some (.builtin "object.__setattr__"))) (hp:PySem.W.plainOver K C=true) (ht:PySem.W.takerIn K C name=some none) (hh:PySem.W.hasDictIn K C=true)
  (hw:PySem.Within mA ns) (hsz:ns.length<=sizeLine)
  (h:∀ h',ObjM h' x dx C (fun y=>if y=name then some v else mA y)->Heap.SameBut dx s.heap h'->Q () {s with heap:=h',toks:=s.toks+2}):
  wpAny (model prog w) A (setAttr (.ref x) name v) Q E s:=by
 obtain⟨od,J,hl⟩:=I.look;refine PySem.W.set_plain X J hs (PySem.W.osa_open (s:={s with toks:=s.toks+1}) (r:=none) X J hp ht fun b=>?_);obtain⟨cd,hc,hd'⟩:=PySem.W.any_some hh;have hx:s.heap.get? x=some ⟨.ref C,some dx,.plain,#[]⟩:=I.obj;refine MM (MW (MM (MM (wpAny_loadPart hx (MM (PySem.W.Looks.here (s:={s with toks:=s.toks+1}) (PySem.W.looks_clsIn X hc) ?_))))));rw[hd'];refine MW (a:=some dx) (MM (MW (MM ?_)));refine wpAny_nsSet1 (s:={s with toks:=s.toks+1}) I.ns fun h' hn2 hs2=>?_;obtain⟨oD,esD,epD,hoD,hdD,hcD⟩:=hn2.count (PySem.Within.cons name v hw);refine MM (wpAny_lookBehind hoD (by rw[hdD];exact pastItsLine_dict (Mi hcD (by rw[My];omega))) ?_);exact MW (h _ ⟨(hs2.2 _ (Pc I.ne)).trans I.obj,hn2,I.ne⟩ hs2)
theorem EQ {R:Result->Shared->Prop} {vs:List Value} {kw:List (Str × Value)} (X:K.In s.heap) (hm:PySem.W.makesIn K C=true)
  (hi:findIn K (.ref C) "__init__"=some (some (.ref f))) (hf:PySem.W.typeIn K (.ref f)=some (.type "function"))
  (h:codeAny (model prog w) (A.under (.builtin "type.__call__" ⟨.ref C::vs,kw⟩)) (.call (.ref f) ⟨.ref (s.heap.objs.size+1)::vs,kw⟩) (PySem.W.InitBack (s.heap.objs.size+1) R)
   {s with heap:=(s.heap.push PySem.W.emptyDict).push (PySem.W.instObj C s.heap.objs.size)}):
  codeAny (model prog w) A (.call (.ref C) ⟨vs,kw⟩) R s:=by
 obtain⟨hh,g,d,t,os⟩:=s;exact PySem.W.make_core (PySem.W.makes_of X hm) (PySem.W.looks_findIn X hi) (fun self=>PySem.W.bind_fn X self hf) (.inl rfl) h
end
def putF(f:Str)(v:V):List (Str × V)->List (Str × V)
 | []=>[(f,v)]
 | (g,x)::r=>if g=f then(g,v)::r else(g,x)::putF f v r
theorem tD(f g:Str)(v:V):∀ fs:List (Str × V),(putF f v fs).lookup g=if g=f then some v else fs.lookup g
 | []=>by
  show List.lookup g [(f,v)]=_;by_cases h:g=f
  . have hb:(g==f)=true:=NO.mpr h;simp only[List.lookup,hb,Mp h]
  . have hb:(g==f)=false:=Oa.mpr h;simp only[List.lookup,hb,Md h]
 | (k,x)::r=>by
  have ih:=tD f g v r;rw[show putF f v ((k,x)::r)=(if k=f then(k,v)::r else(k,x)::putF f v r) from rfl];by_cases hk:k=f
  . rw[Mp hk];by_cases h:g=k
    . have hb:(g==k)=true:=NO.mpr h;simp only[List.lookup,hb,Mp (h.trans hk)]
    . have hb:(g==k)=false:=Oa.mpr h;simp only[List.lookup,hb,Md (fun e:g=f=>h (e.trans hk.symm))]
  . rw[Md hk];by_cases h:g=k
    . have hb:(g==k)=true:=NO.mpr h;simp only[List.lookup,hb,Md (fun e:g=f=>hk (h.symm.trans e))]
    . have hb:(g==k)=false:=Oa.mpr h;simp only[List.lookup,hb];exact ih
theorem qG(f:Str)(v:V):∀ fs:List (Str × V),f∈(putF f v fs).map (·.1)/\∀ g,g∈fs.map (·.1)->g∈(putF f v fs).map (·.1)
 | []=>⟨by simp[putF],fun g h=>by simp at h⟩
 | (k,x)::r=>by
  obtain⟨i1,i2⟩:=qG f v r;rw[show putF f v ((k,x)::r)=(if k=f then(k,v)::r else(k,x)::putF f v r) from rfl];by_cases hk:k=f
  . rw[Mp hk];subst hk;exact⟨by simp,fun g h=>by simpa using h⟩
  . rw[Md hk];refine⟨?_,fun g h=>?_⟩
    . rw[Mx];exact Mc _ i1
    . rw[Mx] at h ⊢;rcases Mn.mp h with e | e
      . exact Mn.mpr (.inl e)
      . exact Mc _ (i2 g e)
theorem tE(f:Str)(v:V):∀ fs:List (Str × V),(putF f v fs).length<=fs.length+1
 | []=>by simp[putF]
 | (k,x)::r=>by
  have ih:=tE f v r;rw[show putF f v ((k,x)::r)=(if k=f then(k,v)::r else(k,x)::putF f v r) from rfl];by_cases hk:k=f
  . rw[Mp hk,My,My];omega
  . rw[Md hk,My,My];omega
variable{o:Option Value}
theorem RelO.some_of{v:V}(r:RelO (some v) o):∃ u,o=some u/\RelV v u:=by
 cases o with
 | none=>exact(show False from r).elim
 | some u=>exact⟨u,rfl,r⟩
abbrev PM:=@RelO.some_of
theorem RelO.none_of(r:RelO none o):o=none:=by
 cases o with
 | none=>rfl
 | some u=>exact(show False from r).elim
theorem Dc{v:V}{u:Value}(r:RelV v u):PySem.W.handedIn u=true:=by
 cases v with
 | non=>cases (show u=Value.none from r);rfl
 | bl b=>cases (show u=Value.bool b from r);rfl
 | int i=>obtain⟨t,e⟩:=(show ∃ t,u=Value.int i t from r);cases e;rfl
 | str x=>obtain⟨t,e⟩:=(show ∃ t,u=Value.str x t from r);cases e;rfl
 | byt b=>obtain⟨t,e⟩:=(show ∃ t,u=Value.bytes b t from r);cases e;rfl
 | flt b=>obtain⟨t,e⟩:=(show ∃ t,u=Value.float b t from r);cases e;rfl
 | ref a=>cases (show u=Value.ref a from r);rfl
 | ty n=>cases (show u=Value.type n from r);rfl
section
variable{P:Program}{w:World}{H H':Hp}{h h':Heap}{a C dx:Addr}{fs fs':List (Str × V)}
theorem sD(hok:HOk P w H h)(e:H a=some (.ins C dx fs)):∃ mA,ObjM h a dx C mA/\(∀ f,RelO (fs.lookup f) (mA f))/\PySem.Within mA (fs.map (·.1))/\fs.length<=1000/\H dx=some (.own a):=by
 obtain⟨d,z,ne,ob,mA,n,r,q⟩:=(show ObjOk P w H h a (.ins C dx fs) from hok a _ e);exact⟨mA,⟨ob,n,ne⟩,r,q,z,d⟩
end
structure Cls(K:Frag)(C:Addr):Prop where
 pg:PySem.W.plainGet K C Str.empty=true
 hd:PySem.W.hasDictIn K C=true
 po:PySem.W.plainOver K C=true
 sa:findIn K (.ref C) "__setattr__"=some (some (.builtin "object.__setattr__"))
theorem Cls.get{K:Frag}(c:Cls K C)(f:Str):PySem.W.plainGet K C f=true:=c.pg
def NoAttr(K:Frag)(C:Addr)(f:Str):Prop:=findIn K (.ref C) f=some none
theorem NoAttr.taker{K:Frag}{f:Str}(n:NoAttr K C f):PySem.W.takerIn K C f=some none:=by
 unfold PySem.W.takerIn;rw[show findIn K (.ref C) f=some none from n];rfl
structure Meth(K:Frag)(C:Addr)(m:Str)(f:Addr):Prop where
 at_:findIn K (.ref C) m=some (some (.ref f))
 fn:isFn K (.ref f)=true
 kp:keepIn K (.ref f)=true
section
variable{X:Cx}{LJ:List (Addr × Obj)}{σ:St}{H:Hp}{s:Shared}{a C dx:Addr}{fs:List (Str × V)}{f:Str}{v:V}{A:Around}{E:Value->Shared->Prop}
theorem B5 {b:Bool} {Q:Value->Shared->Prop} (I:Inv X LJ σ H s) (e:H a=some (.ins C dx fs)) (c:Cls X.K C) (n:NoAttr X.K C f) (l:fs.lookup f=some v)
  (h:∀ u s',Inv X LJ σ H s'->RelV v u->Q u s'):wpAny (model X.prog X.w) A (getAttr (.ref a) f b) Q E s:=by
 obtain⟨mA,O,r,_,_,_⟩:=sD I.hok e;obtain⟨u,hu,ru⟩:=PM (v:=v) (o:=mA f) (by rw[← l];exact r f);exact FQ I.kIn O (c.get f) c.hd n hu (Dc ru) (h u _ (I.tok _) ru)
theorem uU {m:Str} {g:Addr} {pl:Sem Bool} {Q:Value × List Value->Shared->Prop} (I:Inv X LJ σ H s) (e:H a=some (.ins C dx fs)) (c:Cls X.K C) (k:Meth X.K C m g) (l:fs.lookup m=none)
  (h:Q (.ref g,[.ref a]) s):wpAny (model X.prog X.w) A (getMethod (.ref a) m pl) Q E s:=by
 obtain⟨mA,O,r,_,_,_⟩:=sD I.hok e;have hn:mA m=none:=RelO.none_of (by rw[← l];exact r m);exact EO I.kIn O (c.get m) k.at_ k.fn hn h
theorem B6 {y:V} {u:Value} {Q:Unit->Shared->Prop} (I:Inv X LJ σ H s) (e:H a=some (.ins C dx fs)) (c:Cls X.K C) (n:NoAttr X.K C f) (hl:fs.length<1000) (ry:RelV y u)
  (h:∀ s',Inv X LJ σ (upd H a (.ins C dx (putF f y fs))) s'->Q () s'):wpAny (model X.prog X.w) A (setAttr (.ref a) f u) Q E s:=by
 obtain⟨mA,O,r,wi,_,ho⟩:=sD I.hok e;have hz:(fs.map (·.1)).length<=sizeLine:=by rw[LV,sizeLine_eq];omega
 refine FR I.kIn O c.sa c.po n.taker c.hd wi hz fun h' O' sb=>h _ ?_;have hd:∃ o,h'.get? dx=some o:=let ⟨o,_,_,e',_⟩:=O'.ns;⟨o,e'⟩;refine I.write (x:=a) (e:=dx) (by rw[e];exact True.intro) (.inr ho) (fun b q hb z=>(sb.2 b hb).trans z) hd ?_;refine⟨by rw[ai O.ne];exact ho,?_,O.ne,O'.obj,_,O'.ns,fun g=>?_,fun g hg=>?_⟩
 . have:=tE f y fs;omega
 . show RelO ((putF f y fs).lookup g) (if g=f then some u else mA g);rw[tD];by_cases q:g=f
   . rw[Mp q,Mp q];exact ry
   . rw[Md q,Md q];exact r g
 . by_cases q:g=f
   . rw[q];exact(qG f y fs).1
   . refine(qG f y fs).2 g (wi g fun z=>hg ?_);show(if g=f then some u else mA g)=none;rw[Md q];exact z
theorem Inv.made(I:Inv X LJ σ H s):Inv X LJ σ (upd (upd H s.heap.objs.size (.own (s.heap.objs.size+1))) (s.heap.objs.size+1) (.ins C s.heap.objs.size []))
  {s with heap:=(s.heap.push PySem.W.emptyDict).push (PySem.W.instObj C s.heap.objs.size)}:=by
 have e1:(s.heap.push PySem.W.emptyDict).get? s.heap.objs.size=some PySem.W.emptyDict:=MQ s.heap rfl
 have e2:((s.heap.push PySem.W.emptyDict).push (PySem.W.instObj C s.heap.objs.size)).get? (s.heap.objs.size+1)=some (PySem.W.instObj C s.heap.objs.size):=by
  have:=MQ (s.heap.push PySem.W.emptyDict) (o:=PySem.W.instObj C s.heap.objs.size) rfl
  rwa [NQ] at this
 have e3:(s.heap.push PySem.W.emptyDict).Ns s.heap.objs.size (fun _=>none):=⟨PySem.W.emptyDict,#[],_,e1,rfl,(fun e he=>absurd he (by simp)),fun _=>rfl⟩;have I1:=I.laid (a:=s.heap.objs.size) (o:=.own (s.heap.objs.size+1)) (h':=s.heap.push PySem.W.emptyDict) (t':=s.toks) (fun b u q=>Mv _ q) (Mu _) ⟨_,e1⟩;refine I1.laid (a:=s.heap.objs.size+1) (o:=.ins C s.heap.objs.size []) (t':=s.toks) (fun b u q=>Mv _ q) (Nat.le_of_eq (NQ _ _)) ?_;have ne:s.heap.objs.size≠s.heap.objs.size+1:=MT (Ou _);refine⟨by rw[ai ne,ag],M2 _,ne,e2,fun _=>none,(Heap.Ns1.of_empty e3).at fun o q=>Mv _ q,fun _=>True.intro,fun y hy=>absurd rfl hy⟩
theorem FS {prog:Program} {w:World} {env:Env} {e:Expr} {f:Str} {pos:Pos} {s:Shared} {Q:Value->Shared->Prop} (hb:attributeBase e f env (eval e env)=eval e env)
  (h:wpAny (model prog w) A (eval e env) (fun o s₁=>wpAny (model prog w) A (getAttr o f true) Q E s₁) E s):wpAny (model prog w) A (eval (.Attribute e f pos) env) Q E s:=
 Attribute_any_ h (by rw[arm_eval_Attribute,hb])
end
section
variable{X:Cx}{o e value:Expr}{f:Str}{pos pos' tpos:Pos}{ta tv:TE}
end
section
variable{X:Cx}{LJ:List (Addr × Obj)}{σ:St}{H:Hp}{s:Shared}{A:Around}{E:Value->Shared->Prop}{Q:Value->Shared->Prop}{c:Value}{b:Bool}
inductive TyOf(K:Frag)(H:Hp):V->Value->Prop where
 | non:TyOf K H .non (.type "NoneType")
 | bl (x:Bool):TyOf K H (.bl x) (.type "bool")
 | int (i:Int):TyOf K H (.int i) (.type "int")
 | str (x:Str):TyOf K H (.str x) (.type "str")
 | flt (x:UInt64):TyOf K H (.flt x) (.type "float")
 | lst {a:Addr} {xs:List V} (e:H a=some (.lst xs)):TyOf K H (.ref a) (.type "list")
 | frz {a:Addr} {o:Obj} {xs:List V} (e:H a=some (.frz o (.lst xs))):TyOf K H (.ref a) (.type "list")
 | tup {a:Addr} {xs:List V} (e:H a=some (.tup xs)):TyOf K H (.ref a) (.type "tuple")
 | dK {a:Addr} {LN:List (Key × V)} (e:H a=some (.dK LN)):TyOf K H (.ref a) (.type "dict")
 | dT {a:Addr} {LN:List (List Key × V)} (e:H a=some (.dT LN)):TyOf K H (.ref a) (.type "dict")
 | ins {a C dx:Addr} {fs:List (Str × V)} (e:H a=some (.ins C dx fs)) (cl:Cls K C) (ha:findIn K (.ref C) "__class__"=some (some (.builtin "object.__class__")))
   (hn:PySem.W.specialIn K (.builtin "object.__class__") "__get__"=some (some (.builtin "getset_descriptor.__get__"))) (htk:PySem.W.takesIn K (.builtin "object.__class__")=some true)
   (hm:PySem.W.mroIn K C (.type "object")=some true):TyOf K H (.ref a) (.ref C)
theorem Dd{x:V}{u t:Value}(I:Inv X LJ σ H s)(rx:RelV x u)(ty:TyOf X.K H x t)(e:PySem.W.kitOne X.K t c=some b)(h:∀ tk,Q (.bool b) {s with toks:=tk}):
  wpAny (model X.prog X.w) A (call (.builtin "isinstance") [u,c]) Q E s:=by
 cases ty with
 | non=>cases (show u=Value.none from rx);exact Ni PySem.W.kitx_none I.kIn True.intro e (fun z=>nomatch z) h
 | bl y=>cases (show u=Value.bool y from rx);exact Ni PySem.W.kitx_bool I.kIn True.intro e (fun z=>nomatch z) h
 | int i=>obtain⟨t,q⟩:=(show ∃ t,u=Value.int i t from rx);cases q;exact Ni PySem.W.kitx_int I.kIn True.intro e (fun z=>nomatch z) h
 | str y=>obtain⟨t,q⟩:=(show ∃ t,u=Value.str y t from rx);cases q;exact Ni PySem.W.kitx_str I.kIn True.intro e (fun z=>nomatch z) h
 | flt y=>obtain⟨t,q⟩:=(show ∃ t,u=Value.float y t from rx);cases q;exact Ni PySem.W.kitx_float I.kIn True.intro e (fun z=>nomatch z) h
 | @lst a xs ea=>
  cases (show u=Value.ref a from rx);obtain⟨_,_,n,_,h1⟩:=(show ObjOk X.prog X.w H s.heap a (.lst xs) from I.hok a _ ea);exact Ni PySem.W.kitx_list I.kIn ⟨_,h1,rfl⟩ e (fun z=>nomatch z) h
 | @frz a ob xs ea=>
  cases (show u=Value.ref a from rx);obtain⟨_,_,_,n,_,h1⟩:=(show ObjOk X.prog X.w H s.heap a (.frz ob (.lst xs)) from I.hok a _ ea);exact Ni PySem.W.kitx_list I.kIn ⟨_,h1,rfl⟩ e (fun z=>nomatch z) h
 | @tup a xs ea=>
  cases (show u=Value.ref a from rx);obtain⟨_,_,_,p⟩:=(show ObjOk X.prog X.w H s.heap a (.tup xs) from I.hok a _ ea);obtain⟨o,h1,h2,_⟩:=p;exact Ni PySem.W.kitx_tuple I.kIn ⟨o,h1,h2⟩ e (fun z=>nomatch z) h
 | @dK a LN ea=>
  cases (show u=Value.ref a from rx);obtain⟨_,_,vs,_,p⟩:=(show ObjOk X.prog X.w H s.heap a (.dK LN) from I.hok a _ ea);obtain⟨o,es,ep,h1,h2,_⟩:=p;exact Ni PySem.W.kitx_dict I.kIn ⟨o,h1,h2.1⟩ e (fun z=>nomatch z) h
 | @dT a LN ea=>
  cases (show u=Value.ref a from rx);obtain⟨_,_,xs,_,o,es,ep,h1,h2,_⟩:=(show ObjOk X.prog X.w H s.heap a (.dT LN) from I.hok a _ ea);exact Ni PySem.W.kitx_dict I.kIn ⟨o,h1,h2.1⟩ e (fun z=>nomatch z) h
 | @ins a C dx fs ea cl ha hn htk hm=>
  cases (show u=Value.ref a from rx);obtain⟨mA,O,_⟩:=sD I.hok ea;obtain⟨od,J,_⟩:=O.look;exact Ni (PySem.W.kitx_own (cl.get _) cl.hd ha hn htk hm) I.kIn J e (fun z=>nomatch z) h
end
structure Room(k:Nat)(A:Around):Prop where
 hd:A.handled=none
 dp:A.depth+3*k+5<recursionLimit
 un:A.units+16*k+200<cLine
variable{A:Around}
theorem Room.mono{j k:Nat}(r:Room k A)(h:j<=k):Room j A:=⟨r.hd,by have:=r.dp;omega,by have:=r.un;omega⟩
theorem Room.deeper{k:Nat}(r:Room (k+1) A)(env:Env):Room k (A.deeper env):=
 ⟨r.hd,by have:=r.dp;show A.depth+1+3*k+5<_;omega,by have:=r.un;show A.units+3+16*k+200<_;omega⟩
variable{us:List Value}{kw:List (Str × Value)}
theorem B7{C:Addr}:(A.under (.builtin "type.__call__" ⟨.ref C::us,kw⟩)).depth=A.depth+1:=by
 first | rfl | simp[Around.under,Code.weight,Code.isCreation,Code.isGuard,Code.isCaller,Code.frames,Code.isFrame,guardIds]
theorem B8{C:Addr}:(A.under (.builtin "type.__call__" ⟨.ref C::us,kw⟩)).units=A.units+1:=by
 first | rfl | simp[Around.under,Code.cUnits,Code.frames,Code.isFrame]
theorem Room.make{k:Nat}(r:Room (k+1) A)(C:Addr)(us:List Value)(kw:List (Str × Value)):Room k (A.under (.builtin "type.__call__" ⟨.ref C::us,kw⟩)):=
 ⟨r.hd,by have:=r.dp;rw[B7];omega,by have:=r.un;rw[B8];omega⟩
theorem Room.depth{k:Nat}(r:Room k A):A.depth<recursionLimit:=by have:=r.dp;omega
theorem Room.units{k:Nat}(r:Room k A):A.units+64<cLine:=by have:=r.un;omega
def tNil:TA:=fun _ H Q=>Q [] H
def tCons(ta:TE)(tr:TA):TA:=fun σ H Q=>ta σ H fun x H1=>tr σ H1 fun xs H2=>Q (x::xs) H2
section
variable{X:Cx}{e:Expr}{es:List Expr}{te:TE}{t:TA}{pos:Pos}
theorem ab:PA X [] tNil:=fun _ _ _ _ H Q I h=>Oi ⟨[],H,I,.nil,h⟩
theorem aa(ha:PE X e te)(hr:PA X es t)(hs:starEach (e::es) X.env=(false,eval e X.env)::starEach es X.env:=by rfl):PA X (e::es) (tCons te t):=by
 intro pos LJ s σ H Q I h;rw[hs];show wpAny _ _ (spliced ((false,eval e X.env)::backTo pos (starEach es X.env))) _ _ s;refine Od (thn (ha LJ s σ H _ I h) fun u s1 ⟨x,H1,I1,r1,q1⟩=>?_);exact thn (hr pos LJ s1 σ H1 _ I1 q1) fun us s2 ⟨xs,H2,I2,r2,q2⟩=>⟨x::xs,H2,I2,.cons r1 r2,q2⟩
def tTup(t:TA):TE:=fun σ H Q=>t σ H fun xs H1=>xs.length<=sizeLine/\∀ p,H1 p=none->Q (.ref p) (upd H1 p (.tup xs))
def tLst(t:TA):TE:=fun σ H Q=>t σ H fun xs H1=>xs.length<=sizeLine/\∀ p,H1 p=none->Q (.ref p) (upd H1 p (.lst xs))
theorem bY{x1}(h:PA X es t):PE X (.Tuple es x1 pos) (tTup t):=by
 intro LJ s σ H Q I hq;refine wpAny_Tuple_spliced (thn (h pos LJ s σ H _ I hq) fun us s1 ⟨xs,H1,I1,r,z,q⟩=>⟨by rw[← r.length];exact z,?_⟩);have hf:H1 s1.heap.objs.size=none:=I1.hok.fresh (Mu _);refine⟨.ref s1.heap.objs.size,upd H1 s1.heap.objs.size (.tup xs),I1.laid (t':=s1.toks) (fun b u e=>Mv _ e) (Mu _) ?_,rfl,q _ hf⟩;exact⟨z,us,r,⟨_,MQ _ rfl,rfl,_,rfl⟩⟩
theorem ax(h:PA X es t):PE X (.List es pos) (tLst t):=by
 intro LJ s σ H Q I hq;refine wpAny_List_spliced (thn (h pos LJ s σ H _ I hq) fun us s1 ⟨xs,H1,I1,r,z,q⟩=>⟨by rw[← r.length];exact z,?_⟩);have hf:H1 s1.heap.objs.size=none:=I1.hok.fresh (Mu _);refine⟨.ref s1.heap.objs.size,upd H1 s1.heap.objs.size (.lst xs),I1.laid (t':=s1.toks) (fun b u e=>Mv _ e) (Mu _) ?_,rfl,q _ hf⟩;exact⟨z,us,0,r,MQ _ rfl⟩
end
abbrev Sp:=List V->Hp->VK->XK->Prop
abbrev CXT:=List Env->Hp->Shared->XK->Value->Shared->Prop
structure Env0(P:Program)(w:World)(K:Frag)(mg:Str->Option Value)(base:Heap)(A:Around)(outer:List Env)(s:Shared)(H:Hp):Prop where
 frames:A.frames=some outer
 mod:Mod K mg base
 bs:∀ b o,base.get? b=some o->s.heap.get? b=some o/\H b=none
 bsz:base.objs.size<=s.heap.objs.size
 funs:s.heap.FunFrames base outer
 frf:∀ b∈frs outer,H b=none
 hok:HOk P w H s.heap
 bare:AllBare s.gens
def CE(outer:List Env)(P:Program)(w:World)(H:Hp)(s:Shared)(Q:VK)(u:Value)(s':Shared):Prop:=
 ∃ v H',s'.os=s.os/\AllBare s'.gens/\Un (frs outer) [] H H' s.heap s'.heap/\HOk P w H' s'.heap/\RelV v u/\Q v H'
def CR(CX:CXT)(outer:List Env)(P:Program)(w:World)(H:Hp)(s:Shared)(Q:VK)(E:XK)(r:Result)(s':Shared):Prop:=
 match r with
 | .ok (.ret u)=>CE outer P w H s Q u s'
 | .ok _=>False
 | .error e=>CX outer H s E e s'
structure FnOk(P:Program)(w:World)(K:Frag)(mg:Str->Option Value)(base:Heap)(CX:CXT)(k:Nat)(f:Addr)(fd:FuncData)(ps:List Str)(sp:Sp):Prop where
 len:∀ vs H Q E,sp vs H Q E->vs.length=ps.length
 run:∀(A:Around) (outer:List Env) (s:Shared) (H:Hp) (args:Args) (us:List Value) (vs:List V) (Q:VK) (E:XK),Room k A->Env0 P w K mg base A outer s H->BindsTo s fd args (ps.zip us)->Vals vs us->sp vs H Q E->
  codeAny (model P w) A (.call (.ref f) args) (CR CX outer P w H s Q E) s
variable{P:Program}{w:World}{K:Frag}{mg:Str->Option Value}{base:Heap}{CX:CXT}{f:Addr}{fd:FuncData}{ps:List Str}
theorem FnOk.mono{j k:Nat}{sp:Sp}(F:FnOk P w K mg base CX j f fd ps sp)(h:j<=k):
  FnOk P w K mg base CX k f fd ps sp:=⟨F.len,fun A outer s H args us vs Q E hr=>F.run A outer s H args us vs Q E (hr.mono h)⟩
theorem FnOk.imp {k:Nat} {sp sp':Sp} (F:FnOk P w K mg base CX k f fd ps sp)
  (h:∀ vs H Q E,sp' vs H Q E->sp vs H Q E):FnOk P w K mg base CX k f fd ps sp':=
 ⟨fun vs H Q E q=>F.len vs H Q E (h _ _ _ _ q),fun A outer s H args us vs Q E hr he hb hv hs=>F.run A outer s H args us vs Q E hr he hb hv (h _ _ _ _ hs)⟩
variable{outer:List Env}
theorem Env0.make{s:Shared}{H:Hp}(e:Env0 P w K mg base A outer s H)(C:Addr)(us:List Value)(kw:List (Str × Value)):
  Env0 P w K mg base (A.under (.builtin "type.__call__" ⟨.ref C::us,kw⟩)) outer s H:=⟨by first | exact e.frames | (simpa [Around.under,Code.envs,Code.isFrame,pushEnvs] using e.frames),e.mod,e.bs,e.bsz,e.funs,e.frf,e.hok,e.bare⟩
section
variable{X:Cx}{LJ:List (Addr × Obj)}{σ:St}{H:Hp}{s s':Shared}
theorem Inv.env0(I:Inv X LJ σ H s):Env0 X.prog X.w X.K X.mg X.base X.A X.stack s H:=
 ⟨I.ok.frames,I.ok.mod,I.bs,Mi I.ok.bsz I.sz,I.stack,I.stkFree,I.hok,I.bare⟩
theorem Inv.after{Q:VK}{u:Value}(I:Inv X LJ σ H s)(h:CE X.stack X.prog X.w H s Q u s'):EP X LJ σ Q u s':=by
 obtain⟨v,H',os,bare,un,hok,r,q⟩:=h;obtain⟨hh,g,d,t,os'⟩:=s';obtain rfl:os'=s.os:=os;exact⟨v,H',I.call (h':=hh) (g':=g) (d':=d) (t':=t) (ch:=[]) un hok bare (fun b z=>absurd z (by simp)),r,q⟩
end
def tCall(sp:Sp)(dvs:List V)(E:XK)(t:TA):TE:=fun σ H Q=>t σ H fun vs H1=>sp (vs++dvs) H1 Q E
def tMake(C:Addr)(sp:Sp)(dvs:List V)(E:XK)(t:TA):TE:=fun σ H Q=>t σ H fun vs H1=>∀ x dx,H1 x=none->H1 dx=none->dx≠x->
 sp (.ref x::(vs++dvs)) (upd (upd H1 dx (.own x)) x (.ins C dx [])) (fun v H2=>v=.non/\Q (.ref x) H2) E
def Binds(K:Frag)(fd:FuncData)(ps:List Str)(ds:List Value):Prop:=
 ∀(s:Shared) (us:List Value),K.In s.heap->(us++ds).length=ps.length->BindsTo s fd ⟨us,[]⟩ (ps.zip (us++ds))
theorem Binds.all(h:∀ us:List Value,us.length=ps.length->bindArgs fd ⟨us,[]⟩=pure (ps.zip us)):Binds K fd ps []:=fun s us _ hl=>by
 rw[OK] at hl ⊢;exact .of_eq (h us hl)
def qH(CX:CXT)(X:Cx)(E:XK):Prop:=∀(LJ:List (Addr × Obj)) (σ:St) (H:Hp) (s:Shared) (e:Value) (s':Shared),Inv X LJ σ H s->CX X.stack H s E e s'->X.xe e s'
section
variable{X:Cx}{CX:CXT}{k:Nat}{f C:Addr}{fd:FuncData}{ps:List Str}{sp:Sp}{dvs:List V}{ds:List Value}{E:XK}{x m:Str}{p pos apos:Pos}{e o:Expr}{es:List Expr}{ta:TE}{t:TA}
theorem zg {LJ:List (Addr × Obj)} {σ:St} {H:Hp} {s:Shared} {Q:VK} {us:List Value} {vs:List V} (F:FnOk X.prog X.w X.K X.mg X.base CX k f fd ps sp) (hr:Room k X.A) (hb:Binds X.K fd ps ds) (hd:Vals dvs ds) (hx:qH CX X E)
  (I:Inv X LJ σ H s) (r:Vals vs us) (h:sp (vs++dvs) H Q E):wpAny (model X.prog X.w) X.A (call (.ref f) us) (EP X LJ σ Q) X.xe s:=by
 have r2:Vals (vs++dvs) (us++ds):=r.append hd;have hl:(us++ds).length=ps.length:=by rw[← r2.length];exact F.len _ _ _ _ h
 refine wpAny_call (PN (F.run X.A X.stack s H ⟨us,[]⟩ (us++ds) (vs++dvs) Q E hr I.env0 (hb s us I.kIn hl) r2 h) fun r s' hq=>?_)
 cases r with
 | error e=>exact hx LJ σ H s e s' I hq
 | ok fl=>
  cases fl with
  | ret u=>exact I.after hq
  | next=>exact False.elim hq
  | brk=>exact False.elim hq
  | cont=>exact False.elim hq
theorem FT (F:FnOk X.prog X.w X.K X.mg X.base CX k f fd ps sp) (hr:Room k X.A) (hg:Gl X x) (hm:X.mg x=some (.ref f)) (hk:keepIn X.K (.ref f)=true) (hb:Binds X.K fd ps ds) (hd:Vals dvs ds) (hx:qH CX X E)
  (ha:PA X (e::es) t) (hdb:(x==("__debug__":Str))=false:=by decide) (he:starEach (e::es) X.env=(false,eval e X.env)::starEach es X.env:=by rfl) (hpl:(backTo pos (starEach es X.env)).any (·.1)=false:=by rfl):
  PE X (.Call (.Name x p) (e::es) [] pos) (tCall sp dvs E t):=by
 intro LJ s σ H Q I h;refine Nt (wQ I hg hm ?_ hdb);refine O1 (h₀:=X.base) I.ok.mod.kin hk (thn (ha pos LJ s σ H _ I h) fun us s1 ⟨vs,H1,I1,r,q⟩=>⟨I1.kIn,?_⟩) he hpl;exact zg F hr hb hd hx I1 r q
structure Mk(K:Frag)(C f:Addr):Prop where
 makes:PySem.W.makesIn K C=true
 init:findIn K (.ref C) "__init__"=some (some (.ref f))
 fn:isFn K (.ref f)=true
 kp:keepIn K (.ref C)=true
theorem ER {LJ:List (Addr × Obj)} {σ:St} {H:Hp} {s:Shared} {Q:VK} {us:List Value} {vs:List V} (M:Mk X.K C f) (F:FnOk X.prog X.w X.K X.mg X.base CX k f fd ps sp) (hr:Room (k+1) X.A) (hb:Binds X.K fd ps ds) (hd:Vals dvs ds)
  (hx:qH CX X E) (I:Inv X LJ σ H s) (r:Vals vs us)
  (h:∀ x dx,H x=none->H dx=none->dx≠x->sp (.ref x::(vs++dvs)) (upd (upd H dx (.own x)) x (.ins C dx [])) (fun v H2=>v=.non/\Q (.ref x) H2) E):
  wpAny (model X.prog X.w) X.A (call (.ref C) us) (EP X LJ σ Q) X.xe s:=by
 have hq:=h (s.heap.objs.size+1) s.heap.objs.size (I.hok.fresh (OE _)) (I.hok.fresh (Mu _)) (MT (Ou _));have I2:=Inv.made (C:=C) I;have r2:Vals (V.ref (s.heap.objs.size+1)::(vs++dvs)) (Value.ref (s.heap.objs.size+1)::(us++ds)):=.cons rfl (r.append hd)
 have hl:(Value.ref (s.heap.objs.size+1)::us++ds).length=ps.length:=by
  have e:=r2.length;rw[F.len _ _ _ _ hq] at e;exact e.symm
 refine wpAny_call (EQ (f:=f) I.kIn M.makes M.init (NO.mp M.fn) (PN (F.run _ X.stack _ _ ⟨Value.ref (s.heap.objs.size+1)::us,[]⟩ (Value.ref (s.heap.objs.size+1)::(us++ds)) _ _ E (hr.make C us [])
  (I2.env0.make C us []) (hb _ (Value.ref (s.heap.objs.size+1)::us) I2.kIn hl) r2 hq) fun r s' hq'=>?_))
 cases r with
 | error e=>exact hx LJ σ _ _ e s' I2 hq'
 | ok fl=>
  cases fl with
  | ret u=>
   obtain⟨v,H',I3,rv,ev,q3⟩:=I2.after hq';subst ev;exact⟨rv,⟨V.ref (s.heap.objs.size+1),H',I3,rfl,q3⟩⟩
  | next=>exact False.elim hq'
  | brk=>exact False.elim hq'
  | cont=>exact False.elim hq'
theorem FU (M:Mk X.K C f) (F:FnOk X.prog X.w X.K X.mg X.base CX k f fd ps sp) (hr:Room (k+1) X.A) (hg:Gl X x) (hm:X.mg x=some (.ref C)) (hb:Binds X.K fd ps ds) (hd:Vals dvs ds) (hx:qH CX X E)
  (ha:PA X (e::es) t) (hdb:(x==("__debug__":Str))=false:=by decide) (he:starEach (e::es) X.env=(false,eval e X.env)::starEach es X.env:=by rfl) (hpl:(backTo pos (starEach es X.env)).any (·.1)=false:=by rfl):
  PE X (.Call (.Name x p) (e::es) [] pos) (tMake C sp dvs E t):=by
 intro LJ s σ H Q I h;refine Nt (wQ I hg hm ?_ hdb);refine O1 (h₀:=X.base) I.ok.mod.kin M.kp (thn (ha pos LJ s σ H _ I h) fun us s1 ⟨vs,H1,I1,r,q⟩=>⟨I1.kIn,?_⟩) he hpl;exact ER M F hr hb hd hx I1 r q
end
section
variable{X:Cx}{CX:CXT}{k:Nat}{f C:Addr}{fd:FuncData}{ps ks:List Str}{sp:Sp}{E:XK}{x m:Str}{p pos apos kpos:Pos}{e o:Expr}{es:List Expr}{kws:List Keyword}{te ta:TE}{t tk:TA}{nm:Option Str}
variable{g:List Value->List Value->List Value}{gV:List V->List V->List V}
end
structure lz(N P:List Str)(sc:Scope):Prop where
 kind:sc.kind=.function
 co:sc.isCoroutine=false
 gen:sc.isGenerator=false
 nd:N.Nodup
 pre:N.take P.length=P
 par:∀ x∈P,sc.names.lookup x=some .local\/sc.names.lookup x=some .cell
 nofree:∀ y∈sc.names,y.2≠.free
theorem xE{kindOf:Str->Option NameKind}{x:Str}:∀{binds:List (Str × Value)} {m:Str->Option Value},(∀ v,(x,v)∉binds)->bindL kindOf binds m x=m x
 | [],_,_=>rfl
 | (n,v)::r,m,h=>by
  unfold bindL;rw[xE fun w hw=>h w (Mc _ hw)]
  split
  . have:x≠n:=by rintro rfl;exact h v Mf
    simp[this]
  . rfl
theorem xG{kindOf:Str->Option NameKind}{x:Str}:∀{binds:List (Str × Value)} {m:Str->Option Value},(∀ v,(x,v)∉binds)->bindC kindOf binds m x=m x
 | [],_,_=>rfl
 | (n,v)::r,m,h=>by
  unfold bindC;rw[xG fun w hw=>h w (Mc _ hw)]
  split
  . rfl
  . have:x≠n:=by rintro rfl;exact h v Mf
    simp[this]
theorem xH{kindOf:Str->Option NameKind}{x:Str}{v:Value}:∀{P:List Str} {vs:List Value} {i:Nat} {m:Str->Option Value},P.Nodup->P[i]? =some x->vs[i]? =some v->kindOf x=some .local->
  bindL kindOf (P.zip vs) m x=some v
 | [],_,_,_,_,h,_,_=>by simp at h
 | _::_,[],_,_,_,_,h,_=>by simp at h
 | p::P,w::vs,0,m,nd,h1,h2,hk=>by
  simp at h1 h2;subst h1;subst h2;show bindL kindOf ((p,w)::P.zip vs) m p=_;unfold bindL;rw[xE fun v hv=>(M6.mp nd).1 (Px hv).1,Mp hk];simp
 | p::P,w::vs,i+1,m,nd,h1,h2,hk=>by
  show bindL kindOf ((p,w)::P.zip vs) m x=_;unfold bindL;exact xH (i:=i) (M6.mp nd).2 (by simpa using h1) (by simpa using h2) hk
theorem xI{kindOf:Str->Option NameKind}{x:Str}{v:Value}:∀{P:List Str} {vs:List Value} {i:Nat} {m:Str->Option Value},P.Nodup->P[i]? =some x->vs[i]? =some v->kindOf x≠some .local->
  bindC kindOf (P.zip vs) m x=some v
 | [],_,_,_,_,h,_,_=>by simp at h
 | _::_,[],_,_,_,_,h,_=>by simp at h
 | p::P,w::vs,0,m,nd,h1,h2,hk=>by
  simp at h1 h2;subst h1;subst h2;show bindC kindOf ((p,w)::P.zip vs) m p=_;unfold bindC;rw[xG fun v hv=>(M6.mp nd).1 (Px hv).1,Md hk];simp
 | p::P,w::vs,i+1,m,nd,h1,h2,hk=>by
  show bindC kindOf ((p,w)::P.zip vs) m x=_;unfold bindC;exact xI (i:=i) (M6.mp nd).2 (by simpa using h1) (by simpa using h2) hk
def start(N:List Str)(vs:List V):St:=vs.map some++List.replicate (N.length-vs.length) none
def cxOf(CX:CXT)(P:Program)(w:World)(K:Frag)(mg:Str->Option Value)(base:Heap)(N:List Str)(qual:Str)(scope:Scope)(f:Addr)(cd:Value)(A:Around)(outer:List Env)(s:Shared)(H:Hp)(E:XK):Cx where
 prog:=P
 w:=w
 K:=K
 mg:=mg
 base:=base
 A:=A.deeper (envOfC qual scope s.heap.objs.size f cd)
 N:=N
 s₀:=s
 H₀:=H
 env:=envOfC qual scope s.heap.objs.size f cd
 outer:=outer
 stack:=envOfC qual scope s.heap.objs.size f cd::outer
 ex:=[]
 calm:=true
 fn:=fun _=>true
 pn:=[]
 xe:=fun e s'=>wpAny (model P w) (A.deeper (envOfC qual scope s.heap.objs.size f cd)) (leaving (envOfC qual scope s.heap.objs.size f cd) e) (fun _ s''=>CX outer H s E e s'') (fun e' s''=>CX outer H s E e' s'') s'
theorem pE{sc:Scope}{n:Nat}{x:Str}(h:sc.names.lookup x=some .cell):∃ c,(cellsFrom n sc.names []).lookup x=some c:=by
 have q:=Po sc.names n [] (.inl h);exact Option.isSome_iff_exists.mp q
variable{scope:Scope}
theorem Df {N:List Str} {qual:Str} {cd:Value} {s s1:Shared} {H:Hp} {E:XK} {vs:List V}
  (S:lz N ps scope) (hd:A.handled=none) (e0:Env0 P w K mg base A outer s H) (hl:vs.length=ps.length) (r:Vals vs us)
  (x:InCallC s s.heap.objs.size (bindL (envOfC qual scope s.heap.objs.size f cd).kindOf (ps.zip us) fun _=>none) (cellsFrom (s.heap.objs.size+1) scope.names []) (bindC (envOfC qual scope s.heap.objs.size f cd).kindOf (ps.zip us) fun _=>none) s1):
  Inv (cxOf CX P w K mg base N qual scope f cd A outer s H E) [] (start N vs) H s1:=by
 have hpl:ps.length<=N.length:=by have:=congrArg List.length S.pre;rw[Nb] at this;omega
 obtain⟨h1,tk,rfl,hk⟩:=x.done;have noA:∀ b:Addr,b∉(cxOf CX P w K mg base N qual scope f cd A outer s H E).ex:=fun b z=>absurd (show b∈([]:List Addr) from z) (by simp)
 refine⟨⟨e0.mod,S.kind,rfl,rfl,Mu _,fun y z c h1 h2=>?_,fun y hy=>?_,fun y c _ h=>?_,fun _=>hd,Around.frames_deeper e0.frames,.inr ⟨rfl,rfl⟩,fun b z=>absurd z (noA b),e0.bs,e0.bsz,fun b _ _=>noA b,fun b z=>absurd z (noA b),e0.funs,e0.frf⟩,
  rfl,e0.bare,Un.kept hk,⟨_,x.toInCall.ns,fun i y v h1 h2 h3=>?_⟩,fun y c h=>⟨_,x.cell y c h⟩,e0.hok.fresh (Mu _),fun y c h=>?_,fun p hp=>absurd (show p∈([]:List (Addr × Obj)) from hp) (by simp),e0.hok.kept hk,?_⟩
 . exact name_of_addr x.apart (Nd h1) (Nd h2)
 . have hy:scope.names.lookup y=some .cell\/scope.names.lookup y=some .free:=hy;rcases hy with hy | hy
   . exact pE hy
   . exact absurd rfl (S.nofree _ (Nd hy))
 . exact MS (x.above y c (Nd h))
 . have hi:i<vs.length:=by
    unfold start at h2;by_cases hi:i<vs.length
    . exact hi
    . rw[MO (by simpa using hi)] at h2;rw[List.getElem?_replicate] at h2
      split at h2 <;> cases h2
   have ha:vs[i]? =some v:=by
    unfold start at h2;rw[MG (by simpa using hi),L9] at h2
    cases e:vs[i]? with
    | none=>rw[e] at h2;cases h2
    | some a=>rw[e] at h2;cases h2;rfl
   obtain⟨u,hu,rv⟩:=r.get ha
   have hp:ps[i]? =some y:=by
    rw[← S.pre,List.getElem?_take_of_lt (by omega)];exact h1
   have ndP:ps.Nodup:=by rw[← S.pre];exact S.nd.sublist (Oj _ _)
   refine⟨u,rv,?_⟩;rcases S.par y (L5 hp) with k | k
   . exact .inl ⟨k,xH ndP hp hu k⟩
   . obtain⟨c,e⟩:=pE (n:=s.heap.objs.size+1) k;refine .inr ⟨.inl k,c,e,?_⟩;have q:=x.cell y c e;rw[xI ndP hp hu (by show scope.names.lookup y≠_;rw[k];decide)] at q;exact q
 . exact e0.hok.fresh (MS (x.above y c (Nd h)))
 . unfold start;show _=N.length;rw[Mz,LV,List.length_replicate];omega
theorem Ij {k:Nat} {name qual:Str} {params:Arguments} {body:List Stmt} {dV kV doc pm LL ct oc:Value} {an od:Option Addr}
  {osl:Array (Option Value)} {N ps:List Str} {sp:Sp} (lk:K.lookup f=some ⟨oc,od,.func (fnOf name qual params body scope dV kV doc pm an LL ct),osl⟩) (hcd:codeIn K LL qual=true) (S:lz N ps scope)
  (len:∀ vs H Q E,sp vs H Q E->vs.length=ps.length)
  (hbody:∀(A:Around) (outer:List Env) (s:Shared) (H:Hp) (vs:List V) (Q:VK) (E:XK),Room k (A.deeper (envOfC qual scope s.heap.objs.size f LL))->sp vs H Q E->
   ∃ t,PSs (cxOf CX P w K mg base N qual scope f LL A outer s H E) body t/\t {nx:=fun _ H'=>Q .non H',rt:=Q} (start N vs) H):
  FnOk P w K mg base CX (k+1) f (fnOf name qual params body scope dV kV doc pm an LL ct) ps sp:=by
 refine⟨len,fun A outer s H args us vs Q E hr e0 hb r hsp=>?_⟩;have hl:=len _ _ _ _ hsp;have KX:K.In s.heap:=e0.mod.kin.keeps fun b o e=>(e0.bs b o e).1;have lim:s.heap.NoLimit:=e0.mod.nolimit.keeps fun b o e=>(e0.bs b o e).1
 have hkind:∀ y∈ps.zip us,scope.names.lookup y.1=some .local\/(scope.names.lookup y.1=some .cell/\((cellsFrom (s.heap.objs.size+1) scope.names []).lookup y.1).isSome=true):=fun⟨n,v⟩ hy=>by
  rcases S.par n (Px hy).1 with q | q
  . exact .inl q
  . exact .inr ⟨q,Po _ _ _ (.inl q)⟩
 refine codeAny_call_function hr.depth (KX _ _ lk) rfl S.co S.gen rfl (PySem.W.codeRec_of KX hcd) (hb _ _ _ _ ?_);refine wpAny_newFunctionEnv_cells S.kind hkind fun env he s1 x=>?_;subst he;refine⟨lim.keeps x.toInCall.keep,codeAny_func ?_⟩;obtain⟨t,ht,hq⟩:=hbody A outer s H vs Q E (hr.deeper _) hsp;have I:Inv (cxOf CX P w K mg base N qual scope f LL A outer s H E) [] (start N vs) H s1:=Df S hr.hd e0 hl r x;refine Nh (ht [] s1 (start N vs) H _ I hq) (fun fl s' hs=>?_) fun e s' hs=>hs
 have fin:∀{σ':St} {H':Hp} {v:V} {u:Value},Inv (cxOf CX P w K mg base N qual scope f LL A outer s H E) [] σ' H' s'->RelV v u->Q v H'->CE outer P w H s Q u s':=
  fun{σ' H' v u} J rv q=>⟨v,H',J.os,J.bare,J.base,J.hok,rv,q⟩
 cases fl with
 | ret u=>
  obtain⟨v,σ',H',J,rv,q⟩:=hs;exact fin J rv q
 | next=>
  obtain⟨σ',H',J,q⟩:=hs;exact fin (v:=V.non) (u:=Value.none) J rfl q
 | brk=>
  obtain⟨_,_,_,q⟩:=hs;exact False.elim q
 | cont=>
  obtain⟨_,_,_,q⟩:=hs;exact False.elim q
section
variable{X:Cx}{x:Str}{p pos:Pos}{e:Expr}{es:List Expr}{t:TA}{id T:String}{r:List V->Hp->VK->Prop}
def tCB(r:List V->Hp->VK->Prop)(t:TA):TE:=fun σ H Q=>t σ H fun vs H1=>r vs H1 Q
theorem ar (hc:CallR X (.builtin id) r) (hg:Gl X x) (hm:X.mg x=none) (hv:bootBuiltins x=some (.builtin id)) (ha:PA X (e::es) t) (hn:x≠"__name__":=by decide) (hdb:(x==("__debug__":Str))=false:=by decide)
  (he:starEach (e::es) X.env=(false,eval e X.env)::starEach es X.env:=by rfl) (hpl:(backTo pos (starEach es X.env)).any (·.1)=false:=by rfl):PE X (.Call (.Name x p) (e::es) [] pos) (tCB r t):=by
 intro LJ s σ H Q I h;refine Nt (gD I hg hm hv ?_ hn hdb);exact Ov (thn (ha pos LJ s σ H _ I h) fun us s1 ⟨vs,H1,I1,r1,q1⟩=>hc LJ s1 σ H1 vs us Q I1 r1 q1) he hpl
theorem bj (hc:CallR X (.type T) r) (hg:Gl X x) (hm:X.mg x=none) (hv:bootBuiltins x=some (.type T)) (ha:PA X (e::es) t) (hn:x≠"__name__":=by decide) (hdb:(x==("__debug__":Str))=false:=by decide)
  (he:starEach (e::es) X.env=(false,eval e X.env)::starEach es X.env:=by rfl) (hpl:(backTo pos (starEach es X.env)).any (·.1)=false:=by rfl):PE X (.Call (.Name x p) (e::es) [] pos) (tCB r t):=by
 intro LJ s σ H Q I h;refine Nt (gD I hg hm hv ?_ hn hdb);exact M5 (thn (ha pos LJ s σ H _ I h) fun us s1 ⟨vs,H1,I1,r1,q1⟩=>hc LJ s1 σ H1 vs us Q I1 r1 q1) he hpl
end
end L2
namespace HT
open PySem PyProof.Rows
section
open PySem.SeqAt
open PySem.AutoSeq1 (wpAny_loadPart')
open PySem.MeetsSeq PySem.MeetsSeq2 PySem.MeetsSeq3
end
section
variable{prog:Program}{w:World}{A:Around}{E:Value->Shared->Prop}{s:Shared}
def sIx(n d:Nat):Option Int->Nat
 | none=>d
 | some v=>if v<0 then(v+(n:Int)).toNat else min v.toNat n
theorem sIx_nat(n d k:Nat):sIx n d (some (k:Int))=min k n:=by
 show(if (k:Int)<0 then((k:Int)+(n:Int)).toNat else min (k:Int).toNat n)=min k n;rw[if_neg (by omega),Int.toNat_natCast]
end
end HT
namespace L2
open PySem PySem.Spec PyProof.Rows
abbrev TO:=St->Hp->(Option Int->Hp->Prop)->Prop
def PO(X:Cx)(e:Option Expr)(t:TO):Prop:=
 ∀(LJ:List (Addr × Obj)) (s:Shared) (σ:St) (H:Hp) (Q:Option Int->Hp->Prop),Inv X LJ σ H s->t σ H Q->
  wpAny (model X.prog X.w) X.A (evalPart e X.env) (fun u s'=>∃ o H',Inv X LJ σ H' s'/\IsPart u o/\Q o H') X.xe s
def fR:TO:=fun _ H Q=>Q none H
def tPart(t:TE):TO:=fun σ H Q=>t σ H fun x H1=>∃ i,x=.int i/\Q (some i) H1
theorem uV{ns:List Int}:∀{us:List Value},Vals (ns.map V.int) us->IntsAre us ns:=by
 induction ns with
 | nil=>intro us r;rw[List.map_nil] at r;cases r;exact .nil
 | cons n ns ih=>
  intro us r;rw[Mx] at r
  cases r with
  | cons r1 r2=>
   obtain⟨t,e⟩:=r1;subst e;exact .cons n t (ih r2)
section
variable{X:Cx}{e:Expr}{te:TE}{lo hi:Option Expr}{tl th:TO}{pos p2:Pos}
theorem lA:PO X none fR:=by
 intro LJ s σ H Q I h;rw[evalPart_none];exact MW ⟨none,H,I,.none,h⟩
theorem d4(h:PE X e te):PO X (some e) (tPart te):=by
 intro LJ s σ H Q I hw;rw[evalPart_some];refine thn (h LJ s σ H _ I hw) fun u s1 ⟨x,H1,I1,r1,q1⟩=>?_;obtain⟨i,rfl,q⟩:=q1;obtain⟨t,rfl⟩:=r1;exact⟨some i,H1,I1,.int i t,q⟩
def SlR(X:Cx)(r:V->Option Int->Option Int->Hp->VK->Prop):Prop:=
 ∀(LJ:List (Addr × Obj)) (s:Shared) (σ:St) (H:Hp) (x:V) (v vl vu:Value) (lo hi:Option Int) (sl:Addr) (Q:VK),Inv X LJ σ H s->RelV x v->s.heap.IsSliceOf sl vl vu .none->IsPart vl lo->IsPart vu hi->r x lo hi H Q->
  ∃ T id,typeLookup (.type T) "__getitem__"=pure (some (.builtin id))/\s.TypeIs v T/\wpAny (model X.prog X.w) X.A (getItem v (.ref sl)) (EP X LJ σ Q) X.xe s
def tSl(r:V->Option Int->Option Int->Hp->VK->Prop)(te:TE)(tl th:TO):TE:=fun σ H Q=>te σ H fun x H1=>tl σ H1 fun l H2=>th σ H2 fun u H3=>r x l u H3 Q
theorem ft{r:V->Option Int->Option Int->Hp->VK->Prop}(hr:SlR X r)(he:PE X e te)(hl:PO X lo tl)(hu:PO X hi th):PE X (.Subscript e (.Slice lo hi none p2) pos) (tSl r te tl th):=by
 intro LJ s σ H Q I h;refine Subscript_ (thn (he LJ s σ H _ I h) fun v s1 ⟨x,H1,I1,r1,q1⟩=>?_);refine wpAny_Slice (thn (hl LJ s1 σ H1 _ I1 q1) fun vl s2 ⟨l,H2,I2,pl,q2⟩=>thn (hu LJ s2 σ H2 _ I2 q2) fun vu s3 ⟨u,H3,I3,pu,q3⟩=>?_);rw[evalPart_none];refine MW ?_;have I4:Inv X LJ σ H3 {s3 with heap:=s3.heap.push {cls:=.type "slice",data:=.fields #[vl,vu,.none]}}:=I3.kept (t':=s3.toks) fun b ob q=>Mv _ q;obtain⟨T,id,hT,ht,hg⟩:=hr LJ {s3 with heap:=s3.heap.push {cls:=.type "slice",data:=.fields #[vl,vu,.none]}} σ H3 x v vl vu l u s3.heap.objs.size Q I4 r1 (Heap.IsSliceOf.new ..) pl pu q3;show wpAny (model X.prog X.w) X.A (subscriptTail e (.Slice lo hi none p2) v (.ref s3.heap.objs.size)) (EP X LJ σ Q) X.xe {s3 with heap:=s3.heap.push {cls:=.type "slice",data:=.fields #[vl,vu,.none]}};exact tail_any (ops:=[.ref s3.heap.objs.size,v]) ht hT hg (by with_unfolding_all rfl)
def cutV(xs:List V)(lo hi:Option Int):List V:=(xs.drop (HT.sIx xs.length 0 lo)).take (HT.sIx xs.length xs.length hi-HT.sIx xs.length 0 lo)
theorem AM(xs:List V)(lo hi:Option Int):(cutV xs lo hi).length<=xs.length:=by
 unfold cutV;rw[Nb,List.length_drop];omega
end
def ixN(n:Nat)(i:Int):Option Nat:=if 0<=i then(if i<n then some i.toNat else none) else if -(n:Int)<=i then some (i+n).toNat else none
def atI{α:Type}(xs:List α)(i:Int):Option α:=(ixN xs.length i).bind fun j=>xs[j]?
theorem FV{n:Nat}{i:Int}{j:Nat}(h:ixN n i=some j):seqIndex? i n=some j/\j<n/\ -(n:Int)<=i/\i<n:=by
 unfold ixN at h;by_cases h0:0<=i
 . rw[Mp h0] at h;by_cases h1:i<n
   . rw[Mp h1] at h;have e:i.toNat=j:=Nq h;exact⟨by rw[seqIndex_of h0 h1,e],by omega,by omega,h1⟩
   . rw[Md h1] at h;cases h
 . rw[Md h0] at h;by_cases h1: -(n:Int)<=i
   . rw[Mp h1] at h;have e:(i+n).toNat=j:=Nq h;exact⟨by rw[seqIndex_neg (by omega) h1,e],by omega,h1,by omega⟩
   . rw[Md h1] at h;cases h
theorem wR{α:Type}{xs:List α}{i:Int}{v:α}(h:atI xs i=some v):∃ j,seqIndex? i xs.length=some j/\xs[j]? =some v/\j<xs.length/\ -(xs.length:Int)<=i/\i<xs.length:=by
 unfold atI at h
 cases e:ixN xs.length i with
 | none=>rw[e] at h;cases h
 | some j=>
  rw[e] at h;obtain⟨h1,h2,h3,h4⟩:=FV e;exact⟨j,h1,h,h2,h3,h4⟩
theorem d5{α:Type}{xs:List α}{j:Nat}{v:α}(h:xs[j]? =some v):atI xs (j:Int)=some v:=by
 have hj:j<xs.length:=(L1.mp h).1
 have e:ixN xs.length (j:Int)=some j:=by
  unfold ixN;rw[Mp (by omega),Mp (by omega)];simp
 unfold atI;rw[e];exact h
def wS(b:Expr):Prop:=∀ o i,subscripted b false o i=operate [o,i] (getItem o i)
def IxR(X:Cx)(r:R2):Prop:=
 ∀(value slice:Expr) (LJ:List (Addr × Obj)) (s:Shared) (σ:St) (H:Hp) (x y:V) (v u:Value) (Q:VK),Inv X LJ σ H s->RelV x v->RelV y u->r x y H Q->
  subscripted slice false v u=operate [v,u] (getItem v u)->wpAny (model X.prog X.w) X.A (subscriptTail value slice v u) (EP X LJ σ Q) X.xe s
def MtR(X:Cx)(id:String)(r:V->List V->Hp->VK->Prop):Prop:=
 ∀(LJ:List (Addr × Obj)) (s:Shared) (σ:St) (H:Hp) (x:V) (xs:List V) (v:Value) (us:List Value) (Q:VK),Inv X LJ σ H s->RelV x v->Vals xs us->r x xs H Q->
  wpAny (model X.prog X.w) X.A (call (.builtin id) (v::us)) (EP X LJ σ Q) X.xe s
section
variable{X:Cx}{a b:Expr}{ta tb:TE}{pos:Pos}
theorem uW{r:R2}(hr:IxR X r)(ha:PE X a ta)(hb:PE X b tb)(hs:wS b):PE X (.Subscript a b pos) (tOp r ta tb):=by
 intro LJ s σ H Q I h;exact Subscript_ (binT ha hb I h fun v u s2 x y H2 I2 rx ry q=>hr a b LJ s2 σ H2 x y v u Q I2 rx ry q (hs _ _))
def rIxL(K:Frag):R2:=fun x y H Q=>∃ p xs i v,x=.ref p/\y=.int i/\SqL K H p xs/\atI xs i=some v/\Q v H
def rIxT(K:Frag):R2:=fun x y H Q=>∃ p xs i v,x=.ref p/\y=.int i/\SqT K H p xs/\atI xs i=some v/\Q v H
def rIxS:R2:=fun x y H Q=>∃ z i c,x=.str z/\y=.int i/\z.length<=sizeLine/\atI z.cps.toList i=some c/\Q (.str ⟨#[c]⟩) H
theorem Bo:IxR X (rIxL X.K):=by
 intro value slice LJ s σ H x y v u Q I rx ry h hs;obtain⟨p,xs,i,z,rfl,rfl,hq,he,q⟩:=h;cases rx;obtain⟨t,rfl⟩:=ry;obtain⟨LO,r,pl,hz⟩:=I.list hq;obtain⟨j,h1,h2,h3,h4,h5⟩:=wR he;obtain⟨w,ew,rw'⟩:=r.get h2;have hl:=r.length;have hn:=qF;have fin:EP X LJ σ Q w s:=⟨z,H,I,rw',q⟩;by_cases h0:0<=i
 . have hj:i.toNat=j:=by
    rw[seqIndex_of h0 h5] at h1;exact Nq h1
   exact item_listR pl.isList h0 (by omega) (by rw[hj];simpa using ew) fin hs
 . have hj:(i+(LO.toArray.size:Int)).toNat=j:=by
    rw[seqIndex_neg (by omega) h4] at h1;rw[Mw,← hl];exact Nq h1
   exact Pp (x:=w) pl.isList.typeIs slot_list_getitem.lookup
    (wpAny_getItem_list_neg (Q:=fun r s'=>r=w/\EP X LJ σ Q r s') pl.isList (by omega) (by rw[Mw] <;> omega) (by omega) (by rw[hj];simpa using ew) ⟨rfl,fin⟩) hs
theorem Dg:IxR X (rIxT X.K):=by
 intro value slice LJ s σ H x y v u Q I rx ry h hs;obtain⟨p,xs,i,z,rfl,rfl,hq,he,q⟩:=h;cases rx;obtain⟨t,rfl⟩:=ry;obtain⟨LO,r,pl,hz⟩:=I.tuple hq;obtain⟨j,h1,h2,h3,h4,h5⟩:=wR he;obtain⟨w,ew,rw'⟩:=r.get h2;have hl:=r.length;have hn:=qF;have fin:EP X LJ σ Q w s:=⟨z,H,I,rw',q⟩
 exact Pp (x:=w) pl.typeIs slot_tuple_getitem.lookup
  (getItem_tuple (j:=j) (Q:=fun r s'=>r=w/\EP X LJ σ Q r s') pl (by omega) (by omega) (by rw[Mw,← hl];exact h1) (by simpa using ew) ⟨rfl,fin⟩) hs
theorem GW:IxR X rIxS:=by
 intro value slice LJ s σ H x y v u Q I rx ry h hs;obtain⟨z,i,c,rfl,rfl,hz,he,q⟩:=h;obtain⟨t,rfl⟩:=rx;obtain⟨t',rfl⟩:=ry;obtain⟨j,h1,h2,h3,h4,h5⟩:=wR he;have hl:z.cps.toList.length=z.length:=by simp[Str.length]
 rw[hl] at h1 h4 h5;have hn:=qF
 exact tail_any (Ow s z t) slot_str_getitem.lookup (getItem_str (c:=c) (by
  have e1:decide (i < -(2^63:Int))=false:=L0 (by omega);have e2:decide (i ≥ 2^63)=false:=L0 (by omega);rw[e1,e2,Bool.or_false]) (by rw[h1];simpa using h2) ⟨.str ⟨#[c]⟩,H,I.tok _,⟨_,rfl⟩,q⟩) hs
theorem Inv.lst{LJ:List (Addr × Obj)}{σ:St}{H:Hp}{s:Shared}{p:Addr}{xs:List V}(I:Inv X LJ σ H s)(h:H p=some (.lst xs)):
  ∃(LO:List Value) (n:Nat),Vals xs LO/\s.heap.get? p=some {cls:=.type "list",data:=.seq LO.toArray n}/\xs.length<=sizeLine:=by
 obtain⟨z,LO,n,r,e⟩:=I.hok p _ h;exact⟨LO,n,r,e,z⟩
theorem zh(lo hi:Option Int)(n:Nat):(sliceBounds lo hi none n).1=((HT.sIx n 0 lo:Nat):Int)/\(sliceBounds lo hi none n).2.1=((HT.sIx n n hi:Nat):Int)/\(sliceBounds lo hi none n).2.2=1:=by
 refine⟨?_,?_,rfl⟩
 . cases lo with
   | none=>simp[sliceBounds,HT.sIx]
   | some i=>
    simp only[sliceBounds,HT.sIx,Option.getD_none,show(1:Int)>0 by decide,NB];by_cases h:i<0
    . simp only[h,NB] <;> omega
    . simp only[h,NR] <;> omega
 . cases hi with
   | none=>simp[sliceBounds,HT.sIx]
   | some i=>
    simp only[sliceBounds,HT.sIx,Option.getD_none,show(1:Int)>0 by decide,NB];by_cases h:i<0
    . simp only[h,NB] <;> omega
    . simp only[h,NR] <;> omega
theorem yu(LO:List Value)(lo hi:Option Int):slicePick LO.toArray lo hi none=((LO.drop (HT.sIx LO.length 0 lo)).take (HT.sIx LO.length LO.length hi-HT.sIx LO.length 0 lo)).toArray:=by
 obtain⟨h1,h2,h3⟩:=zh lo hi LO.toArray.size;unfold slicePick;rw[h1,h2,h3];simp only[sliceRange_one,pick_run,Mw] <;> rfl
def rSlL(K:Frag):V->Option Int->Option Int->Hp->VK->Prop:=fun x lo hi H Q=>∃ a xs,x=.ref a/\SqL K H a xs/\∀ p,H p=none->Q (.ref p) (upd H p (.lst (cutV xs lo hi)))
theorem FW:SlR X (rSlL X.K):=by
 intro LJ s σ H x v vl vu lo hi sl Q I rx hs pl pu h;obtain⟨a,xs,rfl,hx,q⟩:=h;cases rx;obtain⟨LO,r,ht,hz⟩:=I.list hx;have LS:=r.length;refine⟨"list",_,slot_list_getitem.lookup,ht.isList.typeIs,?_⟩;refine wpAny_getItem_list_slice ht.isList hs pl pu .none (by simp) ?_ (by rw[Mw] <;> omega);rw[yu,← LS];refine⟨.ref s.heap.objs.size,_,I.laid (t':=s.toks) (o:=.lst (cutV xs lo hi)) (fun b ob q=>Mv _ q) (Mu _) ?_,rfl,q _ (I.hok.fresh (Mu _))⟩;exact⟨Mi (AM xs lo hi) hz,_,0,(r.drop (HT.sIx xs.length 0 lo)).take (HT.sIx xs.length xs.length hi-HT.sIx xs.length 0 lo),MQ _ rfl⟩
def flatV:V->Bool
 | .non=>true
 | .bl _=>true
 | .int _=>true
 | .str _=>true
 | _=>false
def eqV:V->V->Bool
 | .non,.non=>true
 | .bl a,.bl b=>a==b
 | .bl a,.int b=>(if a then 1 else 0)==b
 | .int a,.bl b=>a==(if b then 1 else 0)
 | .int a,.int b=>a==b
 | .str a,.str b=>a==b
 | _,_=>false
theorem GX{A:Around}{s:Shared}{y x:V}{u v:Value}(ry:RelV y u)(rx:RelV x v)(fy:flatV y=true)(fx:flatV x=true):SeqAt.EqAt A s u v (eqV y x):=by
 cases y with
 | non=>
  cases ry
  cases x with
  | non=>cases rx;exact SeqAt.EqAt.same _
  | bl b=>cases rx;exact SeqAt.EqAt.none_bool b
  | int b=>obtain⟨t,rfl⟩:=rx;exact SeqAt.EqAt.none_int b t
  | str b=>obtain⟨t,rfl⟩:=rx;exact SeqAt.EqAt.none_str b t
  | _=>exact absurd (show false=true from fx) L7
 | bl a=>
  cases ry
  cases x with
  | non=>cases rx;exact SeqAt.EqAt.bool_none a
  | bl b=>cases rx;exact SeqAt.EqAt.bool_bool a b
  | int b=>obtain⟨t,rfl⟩:=rx;exact SeqAt.EqAt.bool_int a b t
  | str b=>obtain⟨t,rfl⟩:=rx;exact SeqAt.EqAt.bool_str a b t
  | _=>exact absurd (show false=true from fx) L7
 | int a=>
  obtain⟨t',rfl⟩:=ry
  cases x with
  | non=>cases rx;exact SeqAt.EqAt.int_none a t'
  | bl b=>cases rx;exact SeqAt.EqAt.int_bool a t' b
  | int b=>obtain⟨t,rfl⟩:=rx;exact SeqAt.EqAt.int_int a t' b t
  | str b=>obtain⟨t,rfl⟩:=rx;exact SeqAt.EqAt.int_str a t' b t
  | _=>exact absurd (show false=true from fx) L7
 | str a=>
  obtain⟨t',rfl⟩:=ry
  cases x with
  | non=>cases rx;exact SeqAt.EqAt.str_none a t'
  | bl b=>cases rx;exact SeqAt.EqAt.str_bool a t' b
  | int b=>obtain⟨t,rfl⟩:=rx;exact SeqAt.EqAt.str_int a t' b t
  | str b=>obtain⟨t,rfl⟩:=rx;exact SeqAt.EqAt.str_str a t' b t
  | _=>exact absurd (show false=true from fx) L7
 | _=>exact absurd (show false=true from fy) L7
def eqU(x:V)(u:Value):Bool:=match u with
 | .none=>eqV .non x
 | .bool b=>eqV (.bl b) x
 | .int i _=>eqV (.int i) x
 | .str z _=>eqV (.str z) x
 | _=>false
theorem Dh{x y:V}{u:Value}(r:RelV y u)(f:flatV y=true):eqU x u=eqV y x:=by
 cases y with
 | non=>cases r;rfl
 | bl b=>cases r;rfl
 | int i=>obtain⟨t,rfl⟩:=r;rfl
 | str z=>obtain⟨t,rfl⟩:=r;rfl
 | _=>exact absurd (show false=true from f) L7
theorem ox{x:V}:∀{xs:List V} {us:List Value},Vals xs us->xs.all flatV=true->us.any (eqU x)=xs.any fun y=>eqV y x
 | _,_,.nil,_=>rfl
 | y::xs,u::us,.cons r t,f=>by
  rw[OC,LZ] at f;rw[NY,NY,Dh r f.1,ox t f.2]
theorem lF{A:Around}{s:Shared}{x:V}{v:Value}(rx:RelV x v)(fx:flatV x=true):∀{xs:List V} {us:List Value},Vals xs us->xs.all flatV=true->∀ u∈us,SeqAt.EqAt A s u v (eqU x u)
 | _,_,.nil,_=>fun u hu=>by cases hu
 | y::xs,u::us,.cons r t,f=>fun u' hu=>by
  rw[OC,LZ] at f;rcases Mn.mp hu with rfl | hu
  . rw[Dh r f.1];exact GX r rx f.1 fx
  . exact lF rx fx t f.2 u' hu
def inV(x:V)(xs:List V):Bool:=xs.any fun y=>eqV y x
def rIn(K:Frag)(neg:Bool):R2:=fun x y H Q=>∃ p xs,y=.ref p/\(SqL K H p xs\/SqT K H p xs)/\flatV x=true/\xs.all flatV=true/\Q (.bl (if neg then !inV x xs else inV x xs)) H
theorem mE:OpR X (compareOp .In) (rIn X.K false):=by
 intro LJ s σ H x y v u Q I rx ry h;obtain⟨p,xs,rfl,hq,fx,fs,q⟩:=h;cases ry;rcases hq with hq | hq
 . obtain⟨LO,r,pl,hz⟩:=I.list hq;refine SeqAt.in_listAt (eqU x) pl.isList (fun w hw=>lF rx fx r fs w (by simpa using hw)) ⟨.bl _,H,I,rfl,?_⟩;rw[show LO.toArray.any (eqU x)=LO.any (eqU x) by simp,ox r fs];exact q
 . obtain⟨LO,r,pl,hz⟩:=I.tuple hq;refine SeqAt.in_tupleAt (eqU x) pl (fun w hw=>lF rx fx r fs w (by simpa using hw)) ⟨.bl _,H,I,rfl,?_⟩;rw[show LO.toArray.any (eqU x)=LO.any (eqU x) by simp,ox r fs];exact q
theorem qI:OpR X (compareOp .NotIn) (rIn X.K true):=by
 intro LJ s σ H x y v u Q I rx ry h;obtain⟨p,xs,rfl,hq,fx,fs,q⟩:=h;cases ry;rcases hq with hq | hq
 . obtain⟨LO,r,pl,hz⟩:=I.list hq;refine SeqAt.notIn_listAt (eqU x) pl.isList (fun w hw=>lF rx fx r fs w (by simpa using hw)) ⟨.bl _,H,I,rfl,?_⟩;rw[show LO.toArray.any (eqU x)=LO.any (eqU x) by simp,ox r fs];exact q
 . obtain⟨LO,r,pl,hz⟩:=I.tuple hq;refine SeqAt.notIn_tupleAt (eqU x) pl (fun w hw=>lF rx fx r fs w (by simpa using hw)) ⟨.bl _,H,I,rfl,?_⟩;rw[show LO.toArray.any (eqU x)=LO.any (eqU x) by simp,ox r fs];exact q
theorem zi:OpR X (compareOp .NotIn) (fun x y H Q=>∃ i j,x=.str i/\y=.str j/\Q (.bl (!(!(Builtin.Str.occurrences j i 0 j.length 1).isEmpty))) H):=by
 intro LJ s σ H x y v u Q I rx ry h;obtain⟨i,j,rfl,rfl,q⟩:=h;obtain⟨t,rfl⟩:=rx;obtain⟨t',rfl⟩:=ry;exact notIn_str ⟨.bl _,H,I,rfl,q⟩
theorem qJ:CallR X (.builtin "len") (fun xs H Q=>∃ p ys,xs=[.ref p]/\(SqL X.K H p ys\/SqT X.K H p ys)/\Q (.int ys.length) H):=by
 intro LJ s σ H xs us Q I r h;obtain⟨p,ys,rfl,hq,q⟩:=h;obtain⟨u,rfl,rx⟩:=cG r;cases rx;have hn:=qF;rcases hq with hq | hq
 . obtain⟨LO,r',pl,hz⟩:=I.list hq;have LS:=r'.length;exact Calls.call_len_list pl.isList (by simp only[Mw] <;> omega) ⟨.int ys.length,H,I.tok _,⟨s.toks+1,by rw[Mw,LS]⟩,q⟩
 . obtain⟨LO,r',pl,hz⟩:=I.tuple hq;have LS:=r'.length;exact len_tuple pl (by simp only[Mw] <;> omega) ⟨.int ys.length,H,I.tok _,⟨s.toks+1,by rw[Mw,LS]⟩,q⟩
theorem zj:CallR X (.builtin "len") (fun xs H Q=>∃ z,xs=[.str z]/\z.length<=sizeLine/\Q (.int z.length) H):=by
 intro LJ s σ H xs us Q I r h;obtain⟨z,rfl,hz,q⟩:=h;obtain⟨u,rfl,t,rfl⟩:=cG r;have hn:=qF;exact len_str (by omega) ⟨.int z.length,H,I.tok _,⟨_,rfl⟩,q⟩
theorem zk:CallR X (.type "list") (fun xs H Q=>∃ p ys,xs=[.ref p]/\(SqL X.K H p ys\/SqT X.K H p ys)/\∀ l,H l=none->Q (.ref l) (upd H l (.lst ys))):=by
 intro LJ s σ H xs us Q I r h;obtain⟨p,ys,rfl,hq,q⟩:=h;obtain⟨u,rfl,rx⟩:=cG r;cases rx
 have fin:∀(LO:List Value),Vals ys LO->ys.length<=sizeLine->∀(h':Heap) (c':Nat),(∀ b o',s.heap.get? b=some o'->h'.get? b=some o')->
   h'.get? s.heap.objs.size=some {cls:=.type "list",dict:=none,data:=.seq LO.toArray c',slots:=#[]}->EP X LJ σ Q (.ref s.heap.objs.size) {s with heap:=h'}:=fun LO r' hz h' c' kp e=>
  ⟨.ref s.heap.objs.size,_,I.laid (t':=s.toks) kp (Mu _) (show ObjOk X.prog X.w _ h' _ (.lst ys) from⟨hz,LO,c',r',e⟩),rfl,q _ (I.hok.fresh (Mu _))⟩
 rcases hq with hq | hq
 . obtain⟨LO,r',pl,hz⟩:=I.list hq;have LS:=r'.length;obtain⟨o,ho,hc,n,hd⟩:=pl.isList;exact call_list_seq p (.inl rfl) ho hc hd (fun h' c' kp e=>fin LO r' hz h' c' kp e) (by simp only[Mw] <;> omega)
 . obtain⟨LO,r',pl,hz⟩:=I.tuple hq;have LS:=r'.length;obtain⟨o,ho,hc,n,hd⟩:=pl;exact call_list_seq p (.inr rfl) ho hc hd (fun h' c' kp e=>fin LO r' hz h' c' kp e) (by simp only[Mw] <;> omega)
theorem yw:CallR X (.type "tuple") (fun xs H Q=>∃ p ys,xs=[.ref p]/\((SqL X.K H p ys/\∀ l,H l=none->Q (.ref l) (upd H l (.tup ys)))\/(SqT X.K H p ys/\Q (.ref p) H))):=by
 intro LJ s σ H xs us Q I r h;obtain⟨p,ys,rfl,h⟩:=h;obtain⟨u,rfl,rx⟩:=cG r;cases rx;rcases h with ⟨hq,q⟩ | ⟨hq,q⟩
 . obtain⟨LO,r',pl,hz⟩:=I.list hq;have LS:=r'.length;refine call_tuple_list pl.isList (fun h' kp=>?_) (by simp only[Mw] <;> omega);have I1:Inv X LJ σ H {s with heap:=h'}:=I.kept (t':=s.toks) kp
   have I2:Inv X LJ σ (upd H h'.objs.size (.tup ys)) {s with heap:=h'.push {cls:=.type "tuple",data:=.seq LO.toArray}}:=
    I1.laid (t':=s.toks) (fun b o e=>Mv _ e) (Mu _) (show ObjOk X.prog X.w _ _ _ (.tup ys) from⟨hz,LO,r',IsTup.new _ _⟩)
   exact⟨.ref h'.objs.size,_,I2,rfl,q _ (I1.hok.fresh (Mu _))⟩
 . obtain⟨LO,r',pl,hz⟩:=I.tuple hq;exact call_tuple_same pl ⟨.ref p,H,I,rfl,q⟩
def tyV(K:Frag)(T:String)(x:V)(H:Hp):Prop:=match x with
 | .str _=>T="str"
 | .int _=>T="int"
 | .ref p=>(T="list"/\∃ xs,SqL K H p xs)\/(T="tuple"/\∃ o,K.lookup p=some o/\o.cls=.type "tuple"/\o.dict=none)\/
   (T="dict"/\((∃ LN,H p=some (.dK LN))\/∃ LN,H p=some (.dT LN)))\/(T="set"/\∃ S n,H p=some (.set S n))
 | _=>False
theorem Di{LJ:List (Addr × Obj)}{σ:St}{H:Hp}{s:Shared}{T:String}{x:V}{v:Value}(I:Inv X LJ σ H s)(r:RelV x v)(ty:tyV X.K T x H):
  s.TypeIs v T/\∀ a,v=.ref a->∃ ob,s.heap.get? a=some ob/\ob.dict=none:=by
 cases x with
 | str z=>
  obtain⟨t,rfl⟩:=r;cases (show T="str" from ty);exact⟨Ow s z t,fun _ e=>nomatch e⟩
 | int i=>
  obtain⟨t,rfl⟩:=r;cases (show T="int" from ty);exact⟨typeIs_int s i t,fun _ e=>nomatch e⟩
 | ref p=>
  cases r;rcases ty with ⟨rfl,xs,hq⟩ | ⟨rfl,o,hk,hc,hd⟩ | ⟨rfl,hk⟩ | ⟨rfl,S,n,hk⟩
  . obtain⟨LO,_,pl,_⟩:=I.list hq;refine⟨pl.isList.typeIs,fun a e=>?_⟩;cases e;obtain⟨o,n,e,c,hd,_⟩:=pl;exact⟨o,e,hd⟩
  . refine⟨⟨o,I.kIn p o hk,hc⟩,fun a e=>?_⟩;cases e;exact⟨o,I.kIn _ o hk,hd⟩
  . have z:∃ o,s.heap.get? p=some o/\o.ExactDict:=by
     rcases hk with ⟨LN,hk⟩ | ⟨LN,hk⟩
     . obtain⟨_,_,_,_,o,_,_,e,ex,_⟩:=I.hok p _ hk;exact⟨o,e,ex⟩
     . obtain⟨_,_,_,_,o,_,_,e,ex,_⟩:=I.hok p _ hk;exact⟨o,e,ex⟩
    obtain⟨o,e,ex⟩:=z;refine⟨⟨o,e,ex.1⟩,fun a e2=>?_⟩;cases e2;exact⟨o,e,ex.2.1⟩
  . obtain⟨o,_,_,_,e,ex,_⟩:=I.hok p _ hk;refine⟨⟨o,e,ex.1⟩,fun a e2=>?_⟩;cases e2;exact⟨o,e,ex.2.1⟩
 | _=>exact False.elim ty
def B9(K:Frag)(T:String)(r:V->List V->Hp->VK->Prop)(to:TE):TE:=fun σ H Q=>to σ H fun x H1=>tyV K T x H1/\r x [] H1 Q
def tBM(K:Frag)(T:String)(r:V->List V->Hp->VK->Prop)(to:TE)(t:TA):TE:=fun σ H Q=>to σ H fun x H1=>tyV K T x H1/\t σ H1 fun xs H2=>r x xs H2 Q
variable{o e:Expr}{es:List Expr}{to:TE}{t:TA}{name:Str}{apos cpos:Pos}{T id:String}{r:V->List V->Hp->VK->Prop}
theorem Dj (pa:PlainAttrs T) (slot:Slot T name id) (hty:typeOf (.builtin id)=pure (.type "method_descriptor")) (hm:MtR X id r) (ho:PE X o to)
  (hbase:attributeBase o name X.env (eval o X.env)=eval o X.env:=by rfl) (hline:(apos.endLine==cpos.line)=true:=by rfl):PE X (.Call (.Attribute o name apos) [] [] cpos) (B9 X.K T r to):=by
 intro LJ s σ H Q I h;refine wpAny_Call_method0_late hbase hline (thn (ho LJ s σ H _ I h) fun v s1 ⟨x,H1,I1,r1,ty,q1⟩=>?_);obtain⟨h1,h2⟩:=Di I1 r1 ty;exact⟨T,id,pa,slot,hty,h1,h2,Pq rfl (PySem.evalArgs_none (hm LJ s1 σ H1 x [] v [] Q I1 r1 .nil q1))⟩
theorem bE (pa:PlainAttrs T) (slot:Slot T name id) (hty:typeOf (.builtin id)=pure (.type "method_descriptor")) (hm:MtR X id r) (ho:PE X o to) (ha:PA X (e::es) t)
  (hbase:attributeBase o name X.env (eval o X.env)=eval o X.env:=by rfl)
  (hfew:((backTo cpos (starEach (e::es) X.env)).all (fun x=>!x.1)&&(backToKw cpos (keywordEach [] X.env)).all (fun x=>x.1.isSome)
   &&decide ((e::es).length+([]:List Keyword).length+(if ([]:List Keyword).isEmpty then 0 else 1)<30))=true:=by rfl)
  (hline:(apos.endLine==cpos.line)=true:=by rfl) (hs:starEach (e::es) X.env=(false,eval e X.env)::starEach es X.env:=by rfl) (hplain:(backTo cpos (starEach es X.env)).any (·.1)=false:=by rfl):
  PE X (.Call (.Attribute o name apos) (e::es) [] cpos) (tBM X.K T r to t):=by
 intro LJ s σ H Q I h;refine wpAny_Call_method_late hbase hfew hline rfl (thn (ho LJ s σ H _ I h) fun v s1 ⟨x,H1,I1,r1,ty,q1⟩=>?_);obtain⟨h1,h2⟩:=Di I1 r1 ty;refine⟨T,id,pa,slot,hty,h1,h2,?_⟩;have hA:=ha cpos LJ s1 σ H1 _ I1 q1;rw[hs] at hA ⊢;refine Pq (by show(false||(backTo cpos (starEach es X.env)).any (·.1))=false;rw[hplain] <;> rfl) (Calls.evalArgs_plain ?_);exact thn hA fun us s2 ⟨vs,H2,I2,r2,q2⟩=>hm LJ s2 σ H2 x vs v us Q I2 r1 r2 q2
end
def MtM(X:Cx)(id:String)(r:V->List V->Hp->VK->Prop):Prop:=
 ∀(LJ:List (Addr × Obj)) (s:Shared) (σ:St) (H:Hp) (x:V) (xs:List V) (v:Value) (us:List Value) (Q:VK),Inv X LJ σ H s->RelV x v->Vals xs us->r x xs H Q->
  wpAny (model X.prog X.w) X.A (call (.builtin id) (v::us)) (EP X LJ σ Q) X.xe s
theorem Vals.one:∀{x:V} {us:List Value},Vals [x] us->∃ u,us=[u]/\RelV x u
 | _,_,.cons r .nil=>⟨_,rfl,r⟩
theorem Vals.eraseIdx:∀{xs:List V} {us:List Value} (i:Nat),Vals xs us->Vals (xs.eraseIdx i) (us.eraseIdx i)
 | _,_,_,.nil=>.nil
 | _,_,0,.cons _ t=>t
 | _,_,i+1,.cons r t=>.cons r (Vals.eraseIdx i t)
theorem Vals.rep{xs:List V}{us:List Value}(h:Vals xs us):∀ k:Nat,Vals (List.replicate k xs).flatten (List.replicate k us).flatten
 | 0=>.nil
 | k+1=>by
  rw[NP,NP,Ol,Ol];exact Vals.append h (Vals.rep h k)
theorem xJ{α:Type}:∀(l:List α) (i:Nat),(l.eraseIdx i).length<=l.length
 | [],_=>Mu _
 | _::_,0=>OE _
 | _::r,i+1=>Nat.succ_le_succ (xJ r i)
theorem xK(LO:List Value):∀(k:Nat) (acc:List Value),
  List.foldl (fun x1 x2=>x1++x2) acc.toArray (List.replicate k LO.toArray)=(acc++(List.replicate k LO).flatten).toArray
 | 0,acc=>by simp
 | k+1,acc=>by
  have e:acc.toArray++LO.toArray=(acc++LO).toArray:=by simp
  have e2:(acc++LO)++(List.replicate k LO).flatten=acc++(List.replicate (k+1) LO).flatten:=by
   rw[NP,Ol,M3]
  rw[← e2,← xK LO k (acc++LO),← e,NP,Nj]
section
variable{X:Cx}{LJ:List (Addr × Obj)}{σ:St}{H:Hp}{s:Shared}{l b:Addr}{xs ys zs:List V}
theorem Inv.lset {LO its':List Value} {n:Nat} {f:Array Value->Array Value} {t':Nat} (I:Inv X LJ σ H s) (hH:H l=some (.lst xs))
  (e:s.heap.get? l=some {cls:=.type "list",data:=.seq LO.toArray n}) (hf:f LO.toArray=its'.toArray) (hv:Vals ys its') (hz:ys.length<=sizeLine):
  Inv X LJ σ (upd H l (.lst ys)) {s with heap:=s.heap.update l (Obj.mapSeq f),toks:=t'}:=by
 have q:=PySem.IsL.update e f;rw[hf] at q;refine I.write (x:=l) (e:=l) (by rw[hH];exact trivial) (.inl rfl) (fun b' u hb hu=>(Heap.get?_update_other s.heap (Obj.mapSeq f) (Pc hb)).trans hu) ⟨_,q⟩ ?_;exact⟨hz,its',_,hv,q⟩
theorem Inv.lnew{LO:List Value}{t':Nat}(I:Inv X LJ σ H s)(hv:Vals ys LO)(hz:ys.length<=sizeLine):
  Inv X LJ σ (upd H s.heap.objs.size (.lst ys)) {s with heap:=s.heap.push {cls:=.type "list",data:=.seq LO.toArray},toks:=t'}:=
 I.laid (fun _ _ q=>Mv _ q) (Mu _) ⟨hz,LO,0,hv,MQ _ rfl⟩
theorem Inv.fresh(I:Inv X LJ σ H s):H s.heap.objs.size=none:=I.hok.fresh (Mu _)
theorem Inv.lstM(I:Inv X LJ σ H s)(hH:H l=some (.lst xs)):xs.length<=sizeLine/\∃(LO:List Value) (n:Nat),Vals xs LO/\xs.length=LO.length/\s.heap.get? l=some {cls:=.type "list",data:=.seq LO.toArray n}:=by
 obtain⟨z,LO,n,r,e⟩:=I.hok l _ hH;exact⟨z,LO,n,r,r.length,e⟩
theorem zl{n:Nat}(h:n<=sizeLine):Builtin.List.listTooLong n=false:=by
 unfold Builtin.List.listTooLong;exact L0 (by omega)
end
section
variable{X:Cx}
def FX:V->List V->Hp->VK->Prop:=fun x vs H Q=>∃ l xs y,x=.ref l/\vs=[y]/\H l=some (.lst xs)/\xs.length<sizeLine/\Q .non (upd H l (.lst (xs++[y])))
theorem xM:MtM X "list.append" FX:=by
 intro LJ s σ H x vs v us Q I rx rv h;obtain⟨l,xs,y,rfl,rfl,hH,hz,q⟩:=h;cases rx;obtain⟨u,rfl,ru⟩:=rv.one;obtain⟨z,LO,n,r,hl,e⟩:=I.lstM hH;refine NV F.slot_list_append ⟨_,e,rfl⟩ F.entry_list_append (F.args_list_append_2 _ _) (PySem.list_append l LO.toArray n u (by rw[Mw];omega)) ⟨e,?_⟩;refine⟨.non,_,I.lset (its':=LO++[u]) hH e (by simp) (r.append (.cons ru .nil)) ?_,rfl,q⟩;rw[Mz,PC];omega
def FY:V->List V->Hp->VK->Prop:=fun x vs H Q=>∃ l b xs zs,x=.ref l/\vs=[.ref b]/\H l=some (.lst xs)/\H b=some (.lst zs)/\xs.length+zs.length<=sizeLine/\Q .non (upd H l (.lst (xs++zs)))
theorem Dk:MtM X "list.extend" FY:=by
 intro LJ s σ H x vs v us Q I rx rv h;obtain⟨l,b,xs,zs,rfl,rfl,hH,hB,hz,q⟩:=h;cases rx;obtain⟨u,rfl,ru⟩:=rv.one;cases ru;obtain⟨z,LO,n,r,hl,e⟩:=I.lstM hH;obtain⟨z2,its2,n2,r2,hl2,e2⟩:=I.lstM hB;have hsz:LO.toArray.size+its2.toArray.size<=sizeLine:=by rw[Mw,Mw];omega
 have hlong:¬ (!LO.toArray.isEmpty&&Builtin.List.listTooLong (LO.toArray.size+its2.toArray.size))=true:=by
  rw[zl hsz,Bool.and_false];exact L7
 refine NV F.slot_list_extend ⟨_,e,rfl⟩ F.entry_list_extend (F.args_list_extend_2 _ _)
  (AutoSeq1.list_extend_list_list_0 l LO.toArray n b its2.toArray n2 hlong (by rw[Mw];omega) (by omega)) ⟨e,e2,?_⟩
 refine⟨.non,_,I.lset (its':=LO++its2) hH e (by simp) (r.append r2) ?_,rfl,q⟩;rw[Mz];omega
def GY:V->List V->Hp->VK->Prop:=fun x vs H Q=>∃ l xs i k y,x=.ref l/\vs=[.int i]/\H l=some (.lst xs)/\ -(2^63)<=i/\i<2^63/\seqIndex? i xs.length=some k/\xs[k]? =some y/\Q y (upd H l (.lst (xs.eraseIdx k)))
theorem ES:MtM X "list.pop" GY:=by
 intro LJ s σ H x vs v us Q I rx rv h;obtain⟨l,xs,i,k,y,rfl,rfl,hH,h1,h2,hk,hy,q⟩:=h;cases rx;obtain⟨u,rfl,ru⟩:=rv.one;obtain⟨t,rfl⟩:=ru;obtain⟨z,LO,n,r,hl,e⟩:=I.lstM hH;obtain⟨w,hw,rw'⟩:=r.get hy
 refine NV F.slot_list_pop ⟨_,e,rfl⟩ F.entry_list_pop (F.args_list_pop_2 _ _)
  (MeetsSeq.list_pop_at l LO.toArray n i t k w (fitsIndex_both h1 h2) (by rw[Mw,← hl];exact hk) (by rw[← PD];exact hw) (by rw[Mw];omega)) ⟨e,?_⟩
 refine⟨y,_,I.lset (its':=LO.eraseIdx k) hH e ?_ (r.eraseIdx k) ?_,rw',q⟩
 . show LO.toArray.eraseIdxIfInBounds k=(LO.eraseIdx k).toArray;rw[List.eraseIdxIfInBounds_toArray]
 . have:=xJ xs k;omega
def rCat:R2:=fun x y H Q=>∃ l b xs zs,x=.ref l/\y=.ref b/\H l=some (.lst xs)/\H b=some (.lst zs)/\xs.length+zs.length<=sizeLine/\∀ p,H p=none->Q (.ref p) (upd H p (.lst (xs++zs)))
theorem GZ:OpR X (binaryOp .Add) rCat:=by
 intro LJ s σ H x y v u Q I rx ry h;obtain⟨l,b,xs,zs,rfl,rfl,hH,hB,hz,q⟩:=h;cases rx;cases ry;obtain⟨z,LO,n,r,hl,e⟩:=I.lstM hH;obtain⟨z2,its2,n2,r2,hl2,e2⟩:=I.lstM hB;refine PySem.P.add_list e e2 ?_ (by rw[Mw,Mw];omega);have ea:LO.toArray++its2.toArray=(LO++its2).toArray:=by simp
 rw[ea];exact⟨.ref _,_,I.lnew (t':=s.toks) (r.append r2) (by rw[Mz];omega),rfl,q _ I.fresh⟩
def rRep:R2:=fun x y H Q=>∃ l k xs,x=.ref l/\y=.int k/\H l=some (.lst xs)/\ -(2^63)<=k/\k<2^63/\xs.length*k.toNat<=sizeLine/\
 ∀ p,H p=none->Q (.ref p) (upd H p (.lst (List.replicate k.toNat xs).flatten))
theorem FZ{α:Type}(xs:List α)(k:Nat):(List.replicate k xs).flatten.length=k*xs.length:=by
 induction k with
 | zero=>simp
 | succ k ih=>rw[NP,Ol,Mz,ih,Pr,Nat.add_comm]
theorem G0:OpR X (binaryOp .Mult) rRep:=by
 intro LJ s σ H x y v u Q I rx ry h;obtain⟨l,k,xs,rfl,rfl,hH,h1,h2,hz,q⟩:=h;cases rx;obtain⟨t,rfl⟩:=ry;obtain⟨z,LO,n,r,hl,e⟩:=I.lstM hH;have LS:LO.toArray.size*k.toNat<=sizeLine:=by rw[Mw,← hl];exact hz
 have hcap:¬ LO.toArray.size*k.toNat > (2^63-1)/8:=by
  have:(sizeLine:Nat)<=(2^63-1)/8:=by decide
  omega
 have hfit:¬ (!Builtin.List.listFitsIndex k)=true:=by
  rw[fitsIndex_both h1 h2];exact L7
 have hlong:¬ Builtin.List.listTooLong (LO.toArray.size*k.toNat)=true:=by
  rw[zl LS];exact L7
 have hnew:List.foldl (fun x1 x2=>x1++x2) #[] (List.replicate (if LO.toArray.isEmpty=true then 0 else k.toNat) LO.toArray)=(List.replicate k.toNat LO).flatten.toArray:=by
  have f0:∀ m:Nat,List.foldl (fun x1 x2=>x1++x2) #[] (List.replicate m LO.toArray)=(List.replicate m LO).flatten.toArray:=fun m=>by
   have:=xK LO m [];rw[List.nil_append] at this;exact this
  rw[f0]
  cases LO with
  | nil=>simp
  | cons a r'=>rw[Md (by simp)]
 refine wpAny_binaryOp_repeat_ref (T:="list") (U:="int") (by decide) ⟨_,e,rfl⟩ (fun s'=>typeIs_int s' k t) noFill_list_mul F.fills_int_mul F.slot_int_rmul repeat_list F.slot_int_index.lookup
  (NV F.slot_int_rmul (typeIs_int s k t) F.entry_int_rmul (F.args_int_rmul_2 _ _) (int___rmul___int_list k t l LO.toArray n)
   ⟨e,rfl,⟨_,e,rfl⟩,NV F.slot_list_mul ⟨_,e,rfl⟩ F.entry_list_mul (F.args_list_mul_2 _ _) (AutoListH.list___mul___list_int_3 l LO.toArray n k t hfit hcap hlong) ⟨e,?_⟩⟩)
 rw[hnew];exact⟨.ref _,_,I.lnew (t':=s.toks) (r.rep k.toNat) (by rw[FZ,Nat.mul_comm];exact hz),rfl,q _ I.fresh⟩
end
end L2
namespace Att
open PySem PySem.W PySem.Calls PyProof.Rows
theorem ints_of_wellAll{P:Params}{h:Heap}:∀(ns:List Int) (vs:List Value),WellAll P h vs (ns.map WData.int)->IntsAre vs ns:=by
 intro ns
 induction ns with
 | nil=>
  intro vs w;rw[List.map_nil] at w;cases w;exact .nil
 | cons n ns ih=>
  intro vs w;rw[List.map_cons] at w
  cases w with
  | cons a b=>
   cases a;exact .cons _ _ (ih _ b)
theorem script_of {l:OpenLaw} {n:Nat} (hn:l.most=some n) {P:Params} {h:Heap} {args:List WData} {vals:List Value}
  (hpre:l.row.toRowW.claim.pre args=true) (hwl:WellAll P h vals args):
  ∃ a vs ns,vals=[Value.ref a]/\args=[WData.list (ns.map WData.int)]/\h.get? a=some {cls:=.type "list",data:=.seq vs.toArray}/\IntsAre vs ns/\ns.length<=n:=by
 have hsh:WShape.hasAll [] args [.list .int]=true:=(pre_splitW hpre).1;have hc:l.pre.holds [] {args:=args}=true:=(pre_splitW hpre).2;obtain⟨d,r,rfl,h1,h2⟩:=hasAllW_cons hsh;obtain rfl:=hasAllW_nil h2;obtain⟨xs,rfl,h3⟩:=hasW_list h1;obtain⟨ns,rfl⟩:=items_int h3
 have LS:ns.length<=n:=by
  unfold OpenLaw.pre at hc
  have h4:(WTm.not (.lt (.lit (.int (n:Int))) (.len (.arg 0)))).holds [] {args:=[.list (ns.map .int)]}=true:=by
   have h4:=(holds_andW hc).1;rw[hn] at h4;exact h4
  have h5:=condW_of h4 (w_not (w_lt w_lit (w_len_list (w_arg rfl))));rw[List.length_map] at h5;refine Nat.le_of_not_lt fun q=>?_;have q':(n:Int) < ((ns.length:Nat):Int):=by omega
  first
   | (rw[decide_eq_true q'] at h5;exact absurd h5 (by decide))
   | (simp at h5;omega)
 cases hwl with
 | cons w1 w2=>
  cases w2
  cases w1 with
  | list ho hall=>exact⟨_,_,ns,rfl,rfl,ho,ints_of_wellAll ns _ hall,LS⟩
theorem post_true(l:OpenLaw)(args:List WData):l.row.toRowW.claim.post args (.bool true) args=true:=
 postW_of (r:=l.row.toRowW) (X:=(true==true))
  (show WShape.has [] (.bool true) .bool=true by first | rfl | decide | simp[WShape.has,WShape.arms,WShape.armsAll])
  (show(WTm.eq .res (.lit (.bool true))).value [] {args:=args,res:=some (.bool true),after:=args}=some (.bool (true==true)) from w_eq_bool (w_res rfl) w_lit) rfl
theorem attach_call {l:OpenLaw} {n:Nat} {q:Program} {loose:List Str} {XP:(Str->Option Value)->Heap->Prop} {YP:World->Heap->Prop} {d:DefRec}
  (hn:l.most=some n) (hdf:d.params.defaults=[])
  (call:∀(w:World) (s₀ s₁:Shared) (mg mb:Str->Option Value) (fa:Addr) (o:Obj) (pm cd doc:Value) (a:Addr) (vs:List Value) (ns:List Int),
   Ground q loose [] XP w s₀ mg mb s₁.heap->YP w s₁.heap->
   s₁.heap.get? fa=some o->o.data=.func (docDef d.name d.params d.body d.scope pm cd doc)->s₁.heap.CodeRec cd d.name->mg d.name=some (.ref fa)->
   s₁.heap.get? a=some {cls:=.type "list",data:=.seq vs.toArray}->IntsAre vs ns->ns.length<=n->s₁.gens=#[]->
   codeAny (model l.prog w) callerA (.call (.ref fa) ⟨[.ref a],[]⟩) (fun r s'=>r=.ok (.ret (.bool true))/\OldK s₁.heap s'.heap/\s'.os=s₁.os/\AllBare s'.gens) s₁):
  WalkO q loose XP YP l.row.toRowW d [] (fun f vs=>PySem.call f vs):=by
 intro w s₀ s₁ mg mb G Y fa o pm cd doc dV kV ho hd hcd hD hmg hg args vals as hpre hlay hrd hwl hlo;obtain rfl:dV=.none:=Dflts.none hD hdf;obtain rfl:kV=.none:=Dflts.noKw hD;obtain⟨a,vs,ns,rfl,rfl,hobj,hints,LS⟩:=script_of hn hpre hwl;refine enter_call (codeAny_mono (call w s₀ s₁ mg mb fa o pm cd doc a vs ns G Y ho (fd_plain hd) hcd hmg hobj hints LS hg) fun r s' hq=>?_);obtain⟨rfl,h2,h3,h4⟩:=hq;exact⟨.inl ⟨.bool true,.bool true,[],rfl,fun _=>rfl,.bool true,post_true l _,fun _=>⟨List.Pairwise.nil,fun _ hm=>(nomatch hm)⟩⟩,h2,h3,h4⟩
section
variable{prog:Program}{w:World}{A:Around}{E:Value->Shared->Prop}{s:Shared}{K:Frag}
end
end Att
namespace L2
open PySem PySem.Spec PyProof.Rows
theorem qK:∀{vs:List Value} {ns:List Int},IntsAre vs ns->Vals (ns.map V.int) vs
 | _,_,.nil=>.nil
 | _,_,.cons n t h=>.cons ⟨t,rfl⟩ (qK h)
def Only(H:Hp):Prop:=∀ b,H b=none\/∃ o xs,H b=some (.frz o (.lst xs))
theorem ET {P:Program} {w:World} {K:Frag} {mg mb:Str->Option Value} {CX:CXT} {k:Nat} {fa a:Addr} {fd:FuncData} {x:Str} {sp:Sp} {s₁:Shared} {vs:List Value} {ns:List Int}
  (KX:K.In s₁.heap) (hns:s₁.heap.Ns mainGlobals mg) (hb:s₁.heap.Ns builtinsNs mb) (hbb:∀ x:Str,x≠"__name__"->mb x=bootBuiltins x) (hlim:s₁.heap.NoLimit) (hg:s₁.gens=#[])
  (ha:s₁.heap.get? a=some {cls:=.type "list",data:=.seq vs.toArray}) (hi:IntsAre vs ns) (hl:ns.length<=sizeLine) (hr:Room k callerA)
  (F:∀ base:Heap,K.In base->base.Ns mainGlobals mg->FnOk P w K mg base CX k fa fd [x] sp) (hbind:∀(s:Shared) (u:Value),BindsTo s fd ⟨[u],[]⟩ [(x,u)])
  (hsp:∀ H:Hp,Only H->SqL K H a (ns.map V.int)->sp [.ref a] H (fun v _=>v=.bl true) fun _ _ _=>False)
  (hCX:∀ H e s',CX [] H s₁ (fun _ _ _=>False) e s'->False):
  codeAny (model P w) callerA (.call (.ref fa) ⟨[.ref a],[]⟩) (fun r s'=>r=.ok (.ret (.bool true))/\OldK s₁.heap s'.heap/\s'.os=s₁.os/\AllBare s'.gens) s₁:=by
 have rv:=qK hi;have lenV:=hi.length
 have core:∀ H:Hp,Only H->SqL K H a (ns.map V.int)->HOk P w H s₁.heap->(∀ b,H b≠none->b=a)->(H a≠none->K.lookup a=none)->
   codeAny (model P w) callerA (.call (.ref fa) ⟨[.ref a],[]⟩) (fun r s'=>r=.ok (.ret (.bool true))/\OldK s₁.heap s'.heap/\s'.os=s₁.os/\AllBare s'.gens) s₁:=by
  intro H hO hS hok hA hK;have base_of:∀{b:Addr} {o:Obj},s₁.heap.get? b=some o->H b=none->(hidT s₁.heap H).get? b=some o:=fun e n=>EL e n
  have noA:∀{b:Addr} {o:Obj} {es:Array DictEntry} {ep:Nat},s₁.heap.get? b=some o->o.data=.dict es ep->H b=none:=fun{b o es ep} e d=>by
   cases q:H b with
   | none=>rfl
   | some u=>
    have e':b=a:=hA b (by rw[q];simp);subst e';rw[ha] at e;cases e;have d':Data.seq vs.toArray _=Data.dict es ep:=d;cases d'
  have nsK:∀{b:Addr} {m:Str->Option Value},s₁.heap.Ns b m->(hidT s₁.heap H).Ns b m:=fun{b m} ⟨o,es,ep,e,d,r⟩=>⟨o,es,ep,base_of e (noA e d),d,r⟩
  have hKb:K.In (hidT s₁.heap H):=fun b o e=>base_of (KX b o e) (by
   cases q:H b with
   | none=>rfl
   | some u=>
    have e':b=a:=hA b (by rw[q];simp);subst e';rw[hK (by rw[q];simp)] at e;cases e)
  have hM:Mod K mg (hidT s₁.heap H):=⟨hKb,nsK hns,⟨mb,nsK hb,hbb⟩,let ⟨mc,h1,h2⟩:=hlim;⟨mc,nsK h1,h2⟩⟩;have e0:Env0 P w K mg (hidT s₁.heap H) callerA [] s₁ H:=⟨rfl,hM,fun b o e=>FN e,Nat.le_of_eq (CY _ _),trivial,fun b hb=>absurd (show b∈([]:List Addr) from hb) (by simp),hok,.of_eq hg⟩;refine PN ((F _ hKb (nsK hns)).run callerA [] s₁ H ⟨[.ref a],[]⟩ [.ref a] [.ref a] _ _ hr e0 (hbind s₁ (.ref a)) (.cons rfl .nil) (hsp H hO hS)) fun r s' h=>?_
  cases r with
  | error e=>exact(hCX H e s' h).elim
  | ok fl=>
   cases fl with
   | next=>exact False.elim h
   | brk=>exact False.elim h
   | cont=>exact False.elim h
   | ret u=>
    obtain⟨v,H',os,bare,un,hok',r',q⟩:=h;have q':v=.bl true:=q;subst q';obtain rfl:u=Value.bool true:=r';refine⟨rfl,OldK.of_keep fun b o e=>?_,os,bare⟩
    cases q:H b with
    | none=>exact un.keep b o e q (by intro z;exact absurd (show b∈([]:List Addr) from z) (by simp)) (by simp)
    | some u=>
     rcases hO b with z | ⟨ob,xs,z⟩
     . rw[q] at z;cases z
     . have z2:=un.frzs b ob _ z;obtain⟨e1,_⟩:=hok b _ z;obtain⟨e2,_⟩:=hok' b _ z2;rw[e] at e1;cases e1;exact e2
 cases hk:K.lookup a with
 | some o=>
  have e:=KX a o hk;rw[ha] at e;cases e;refine core (fun _=>none) (fun _=>.inl rfl) (.inr ⟨_,vs.toArray,_,hk,rfl,rfl,rfl,by rw[Mw,lenV];exact hl,by simpa using rv⟩) (fun b u z=>by have z':(none:Option HO)=some u:=z;cases z') (fun b z=>absurd rfl z) fun z=>absurd rfl z
 | none=>
  refine core (fun b=>if b=a then some (.frz {cls:=.type "list",data:=.seq vs.toArray} (.lst (ns.map V.int))) else none) (fun b=>?_) (.inl (.inr ⟨{cls:=.type "list",data:=.seq vs.toArray},Mp rfl⟩)) (fun b u z=>?_) (fun b z=>?_) fun _=>hk
  . by_cases hb:b=a
    . exact .inr ⟨_,_,Mp hb⟩
    . exact .inl (Md hb)
  . by_cases hb:b=a
    . have z':=(Mp hb).symm.trans z;cases z';subst hb;exact⟨ha,by rw[LV];exact hl,vs,_,rv,ha⟩
    . have z':=(Md hb).symm.trans z;cases z'
  . by_cases hb:b=a
    . exact hb
    . exact absurd (Md hb) z
theorem F0 {l:PySem.W.OpenLaw} {n k:Nat} {q:Program} {loose:List Str} {XP:(Str->Option Value)->Heap->Prop} {YP:World->Heap->Prop} {d:DefRec} {K:Params->Frag} {CX:World->CXT} {sp:World->Sp} {x:Str}
  (hn:l.most=some n) (hn2:n<=sizeLine) (hdf:d.params.defaults=[]) (hr:Room k callerA)
  (hY:∀(w:World) (h:Heap),YP w h->(K w.params).In h)
  (F:∀(w:World) (mg:Str->Option Value) (fa:Addr) (h:Heap),(K w.params).In h->h.Ns mainGlobals mg->mg d.name=some (.ref fa)->
   ∃ fd:FuncData,(∀(s:Shared) (u:Value),BindsTo s fd ⟨[u],[]⟩ [(x,u)])/\
    ∀ base:Heap,(K w.params).In base->base.Ns mainGlobals mg->FnOk l.prog w (K w.params) mg base (CX w) k fa fd [x] (sp w))
  (hsp:∀(w:World) (H:Hp) (a:Addr) (ns:List Int),ns.length<=n->Only H->SqL (K w.params) H a (ns.map V.int)->sp w [.ref a] H (fun v _=>v=.bl true) fun _ _ _=>False)
  (hCX:∀(w:World) (H:Hp) (s:Shared) (e:Value) (s':Shared),CX w [] H s (fun _ _ _=>False) e s'->False):
  PySem.W.WalkO q loose XP YP l.row.toRowW d [] (fun f vs=>PySem.call f vs):=by
 refine Att.attach_call hn hdf fun w s₀ s₁ mg mb fa o pm cd doc a vs ns G Y ho hd hcd hmg hobj hints LS hg=>?_;have KX:=hY w _ Y;obtain⟨fd,hb,hF⟩:=F w mg fa _ KX G.T.g hmg;exact ET KX G.T.g G.T.b G.T.builtins G.T.nolimit hg hobj hints (Mi LS hn2) hr hF hb (fun H hO hS=>hsp w H a ns LS hO hS) fun H e s'=>hCX w H s₁ e s'
def cD(s:Stmt):Arguments:=match s with
 | .FunctionDef _ a _ _ _ _ _ _ _ _=>a
 | _=>{posonlyargs:=[],args:=[],vararg:=none,kwonlyargs:=[],kw_defaults:=[],kwarg:=none,defaults:=[]}
def b3(s:Stmt):List Stmt:=match s with
 | .FunctionDef _ _ b _ _ _ _ _ _ _=>b
 | _=>[]
def aX(s:Stmt):Scope:=match s with
 | .FunctionDef _ _ _ _ _ _ sc _ _ _=>sc
 | _=>{kind:=.function,names:=[],isGenerator:=false,isCoroutine:=false}
abbrev CX0:CXT:=fun _ _ _ _ _ _=>False
abbrev E0:XK:=fun _ _ _=>False
theorem y4{X:Cx}:qH CX0 X E0:=fun _ _ _ _ _ _ _ h=>h.elim
structure Fun(K:Frag)(x qual:Str)(st:Stmt)(f:Addr)(fd:FuncData):Prop where
 ex:∃(oc:Value) (od:Option Addr) (kV doc pm:Value) (an:Option Addr) (LL ct:Value) (osl:Array (Option Value)),
  fd=fnOf x qual (cD st) (b3 st) (aX st) .none kV doc pm an LL ct/\K.lookup f=some ⟨oc,od,.func fd,osl⟩/\codeIn K LL qual=true
 kp:keepIn K (.ref f)=true
section
variable{P:Program}{w:World}{K:Frag}{mg:Str->Option Value}{base:Heap}
theorem Fun.ok {x qual:Str} {st:Stmt} {f:Addr} {fd:FuncData} {N ps:List Str} {k:Nat} {sp:Sp} (F:Fun K x qual st f fd) (S:lz N ps (aX st)) (len:∀ vs H Q E,sp vs H Q E->vs.length=ps.length)
  (hbody:∀(LL:Value) (A:Around) (outer:List Env) (s:Shared) (H:Hp) (vs:List V) (Q:VK) (E:XK),Room k (A.deeper (envOfC qual (aX st) s.heap.objs.size f LL))->sp vs H Q E->
   ∃ t,PSs (cxOf CX0 P w K mg base N qual (aX st) f LL A outer s H E).nox (b3 st) t/\t {nx:=fun _ H'=>Q .non H',rt:=Q} (start N vs) H):FnOk P w K mg base CX0 (k+1) f fd ps sp:=by
 obtain⟨oc,od,kV,doc,pm,an,LL,ct,osl,rfl,lk,hcd⟩:=F.ex;refine Ij lk hcd S len fun A outer s H vs Q E hr hsp=>?_;obtain⟨t,h,q⟩:=hbody LL A outer s H vs Q E hr hsp;exact⟨t,h.nox,q⟩
theorem Fun.binds {x qual:Str} {st:Stmt} {f:Addr} {fd:FuncData} {ps:List Str} (F:Fun K x qual st f fd)
  (h:∀(kV doc pm:Value) (an:Option Addr) (LL ct:Value) (us:List Value),us.length=ps.length->bindArgs (fnOf x qual (cD st) (b3 st) (aX st) .none kV doc pm an LL ct) ⟨us,[]⟩=pure (ps.zip us)):Binds K fd ps []:=by
 obtain⟨oc,od,kV,doc,pm,an,LL,ct,osl,rfl,lk,hcd⟩:=F.ex;exact .all (h kV doc pm an LL ct)
theorem Dl {x qual:Str} {st:Stmt} {f:Addr} {oc:Value} {od an:Option Addr} {osl:Array (Option Value)} {kV doc pm LL ct:Value} (l:K.lookup f=some ⟨oc,od,.func (fnOf x qual (cD st) (b3 st) (aX st) .none kV doc pm an LL ct),osl⟩)
  (c:codeIn K LL qual=true) (k:keepIn K (.ref f)=true):Fun K x qual st f (fnOf x qual (cD st) (b3 st) (aX st) .none kV doc pm an LL ct):=⟨⟨oc,od,kV,doc,pm,an,LL,ct,osl,rfl,l,c⟩,k⟩
end
theorem aD{n:Nat}(h:n<=1000):n<sizeLine:=Na h (by decide)
section
variable{X:Cx}
theorem pv (i:Nat) {x:Str} {pos:Pos} (hN:X.N[i]? =some x:=by rfl) (hv:Vis X.env.scope x:=by first | exact Or.inl rfl | exact Or.inr (Or.inl rfl) | exact Or.inr (Or.inr rfl)) (hd:(x==("__debug__":Str))=false:=by decide)
  (hcd:(x==("__classdict__":Str))=false:=by decide):PE X (.Name x pos) (tVar i):=GO hN hv hd hcd
end
theorem iteF{A B:Prop}(h:B):if false=true then A else B:=by
 rw[Md L7];exact h
theorem iteT{A B:Prop}(h:A):if true=true then A else B:=by
 rw[Mp rfl];exact h
def Same(H H':Hp):Prop:=∀ b o,H b=some o->H' b=some o
theorem Same.refl(H:Hp):Same H H:=fun _ _ h=>h
abbrev L3:=@Same.refl
theorem Same.trans{H H1 H2:Hp}(a:Same H H1)(b:Same H1 H2):Same H H2:=fun c o h=>b c o (a c o h)
theorem Same.free{H H':Hp}(e:Same H H'){l:Addr}(h:H' l=Option.none):H l=Option.none:=by
 cases q:H l with
 | none=>rfl
 | some o=>
  rw[e l o q] at h;cases h
theorem Same.seq{K:Frag}{H H':Hp}{a:Addr}{xs:List V}(e:Same H H')(h:SqL K H a xs):SqL K H' a xs:=by
 rcases h with (h | ⟨o,h⟩) | h
 . exact .inl (.inl (e _ _ h))
 . exact .inl (.inr ⟨o,e _ _ h⟩)
 . exact .inr h
section
variable{κ:Type}[DecidableEq κ]
def valV(LN:List (κ × V))(k:κ):Option V:=(LN.find? fun kv=>decide (kv.1=k)).map (·.2)
def putK(LN:List (κ × V))(k:κ)(v:V):List (κ × V):=
 if (LN.any fun kv=>decide (kv.1=k))=true then LN.map (fun kv=>if kv.1=k then(kv.1,v) else kv) else LN++[(k,v)]
theorem t8{p:κ × V}{r:List (κ × V)}{k:κ}(e:p.1=k):valV (p::r) k=some p.2:=by simp[valV,NM,e]
theorem t9{p:κ × V}{r:List (κ × V)}{k:κ}(e:¬ p.1=k):valV (p::r) k=valV r k:=by simp[valV,NM,e]
theorem zn(k:κ):∀ LN:List (κ × V),(LN.any fun kv=>decide (kv.1=k))=(valV LN k).isSome
 | []=>rfl
 | p::r=>by
  rw[NY];by_cases e:p.1=k
  . simp only[t8 e,LY e,N8,Option.isSome_some]
  . rw[t9 e,L0 e,Nc];exact zn k r
theorem tF(LN:List (κ × V))(k:κ)(v:V):(putK LN k v).length<=LN.length+1:=by
 unfold putK
 split
 . rw[LV];omega
 . rw[Mz,My,List.length_nil];omega
theorem RelO.isSome_eq{o:Option V}{u:Option Value}(r:RelO o u):o.isSome=u.isSome:=by
 cases o with
 | none=>cases u with
  | none=>rfl
  | some _=>exact(show False from r).elim
 | some _=>cases u with
  | none=>exact(show False from r).elim
  | some _=>rfl
theorem KV.val{LN:List (κ × V)}{vs:List (κ × Value)}(r:KV LN vs)(k:κ):RelO (valV LN k) (valueAt vs k):=by
 unfold KV at r
 induction r with
 | nil=>exact True.intro
 | @cons p q ps qs h t ih=>
  obtain⟨h1,h2⟩:=h;by_cases e:p.1=k
  . have e':q.1=k:=h1.symm.trans e;have b:valueAt (q::qs) k=some q.2:=by simp[valueAt,NM,e']
    rw[t8 e,b];exact h2
  . have e':¬ q.1=k:=fun z=>e (h1.trans z);have b:valueAt (q::qs) k=valueAt qs k:=by simp[valueAt,NM,e']
    rw[t9 e,b];exact ih
theorem KV.any{LN:List (κ × V)}{vs:List (κ × Value)}(r:KV LN vs)(k:κ):(LN.any fun kv=>decide (kv.1=k))=vs.any fun kv=>decide (kv.1=k):=by
 unfold KV at r
 induction r with
 | nil=>rfl
 | cons h t ih=>rw[NY,NY,ih,h.1]
theorem KV.repl{LN:List (κ × V)}{vs:List (κ × Value)}(r:KV LN vs)(k:κ){y:V}{u:Value}(ry:RelV y u):
  KV (LN.map fun kv=>if kv.1=k then(kv.1,y) else kv) (vs.map fun kv=>if kv.1=k then(kv.1,u) else kv):=by
 unfold KV at r ⊢
 induction r with
 | nil=>exact .nil
 | @cons p q ps qs h t ih=>
  rw[Mx,Mx];refine .cons ?_ ih;obtain⟨h1,h2⟩:=h;by_cases e:p.1=k
  . rw[Mp e,Mp (h1.symm.trans e)];exact⟨h1,ry⟩
  . rw[Md e,Md (fun z=>e (h1.trans z))];exact⟨h1,h2⟩
theorem KV.put{LN:List (κ × V)}{vs:List (κ × Value)}(r:KV LN vs)(k:κ){y:V}{u:Value}(ry:RelV y u):KV (putK LN k y) (stored vs k u):=by
 unfold putK stored;rw[r.any k];by_cases e:(vs.any fun kv=>decide (kv.1=k))=true
 . rw[Mp e,Mp e];exact r.repl k ry
 . rw[Md e,Md e];exact Paired.snoc r ⟨rfl,ry⟩
theorem KV.length{LN:List (κ × V)}{vs:List (κ × Value)}(r:KV LN vs):LN.length=vs.length:=PJ r
end
theorem uX{P:Program}{w:World}{k:Key}{u:Value}(r:RelV (kV k) u):(cf P w).is k u=true:=by
 cases k with
 | inl i=>obtain⟨t,e⟩:=(show ∃ t,u=Value.int i t from r);subst e;exact AK P w i t
 | inr x=>obtain⟨t,e⟩:=(show ∃ t,u=Value.str x t from r);subst e;exact AL P w x t
theorem xN{P:Program}{w:World}:∀{ks:List Key} {us:List Value},Vals (ks.map kV) us->ItemsAre (cf P w) ks us
 | [],_,r=>by rw[List.map_nil] at r;cases r;exact .nil
 | k::ks,_,r=>by
  rw[Mx] at r
  cases r with
  | cons h t=>exact .cons (uX h) (xN t)
abbrev KT(H:Hp):List (List Key × V)->List (List Key × Addr × Value)->Prop:=Paired fun p q=>p.1=q.1/\H q.2.1=some (.tup (p.1.map kV))/\RelV p.2 q.2.2
variable{H:Hp}{LN:List (List Key × V)}{xs:List (List Key × Addr × Value)}
theorem KT.val(r:KT H LN xs)(k:List Key):RelO (valV LN k) ((atKey xs k).map (·.2)):=by
 induction r with
 | nil=>exact True.intro
 | @cons p q ps qs h t ih=>
  obtain⟨h1,_,h2⟩:=h;by_cases e:p.1=k
  . have e':q.1=k:=h1.symm.trans e;have b:atKey (q::qs) k=some q.2:=by simp[atKey,NM,e']
    rw[t8 e,b];exact h2
  . have e':¬ q.1=k:=fun z=>e (h1.trans z);have b:atKey (q::qs) k=atKey qs k:=by simp[atKey,NM,e']
    rw[t9 e,b];exact ih
theorem KT.repl(r:KT H LN xs)(k:List Key){y:V}{u:Value}(ry:RelV y u):
  KT H (LN.map fun kv=>if kv.1=k then(kv.1,y) else kv) (xs.map (putAt k u)):=by
 induction r with
 | nil=>exact .nil
 | @cons p q ps qs h t ih=>
  rw[Mx,Mx];refine .cons ?_ ih;obtain⟨h1,h2,h3⟩:=h;unfold putAt;by_cases e:p.1=k
  . rw[Mp e,Mp (h1.symm.trans e)];exact⟨h1,h2,ry⟩
  . rw[Md e,Md (fun z=>e (h1.trans z))];exact⟨h1,h2,h3⟩
theorem KT.put(r:KT H LN xs)(k:List Key){b:Addr}{y:V}{u:Value}(hb:H b=some (.tup (k.map kV)))(ry:RelV y u):
  KT H (putK LN k y) (storedH xs k b u):=by
 have e:(LN.any fun kv=>decide (kv.1=k))=(atKey xs k).isSome:=by
  rw[zn,(r.val k).isSome_eq,Pd]
 unfold putK storedH;rw[e];by_cases q:(atKey xs k).isSome=true
 . rw[Mp q,Mp q];exact r.repl k ry
 . rw[Md q,Md q];exact Paired.snoc r ⟨rfl,hb,ry⟩
theorem KT.keeps{H':Hp}(r:KT H LN xs)(ht:∀ b ys,H b=some (.tup ys)->H' b=some (.tup ys)):KT H' LN xs:=
 Paired.mapP r fun _ _ z=>⟨z.1,ht _ _ z.2.1,z.2.2⟩
section
variable{P:Program}{w:World}{H:Hp}{h:Heap}{a:Addr}
theorem FC{u:HO}(ok:HOk P w H h)(e:Rd H a u):ObjOk P w H h a u:=e.ok ok
theorem sE{LN:List (Key × V)}(ok:HOk P w H h)(e:Rd H a (.dK LN)):LN.length<=sizeLine/\(a==sysModules)=false/\∃ vs,KV LN vs/\h.DictOf (cf P w) a vs:=
 show ObjOk P w H h a (.dK LN) from FC ok e
theorem Ik{LN:List (Key × V)}(ok:HOk P w H h)(e:H a=some (.dK LN)):LN.length<=sizeLine/\(a==sysModules)=false/\∃ vs,KV LN vs/\h.DictOf (cf P w) a vs:=sE ok (.inl e)
theorem qL{ks:List Key}(ok:HOk P w H h)(e:H a=some (.tup (ks.map kV))):(tupleKind (cf P w)).is h ks a:=by
 obtain⟨_,LO,r,o,h1,h2,n,h3⟩:=(show ObjOk P w H h a (.tup (ks.map kV)) from ok a _ e);exact⟨o,LO.toArray,n,h1,h2,h3,by simpa using xN r⟩
theorem uY{LN:List (List Key × V)}(ok:HOk P w H h)(e:Rd H a (.dT LN)):LN.length<=sizeLine/\(a==sysModules)=false/\
  ∃ xs,KT H LN xs/\h.DictOfH (tupleKind (cf P w)) a xs:=by
 obtain⟨z,y,xs,r,o,es,ep,h1,h2,h3,h4,h5⟩:=(show ObjOk P w H h a (.dT LN) from FC ok e);refine⟨z,y,xs,r,o,es,ep,h1,h2,h3,h4,fun x hx=>?_,h5⟩
 have all:∀{l:List (List Key × V)} {m:List (List Key × Addr × Value)},KT H l m->∀ x∈m,(tupleKind (cf P w)).is h x.1 x.2.1:=by
  intro l m q
  induction q with
  | nil=>intro x hx;exact nomatch hx
  | @cons p q ps qs hq t ih=>
   intro x hx;rcases Mn.mp hx with e | hx
   . subst e;exact qL ok (by rw[← hq.1];exact hq.2.1)
   . exact ih x hx
 exact all r x hx
theorem Il{LN:List (List Key × V)}(ok:HOk P w H h)(e:H a=some (.dT LN)):LN.length<=sizeLine/\(a==sysModules)=false/\
  ∃ xs,KT H LN xs/\h.DictOfH (tupleKind (cf P w)) a xs:=uY ok (.inl e)
end
def DGet(H:Hp)(a:Addr)(y:V)(r:Option V):Prop:=
 (∃ LN k,Rd H a (.dK LN)/\y=kV k/\r=valV LN k)\/∃ LN k b,Rd H a (.dT LN)/\y=.ref b/\H b=some (.tup (k.map kV))/\r=valV LN k
def DPut(H:Hp)(a:Addr)(y v:V)(H':Hp):Prop:=
 (∃ LN k,H a=some (.dK LN)/\y=kV k/\LN.length<sizeLine/\H'=upd H a (.dK (putK LN k v)))\/
 ∃ LN k b,H a=some (.dT LN)/\y=.ref b/\H b=some (.tup (k.map kV))/\LN.length<sizeLine/\H'=upd H a (.dT (putK LN k v))
theorem DGet.k{a:Addr}{LN:List (Key × V)}{k:Key}(e:H a=some (.dK LN)):DGet H a (kV k) (valV LN k):=.inl ⟨LN,k,.inl e,rfl,rfl⟩
section
variable{X:Cx}{LJ:List (Addr × Obj)}{σ:St}{H:Hp}{s:Shared}{a:Addr}{y v:V}{u r:Value}{o:Option V}{A:Around}{E:Value->Shared->Prop}
theorem Dm{Q:Value->Shared->Prop}(hu:A.units+1<cLine)(I:Inv X LJ σ H s)(g:DGet H a y (some v))(ry:RelV y u)(h:∀ w' s',Inv X LJ σ H s'->RelV v w'->Q w' s'):
  wpAny (model X.prog X.w) A (getItem (.ref a) u) Q E s:=by
 rcases g with ⟨LN,k,e,ey,l⟩ | ⟨LN,k,b,e,ey,eb,l⟩
 . subst ey;obtain⟨z,hd,vs,rel,dd⟩:=sE I.hok e;obtain⟨w',hw,rw'⟩:=PM (v:=v) (o:=valueAt vs k) (by rw[l];exact rel.val k);exact wpAny_getItem_of (uX ry) dd.mapOf hw (h w' _ (I.tok _) rw')
 . subst ey;cases (show u=Value.ref b from ry);obtain⟨z,hd,xs,rel,dd⟩:=uY I.hok e;obtain⟨w',hw,rw'⟩:=PM (v:=v) (o:=(atKey xs k).map (·.2)) (by rw[l];exact rel.val k);obtain⟨p,hp,hp2⟩:=NC.mp hw;refine wpAny_getItem_heap (Oe hu) (qL I.hok eb) dd hp ?_;rw[hp2];exact h w' _ (I.tok _) rw'
theorem IK{Q:Value->Shared->Prop}(hu:A.units+1<cLine)(I:Inv X LJ σ H s)(g:DGet H a y o)(ry:RelV y u)(h:∀ s',Inv X LJ σ H s'->Q (.bool o.isSome) s'):
  wpAny (model X.prog X.w) A (compareOp .In u (.ref a)) Q E s:=by
 rcases g with ⟨LN,k,e,ey,l⟩ | ⟨LN,k,b,e,ey,eb,l⟩
 . subst ey;obtain⟨z,hd,vs,rel,dd⟩:=sE I.hok e;refine wpAny_in_of (uX ry) hd dd.mapOf ?_;rw[← (rel.val k).isSome_eq,← l];exact h _ (I.tok _)
 . subst ey;cases (show u=Value.ref b from ry);obtain⟨z,hd,xs,rel,dd⟩:=uY I.hok e;refine wpAny_in_heap (Oe hu) (qL I.hok eb) hd dd ?_;have q:=(rel.val k).isSome_eq;rw[Pd] at q;rw[← q,← l];exact h _ (I.tok _)
theorem F1{Q:Value->Shared->Prop}(hu:A.units+1<cLine)(I:Inv X LJ σ H s)(g:DGet H a y o)(ry:RelV y u)(h:∀ s',Inv X LJ σ H s'->Q (.bool (!o.isSome)) s'):
  wpAny (model X.prog X.w) A (compareOp .NotIn u (.ref a)) Q E s:=by
 rcases g with ⟨LN,k,e,ey,l⟩ | ⟨LN,k,b,e,ey,eb,l⟩
 . subst ey;obtain⟨z,hd,vs,rel,dd⟩:=sE I.hok e;refine wpAny_notIn_of (uX ry) hd dd.mapOf ?_;rw[← (rel.val k).isSome_eq,← l];exact h _ (I.tok _)
 . subst ey;cases (show u=Value.ref b from ry);obtain⟨z,hd,xs,rel,dd⟩:=uY I.hok e;refine wpAny_notIn_heap (Oe hu) (qL I.hok eb) hd dd ?_;have q:=(rel.val k).isSome_eq;rw[Pd] at q;rw[← q,← l];exact h _ (I.tok _)
theorem Bp{h':Heap}{t':Nat}{ob:HO}(I:Inv X LJ σ H s)(mu:Mut (H a))(hs:Heap.SameBut a s.heap h')(he:∃ q,h'.get? a=some q)(new:ObjOk X.prog X.w (upd H a ob) h' a ob):
  Inv X LJ σ (upd H a ob) {s with heap:=h',toks:=t'}:=
 I.write (x:=a) (e:=a) mu (.inl rfl) (fun b q hb z=>(hs.2 b hb).trans z) he new
theorem G1{P:Program}{w:World}{H':Hp}{h':Heap}{LN:List (Key × V)}{vs:List (Key × Value)}(z:LN.length<=sizeLine)(hd:(a==sysModules)=false)(rel:KV LN vs)(dd:h'.DictOf (cf P w) a vs):
  ObjOk P w H' h' a (.dK LN):=⟨z,hd,vs,rel,dd⟩
theorem Dn{H':Hp}{Q:Unit->Shared->Prop}(hu:A.units+1<cLine)(I:Inv X LJ σ H s)(g:DPut H a y v H')(ry:RelV y u)(rv:RelV v r)(h:∀ s',Inv X LJ σ H' s'->Q () s'):
  wpAny (model X.prog X.w) A (setItem (.ref a) u r) Q E s:=by
 rcases g with ⟨LN,k,e,ey,l,eH⟩ | ⟨LN,k,b,e,ey,eb,l,eH⟩
 . subst ey eH;obtain⟨z,hd,vs,rel,dd⟩:=Ik I.hok e;have hz:vs.length<=sizeLine:=by rw[← rel.length];exact z
   have hl:(putK LN k v).length<=sizeLine:=by have:=tF LN k v;omega
   refine wpAny_setItem_pairs (hsz:=hz) (uX ry) dd fun h' dd' hs=>h _ ?_;have he:∃ q,h'.get? a=some q:=let ⟨q,_,_,hq,_⟩:=dd';⟨q,hq⟩;exact Bp I (by rw[e];exact True.intro) hs he (G1 hl hd (rel.put k rv) dd')
 . subst ey eH;cases (show u=Value.ref b from ry);obtain⟨z,hd,xs,rel,dd⟩:=Il I.hok e;have hz:xs.length<=sizeLine:=by rw[← PJ rel];exact z
   have hl:(putK LN k v).length<=sizeLine:=by have:=tF LN k v;omega
   refine wpAny_setItem_heap (hsz:=hz) (Oe hu) (qL I.hok eb) dd fun h' dd' hs=>h _ ?_;obtain⟨q,es,ep,hq,h2,h3,h4,_,h5⟩:=dd';refine Bp I (by rw[e];exact True.intro) hs ⟨q,hq⟩ ⟨hl,hd,_,(rel.put k eb rv).keeps fun c ys ec=>?_,q,es,ep,hq,h2,h3,h4,h5⟩;rw[ai (Ia ec e (fun z=>nomatch z))];exact ec
end
section
variable{X:Cx}{LJ:List (Addr × Obj)}{σ:St}{H:Hp}{s:Shared}{a:Addr}{LN:List (Key × V)}{k:Key}{u:Value}{A:Around}{E:Value->Shared->Prop}
theorem Im{Q:Value->Shared->Prop}(I:Inv X LJ σ H s)(e:Rd H a (.dK LN))(h:∀ t s',Inv X LJ σ H s'->Q (.int LN.length t) s'):wpAny (model X.prog X.w) A (call (.builtin "len") [.ref a]) Q E s:=by
 obtain⟨z,hd,vs,rel,dd⟩:=sE I.hok e;refine call_len_dict hd dd (by rw[← rel.length];rw[sizeLine_eq] at z;omega) ?_;rw[← rel.length];exact h _ _ (I.tok _)
end
theorem AN{X:Cx}{LJ:List (Addr × Obj)}{σ:St}{s:Shared}{a:Addr}{y:V}{o:Option V}(I:Inv X LJ σ H s)(g:DGet H a y o):s.TypeIs (.ref a) "dict":=by
 rcases g with ⟨LN,k,e,_,_⟩ | ⟨LN,k,b,e,_,_,_⟩
 . obtain⟨_,_,vs,_,dd⟩:=sE I.hok e;exact dd.typeIs
 . obtain⟨_,_,xs,_,dd⟩:=uY I.hok e;exact dd.typeIs
def sDPut(td ty tv:TE):TS:=fun D σ H=>tv σ H fun v H1=>td σ H1 fun x H2=>ty σ H2 fun y H3=>∃ a H4,x=.ref a/\DPut H3 a y v H4/\D.nx σ H4
def G2:TE:=fun _ H Q=>∀ p,H p=none->Q (.ref p) (upd H p (.dK []))
section
variable{X:Cx}
theorem Do:CallR X (.builtin "len") (fun xs H Q=>∃ a LN,xs=[V.ref a]/\H a=some (.dK LN)/\Q (.int LN.length) H):=by
 intro LJ s σ H xs us Q I r h;obtain⟨a,LN,rfl,ha,q⟩:=h;obtain⟨u,rfl,ru⟩:=cG r;cases ru;exact Im I (.inl ha) fun t s' I'=>⟨.int LN.length,H,I',⟨t,rfl⟩,q⟩
end
theorem cj{α:Type}(x:Str):∀(a b:List (Str × α)),(a++b).lookup x=match a.lookup x with | some c=>some c | none=>b.lookup x
 | [],b=>rfl
 | (k,v)::r,b=>by
  rw[List.cons_append,MZ,MZ]
  cases x==k with
  | true=>rfl
  | false=>exact cj x r b
theorem kq:∀(names:List (Str × NameKind)) (n:Nat) (acc cl:List (Str × Addr)),cellsFrom n names (acc++cl)=cellsFrom n names acc++cl
 | [],_,_,_=>rfl
 | (y,k)::r,n,acc,cl=>by
  unfold cellsFrom
  split
  . rw[← List.cons_append];exact kq r _ _ cl
  . exact kq r _ _ cl
theorem gS{x:Str}{c:Addr}:∀(names:List (Str × NameKind)) (n:Nat) (acc:List (Str × Addr)),(x,c)∈cellsFrom n names acc->(x,NameKind.cell)∈names\/(x,c)∈acc
 | [],_,_,h=>.inr h
 | (y,k)::r,n,acc,h=>by
  unfold cellsFrom at h
  split at h
  . rename_i hk
    have hk:k=.cell:=by simpa using hk
    subst hk;rcases gS r _ _ h with z | z
    . exact .inl (Mc _ z)
    . rcases Mn.mp z with z | z
      . cases z;exact .inl Mf
      . exact .inr z
  . rcases gS r _ _ h with z | z
    . exact .inl (Mc _ z)
    . exact .inr z
theorem pF {env:Env} (f:Str × NameKind->List (Str × Addr)->Sem (ForInStep (List (Str × Addr))))
  (hf:∀ name kind cs,f (name,kind) cs=if kind==.free then(do let a ← cellOf env name;pure (.yield ((name,a)::cs))) else pure (.yield cs)):
  ∀(names:List (Str × NameKind)) (acc:List (Str × Addr)),(∀ x,(x,NameKind.free)∈names->∃ c,env.cells.lookup x=some c)->(∀ x c,acc.lookup x=some c->env.cells.lookup x=some c)->
   ∃ cl,forIn names acc f=(pure cl:Sem _)/\(∀ x c,cl.lookup x=some c->env.cells.lookup x=some c)/\(∀ x,((x,NameKind.free)∈names\/∃ c,acc.lookup x=some c)->∃ c,cl.lookup x=some c)
 | [],acc,_,h2=>⟨acc,rfl,h2,fun x h=>h.elim (fun z=>nomatch z) id⟩
 | (y,k)::r,acc,h1,h2=>by
  rw[List.forIn_cons,hf];by_cases hk:(k==NameKind.free)=true
  . rw[Mp hk];have hk':k=.free:=by simpa using hk
    subst hk';obtain⟨c,hc⟩:=h1 y Mf;have e:(cellOf env y:Sem Addr)=pure c:=by unfold cellOf;rw[hc]
    rw[e]
    obtain⟨cl,e1,e2,e3⟩:=pF f hf r ((y,c)::acc) (fun x hx=>h1 x (Mc _ hx)) (fun x c' hx=>by
     rw[MZ] at hx
     cases hb:x==y with
     | true=>rw[hb] at hx;cases hx;rw[NO.mp hb];exact hc
     | false=>rw[hb] at hx;exact h2 x c' hx)
    refine⟨cl,?_,e2,fun x hx=>e3 x ?_⟩
    . exact e1
    . rcases hx with hx | ⟨c',hx⟩
      . rcases Mn.mp hx with z | z
        . cases z;exact .inr ⟨c,by rw[MZ];simp⟩
        . exact .inl z
      . cases hb:x==y with
        | true=>exact .inr ⟨c,by rw[MZ,hb]⟩
        | false=>exact .inr ⟨c',by rw[MZ,hb];exact hx⟩
  . rw[Md hk];obtain⟨cl,e1,e2,e3⟩:=pF f hf r acc (fun x hx=>h1 x (Mc _ hx)) h2;refine⟨cl,e1,e2,fun x hx=>e3 x ?_⟩;rcases hx with hx | hx
    . rcases Mn.mp hx with z | z
      . cases z;exact absurd rfl hk
      . exact .inl z
    . exact .inr hx
variable{scope:Scope}
theorem Ca{env:Env}(h:∀ x,(x,NameKind.free)∈scope.names->∃ c,env.cells.lookup x=some c):
  ∃ cl,closureFor scope env=pure cl/\(∀ x c,cl.lookup x=some c->env.cells.lookup x=some c)/\∀ x,(x,NameKind.free)∈scope.names->∃ c,cl.lookup x=some c:=by
 obtain⟨cl,e1,e2,e3⟩:=pF (env:=env) (fun x cs=>match x with | (name,kind)=>if kind==.free then(do let a ← cellOf env name;pure (.yield ((name,a)::cs))) else pure (.yield cs)) (fun _ _ _=>rfl) scope.names [] h (fun x c hx=>nomatch hx);refine⟨cl,?_,e2,fun x hx=>e3 x (.inl hx)⟩
 have:closureFor scope env=(forIn scope.names [] (fun x cs=>match x with | (name,kind)=>if kind==.free then(do let a ← cellOf env name;pure (.yield ((name,a)::cs))) else pure (.yield cs)) >>= fun cs=>pure cs):=by
  simp only[closureFor]
 rw[this,e1];rfl
def Dp(scope:Scope)(cl:List (Str × Addr))(C:Addr)(env:Env):Env:=
 {newEnv scope C env.globals (cellsFrom (C+1) scope.names cl) env.qual none .none (some env) builtinsNs with scope:=relabel scope env}
theorem EU {M:Model} {A:Around} {E:Value->Shared->Prop} {s:Shared} {cl:List (Str × Addr)} {env:Env} {Q:Env->Shared->Prop}
  (hQ:Q (newEnv scope s.heap.objs.size env.globals (cellsFrom (s.heap.objs.size+1) scope.names cl) env.qual none .none (some env) builtinsNs) {s with heap:=pushCells (s.heap.push {cls:=.type "dict",data:=.dict #[]}) scope.names}):
  wpAny M A (newFunctionEnv scope env.globals cl [] env.qual none .none (some env)) Q E s:=by
 simp only[newFunctionEnv,Option.isSome_some,NB];refine MM (wpAny_alloc ?_);refine MM (wpAny_layCells _ (fun name kind cells=>by cases hkc:kind==NameKind.cell <;> simp[hkc]) _ _ _ _ ?_);rw[show({s with heap:=s.heap.push {cls:=.type "dict",data:=.dict #[]}}:Shared).heap.objs.size=s.heap.objs.size+1 from NQ ..];refine MM ?_;rw[List.forIn_nil];exact MW (MW hQ)
section
variable{prog:Program}{w:World}{A:Around}{E:Value->Shared->Prop}{R:Result->Shared->Prop}{s:Shared}
theorem Dq {elt target iter:Expr} {ifs:List Expr} {scope:Scope} {pos:Pos} {it acc:Value} {env:Env} (I:Nat->Shared->Prop)
  (turn:∀ n s,I n s->wpAny (model prog w) A (pyNext it) (fun r s₁=>match r with
   | none=>R (.ok .next) s₁
   | some v=>wpAny (model prog w) A (letOwnedTupleGo target it v) (fun _ s₁'=>wpAny (model prog w) A (assign target env v) (fun _ s₂=>
     wpAny (model prog w) A (forIn ifs true fun c r=>if r=true then do let ok ← isTrue c env (eval c env);pure (ForInStep.yield ok) else pure (ForInStep.yield r)) (fun ok s₃=>
      if ok=true then wpAny (model prog w) A (eval elt env) (fun x s₄=>
       wpAny (model prog w) A (call (.builtin "list.append") [acc,x]) (fun _ s₅=>∃ m,m<n/\I m s₅) (notedBy (model prog w) A env fun e s'=>R (.error e) s') s₄) (notedBy (model prog w) A env fun e s'=>R (.error e) s') s₃
      else ∃ m,m<n/\I m s₃) (notedBy (model prog w) A env fun e s'=>R (.error e) s') s₂) (notedBy (model prog w) A env fun e s'=>R (.error e) s') s₁') (notedBy (model prog w) A env fun e s'=>R (.error e) s') s₁) (notedBy (model prog w) A env fun e s'=>R (.error e) s') s)
  (n:Nat) (h:I n s):
  codeAny (model prog w) A (.compLoop (.ListComp elt [⟨target,iter,ifs,0⟩] scope pos) 0 it acc env) R s:=by
 refine codeAny_loop rfl I (fun n s hI=>?_) n h;show wpAny _ A ((compTurn (.ListComp elt [⟨target,iter,ifs,0⟩] scope pos) 0 it acc env).onRaise (fun x=>do noteFrame x env;theTreesLotGoes x)) _ _ s;refine wpAny_noted ?_;rw[compTurn_list];refine MM (PK (MM (Nh (turn n s hI) (fun r s₁ h₁=>?_) fun _ _ h'=>h')))
 cases r with
 | none=>exact MW h₁
 | some v=>
  refine MM (Nh h₁ (fun _ s₁' h₁'=>?_) fun _ _ h'=>h');refine MM (Nh h₁' (fun _ s₂ h₂=>MM (Nh h₂ (fun ok s₃ h₃=>?_) fun _ _ h'=>h')) fun _ _ h'=>h')
  cases ok with
  | false=>exact MW ⟨rfl,h₃⟩
  | true=>
   exact MM (MM (Nh h₃ (fun x s₄ h₄=>MM (Nh h₄ (fun _ s₅ h₅=>MW (MW ⟨rfl,h₅⟩)) fun _ _ h'=>h')) fun _ _ h'=>h'))
end
variable{scope:Scope}
theorem lG{env:Env}{x:Str}{k:NameKind}(h:(relabel scope env).names.lookup x=some k):∃ k',scope.names.lookup x=some k'/\(k=k'\/(k'=.free/\k=.cell)):=by
 unfold relabel at h;dsimp only at h;generalize scope.names=names at h ⊢
 induction names with
 | nil=>cases h
 | cons p r ih=>
  obtain⟨n,k0⟩:=p;rw[Mx] at h;rw[MZ]
  cases hb:x==n with
  | true=>
   refine⟨k0,rfl,?_⟩;dsimp only at h
   split at h
   . rename_i hc
     rw[MZ,hb] at h;cases h;simp only[LZ,NO] at hc;exact .inr ⟨hc.1.1,rfl⟩
   . rw[MZ,hb] at h;cases h;exact .inl rfl
  | false=>
   dsimp only at h;refine ih ?_
   split at h
   . rw[MZ,hb] at h;exact h
   . rw[MZ,hb] at h;exact h
def blkCx(X:Cx)(N:List Str)(scope:Scope)(cl:List (Str × Addr))(s:Shared)(H:Hp)(fp:List Addr):Cx where
 prog:=X.prog
 w:=X.w
 K:=X.K
 mg:=X.mg
 base:=X.base
 A:=X.A
 N:=N
 s₀:=s
 H₀:=H
 env:=Dp scope cl (s.heap.objs.size+1) X.env
 outer:=X.stack
 stack:=X.stack
 ex:=fp
 fn:=fun x=>scope.names.lookup x==some .cell
 calm:=X.calm
 pn:=[]
 xe:=fun e₀ s₁=>(∃(LJ:List (Addr × Obj)) (σ:St),Inv X LJ σ H s/\∀ b∈fp,FpOk X LJ H b)->notedBy (model X.prog X.w) X.A (Dp scope cl (s.heap.objs.size+1) X.env) (fun x s'=>∃ m,s'.heap.Ns (s.heap.objs.size+1) m/\∀ h',Heap.SameBut (s.heap.objs.size+1) s'.heap h'->∀ cenv:Env,cenv.locals=s.heap.objs.size+1->
  wpAny (model X.prog X.w) X.A (passOn "comprehension.variables-let-go" x cenv:Sem Value) (fun _ _=>False) X.xe {s' with heap:=h'}) e₀ s₁
def subσ(ix:List (Option Nat))(σ:St):St:=ix.map fun o=>match o with | none=>none | some i=>match σ[i]? with | some v=>v | none=>none
structure BlkOk(X:Cx)(N:List Str)(ix:List (Option Nat))(scope:Scope):Prop where
 kind:scope.kind=.function
 nd:N.Nodup
 len:ix.length=N.length
 names:(scope.names.map (·.1)).Nodup
 free:∀ x,(x,NameKind.free)∈scope.names->X.env.kindOf x=some .cell\/X.env.kindOf x=some .free
 at_:∀(j i:Nat) (x:Str),N[j]? =some x->ix[j]? =some (some i)->X.N[i]? =some x/\(x,NameKind.free)∈scope.names
theorem dY{α:Type}:∀{l:List (Str × α)} {x:Str} {k:α},(l.map (·.1)).Nodup->(x,k)∈l->l.lookup x=some k
 | (y,k0)::r,x,k,nd,h=>by
  rw[Mx,M6] at nd;rw[MZ];rcases Mn.mp h with e | e
  . cases e;simp
  . have:x≠y:=by
     rintro rfl;exact nd.1 (Mg.mpr ⟨(x,k),e,rfl⟩)
    have hb:(x==y)=false:=by simpa using this
    rw[hb];exact dY nd.2 e
theorem Dr {X:Cx} {LJ:List (Addr × Obj)} {σ:St} {H:Hp} {s:Shared} {N:List Str} {ix:List (Option Nat)} {cl:List (Str × Addr)} {fp:List Addr} (B:BlkOk X N ix scope)
  (I:Inv X LJ σ H s) (hcl:∀ x c,cl.lookup x=some c->X.env.cells.lookup x=some c) (hcf:∀ x,(x,NameKind.free)∈scope.names->∃ c,cl.lookup x=some c)
  (hfp:∀ b∈fp,FpOk X LJ H b) (hob:∀ b∈fp,∃ o,s.heap.get? b=some o/\∀ v,o.data≠.cell v):
  Inv (blkCx X N scope cl s H fp) [] (subσ ix σ) (upd H s.heap.objs.size (.lst []))
   {s with heap:=pushCells ((s.heap.push {cls:=.type "list",data:=.seq #[]}).push {cls:=.type "dict",data:=.dict #[]}) scope.names}:=by
 have hs2:(s.heap.push {cls:=.type "list",data:=.seq #[]}).objs.size=s.heap.objs.size+1:=NQ ..;have hs3:((s.heap.push {cls:=.type "list",data:=.seq #[]}).push {cls:=.type "dict",data:=.dict #[]}).objs.size=s.heap.objs.size+2:=by rw[NQ,hs2]
 have hk:∀ b o,s.heap.get? b=some o->(pushCells ((s.heap.push {cls:=.type "list",data:=.seq #[]}).push {cls:=.type "dict",data:=.dict #[]}) scope.names).get? b=some o:=
  fun b o e=>OL _ _ b o (Mv _ (Mv _ e))
 have hl:(pushCells ((s.heap.push {cls:=.type "list",data:=.seq #[]}).push {cls:=.type "dict",data:=.dict #[]}) scope.names).get? s.heap.objs.size=some {cls:=.type "list",data:=.seq #[]}:=
  OL _ _ _ _ (Mv _ (MQ _ rfl))
 have ok0:=cellsFrom_ok scope.names ((s.heap.push {cls:=.type "list",data:=.seq #[]}).push {cls:=.type "dict",data:=.dict #[]}) (s.heap.objs.size+2) [] ⟨fun _ _ hm=>(nomatch hm),List.Pairwise.nil⟩ (by rw[hs3];exact Mu _);rw[hs3] at ok0
 have hcells:(blkCx X N scope cl s H fp).env.cells=cellsFrom (s.heap.objs.size+2) scope.names []++cl:=by
  show cellsFrom (s.heap.objs.size+1+1) scope.names cl=_;rw[← List.nil_append cl,kq];simp
 have cases_:∀ x c,(blkCx X N scope cl s H fp).env.cells.lookup x=some c->((x,c)∈cellsFrom (s.heap.objs.size+2) scope.names []/\(x,NameKind.cell)∈scope.names)\/((cellsFrom (s.heap.objs.size+2) scope.names []).lookup x=none/\cl.lookup x=some c):=fun x c e=>by
  rw[hcells,cj] at e
  cases q:(cellsFrom (s.heap.objs.size+2) scope.names []).lookup x with
  | none=>rw[q] at e;exact .inr ⟨rfl,e⟩
  | some c'=>
   rw[q] at e;cases e;have m:=Nd q;refine .inl ⟨m,?_⟩;rcases gS _ _ _ m with z | z
   . exact z
   . exact nomatch z
 have oldc:∀ x c,cl.lookup x=some c->c<s.heap.objs.size:=fun x c e=>by
  obtain⟨v,q⟩:=I.cell x c (hcl x c e);exact q.lt
 have hfree:H s.heap.objs.size=none:=I.hok.fresh (Mu _)
 have hfix:∀ b,s.heap.objs.size<b->(upd H s.heap.objs.size (.lst [])) b=none:=fun b hb=>by
  rw[ai (OW hb)];exact I.hok.fresh (MS hb)
 have hlt:∀ b∈fp,b<s.heap.objs.size:=fun b hb=>by
  obtain⟨o,e,_⟩:=hob b hb;exact MC e
 have e0:=I.env0;have isnew:∀ x c,(x,c)∈cellsFrom (s.heap.objs.size+2) scope.names []->s.heap.objs.size+2<=c:=fun x c m=>(ok0.empty x c m).2
 refine⟨⟨I.ok.mod,B.kind,I.ok.glob,I.ok.blt,OE _,fun x y c e1 e2=>?_,fun x hx=>?_,fun x c hx e=>?_,I.ok.hd,I.ok.frames,.inl rfl,fun b hb=>⟨?_,fun x c e=>?_⟩,e0.bs,e0.bsz,fun b o e hb=>?_,fun b hb hb2=>?_,e0.funs,e0.frf⟩,
  rfl,I.bare,Un.laid hk (Mu _) hfree,⟨fun _=>none,?_,fun j x v e1 e2 e3=>?_⟩,fun x c e=>?_,hfix _ (Ou _),fun x c e=>?_,fun p hp=>absurd (show p∈([]:List (Addr × Obj)) from hp) (by simp),?_,?_⟩
 . rcases cases_ x c e1 with ⟨m1,k1⟩ | ⟨n1,q1⟩ <;> rcases cases_ y c e2 with ⟨m2,k2⟩ | ⟨n2,q2⟩
   . exact name_of_addr ok0.apart m1 m2
   . exact absurd (MI (oldc _ _ q2) (Mi (Ox _ _) (isnew _ _ m1))) (NF _)
   . exact absurd (MI (oldc _ _ q1) (Mi (Ox _ _) (isnew _ _ m2))) (NF _)
   . exact I.ok.inj x y c (hcl _ _ q1) (hcl _ _ q2)
 . have hx':(relabel scope X.env).names.lookup x=some .cell\/(relabel scope X.env).names.lookup x=some .free:=hx
   have key:scope.names.lookup x=some .cell\/scope.names.lookup x=some .free:=by
    rcases hx' with z | z
    . obtain⟨k',e,r | r⟩:=lG z
      . rw[← r] at e;exact .inl e
      . rw[r.1] at e;exact .inr e
    . obtain⟨k',e,r | r⟩:=lG z
      . rw[← r] at e;exact .inr e
      . cases r.2
   rw[hcells];rcases key with z | z
   . obtain⟨c,q⟩:=pE (n:=s.heap.objs.size+2) z;exact⟨c,by rw[cj,q]⟩
   . obtain⟨c,q⟩:=hcf x (Nd z)
     cases q2:(cellsFrom (s.heap.objs.size+2) scope.names []).lookup x with
     | none=>exact⟨c,by rw[cj,q2];exact q⟩
     | some c'=>exact⟨c',by rw[cj,q2]⟩
 . have hx':scope.names.lookup x=some .cell:=by simpa [blkCx] using hx
   rcases cases_ x c e with ⟨m1,k1⟩ | ⟨n1,q1⟩
   . exact Mi (Ox _ _) (isnew _ _ m1)
   . obtain⟨c',q⟩:=pE (n:=s.heap.objs.size+2) hx';rw[q] at n1;cases n1
 . exact MT (Nz (hlt b hb))
 . rcases cases_ x c e with ⟨m1,k1⟩ | ⟨n1,q1⟩
   . exact OW (MI (hlt b hb) (Mi (Ox _ _) (isnew _ _ m1)))
   . exact(hfp b hb).2.2.2.2.1 x c (hcl _ _ q1)
 . rcases(hfp b hb).2.2.2.1 with z | z
   . exact I.ok.noex b o e z
   . exact absurd (MI (MC e) (Mi I.ok.bsz z)) (NF _)
 . rcases Mn.mp (I.stkSub b hb2) with z | z
   . exact(hfp b hb).2.1 z
   . exact(hfp b hb).2.2.1 z
 . show Heap.Ns _ (s.heap.objs.size+1) _;rw[← hs2];exact(Heap.Ns.new _ (.type "dict")).keeps (OL _ _)
 .
   unfold subσ at e2;rw[L9] at e2
   cases q:ix[j]? with
   | none=>rw[q] at e2;cases e2
   | some o=>
    rw[q] at e2
    cases o with
    | none=>cases e2
    | some i=>
     simp only[Option.map_some,Option.some.injEq] at e2;obtain⟨hN,hm⟩:=B.at_ j i x e1 q
     have hσ:σ[i]? =some (some v):=by
      cases q2:σ[i]? with
      | none=>rw[q2] at e2;cases e2
      | some z=>rw[q2] at e2;exact congrArg some e2
     obtain⟨m,hn,hl'⟩:=I.loc;have hkind:=B.free x hm;have hvis:Vis X.env.scope x:=hkind.elim (fun z=>.inr (.inl z)) fun z=>.inr (.inr z);obtain⟨u,ru,lk⟩:=hl' i x v hN hσ hvis;refine⟨u,ru,?_⟩;obtain⟨c,hc⟩:=hcf x hm
     have hnone:(cellsFrom (s.heap.objs.size+2) scope.names []).lookup x=none:=by
      cases q2:(cellsFrom (s.heap.objs.size+2) scope.names []).lookup x with
      | none=>rfl
      | some c'=>
       rcases gS _ _ _ (Nd q2) with z | z
       . have a1:=dY B.names z;have a2:=dY B.names hm;rw[a1] at a2;cases a2
       . exact nomatch z
     have hcell:(blkCx X N scope cl s H fp).env.cells.lookup x=some c:=by rw[hcells,cj,hnone];exact hc
     have hkk:(blkCx X N scope cl s H fp).env.kindOf x=some .cell\/(blkCx X N scope cl s H fp).env.kindOf x=some .free:=by
      rcases e3 with z | z | z
      . obtain⟨k',e,r | r⟩:=lG (show(relabel scope X.env).names.lookup x=some .local from z)
        . rw[dY B.names hm] at e;cases e;cases r
        . cases r.2
      . exact .inl z
      . exact .inr z
     refine .inr ⟨hkk,c,hcell,?_⟩;rcases lk with ⟨k1,_⟩ | ⟨_,c2,e4,z⟩
     . rcases hkind with z | z <;> rw[k1] at z <;> cases z
     . rw[hcl x c hc] at e4;cases e4;exact z.keeps hk
 . rcases cases_ x c e with ⟨m1,k1⟩ | ⟨n1,q1⟩
   . exact⟨none,(ok0.empty x c m1).1⟩
   . obtain⟨v,z⟩:=I.cell x c (hcl _ _ q1);exact⟨v,z.keeps hk⟩
 . rcases cases_ x c e with ⟨m1,k1⟩ | ⟨n1,q1⟩
   . exact hfix c (MI (Nat.lt_add_of_pos_right (by decide)) (isnew _ _ m1))
   . rw[ai (MT (oldc _ _ q1))];exact I.freeC x c (hcl _ _ q1)
 . exact I.hok.laid hk (Mu _) ⟨M2 _,[],0,.nil,hl⟩
 . show(subσ ix σ).length=N.length;unfold subσ;rw[LV];exact B.len
def PTs(X:Cx)(ifs:List Expr)(t:TT):Prop:=
 ∀(LJ:List (Addr × Obj)) (s:Shared) (σ:St) (H:Hp) (Q:Bool->Hp->Prop),Inv X LJ σ H s->t σ H Q->
  wpAny (model X.prog X.w) X.A (forIn ifs true fun c r=>if r=true then do let ok ← isTrue c X.env (eval c X.env);pure (ForInStep.yield ok) else pure (ForInStep.yield r)) (TP X LJ σ Q) X.xe s
def tTrue:TT:=fun _ H Q=>Q true H
theorem aT{X:Cx}:PTs X [] tTrue:=fun _ _ _ H _ I h=>wpAny_tests_nil ⟨H,I,h⟩
theorem ba{X:Cx}{c:Expr}{t:TT}(h:PT X c t):PTs X [c] t:=fun LJ s σ H Q I q=>wpAny_tests_one (h LJ s σ H Q I q)
def zo(ix:List (Option Nat))(wi:TI)(g:TG)(tt:TT)(te:TE)(fin:Addr->Hp->Prop):St->Hp->Prop:=fun σ H=>wi σ H fun J H1=>∀ l,H1 l=none->
 ∃ W:Nat->Nat->St->Hp->Prop,(∃ m,W 0 m (subσ ix σ) (upd H1 l (.lst [])))/\∀ i m σ' H',W i m σ' H'->
  (J.stop i H'/\fin l H')\/(J.go i H'/\∃ N:St->Hp->Prop,(∀ σ'' H'',N σ'' H''->∃ m',m'<m/\W (i+1) m' σ'' H'')/\∀ x H2,J.yld i H' x H2->g x σ' H2 fun σ2 H3=>tt σ2 H3 fun b H4=>
   if b=true then te σ2 H4 fun y H5=>∃ ys,H5 l=some (.lst ys)/\ys.length<sizeLine/\N σ2 (upd H5 l (.lst (ys++[y]))) else N σ2 H4)
section
variable{X:Cx}{LJ:List (Addr × Obj)}{σ σ':St}{H H':Hp}{s s':Shared}{N:List Str}{scope:Scope}{cl:List (Str × Addr)}{fp:List Addr}
theorem Bq{h':Heap}(I:Inv X LJ σ H s)(J:Inv (blkCx X N scope cl s H fp) [] σ' H' s')(hfp:∀ b∈fp,FpOk X LJ H b)(sb:Heap.SameBut (s.heap.objs.size+1) s'.heap h'):Inv X LJ σ H' {s' with heap:=h'}:=by
 have u:Un (frs X.stack) fp H H' s.heap s'.heap:=J.base;have hC:H' (s.heap.objs.size+1)=none:=J.free;have ne:∀ b o,s.heap.get? b=some o->b≠s.heap.objs.size+1:=fun b o e=>MT (Nz (MC e));refine I.call' (s':={s' with heap:=h'}) (ch:=fp) J.os ⟨fun b o e n hb hx=>?_,fun b o e n hb hx=>?_,u.free,fun b o e hx=>?_,u.tups,u.frzs,u.tbls⟩ (fun b ob e=>?_) J.bare fun b hb=>?_
 . exact(sb.2 b (ne b o e)).trans (u.keep b o e n hb hx)
 . obtain⟨sl,q⟩:=u.slot b o e n hb hx;exact⟨sl,(sb.2 b (ne b o e)).trans q⟩
 . obtain⟨o',q⟩:=u.there b o e hx;exact⟨o',(sb.2 b (ne b o e)).trans q⟩
 . refine(J.hok b ob e).stay (fun c w' hc q=>(sb.2 c ?_).trans q) (fun _ q=>q) fun _ _ q=>q;rintro rfl;rcases hc with rfl | hc
   . rw[hC] at e;cases e
   . rw[hC] at hc;cases hc
 . obtain⟨f0,f1,f2,f3,f4,f5⟩:=hfp b hb;exact⟨f3,f1,f4,f5⟩
theorem zp {tg iter elt:Expr} {ifs:List Expr} {pos:Pos} {ix:List (Option Nat)} {wi:TI} {g:TG} {tt:TT} {te:TE} {fin:Addr->Hp->Prop} {RR:Value->Addr->Result->Shared->Prop} (B:BlkOk X N ix scope) (hc:X.calm=true)
  (hi:PI X tg iter wi) (hg:∀ cl s H fp,PG (blkCx X N scope cl s H fp) tg g) (ht:∀ cl s H fp,PTs (blkCx X N scope cl s H fp) ifs tt) (he:∀ cl s H fp,PE (blkCx X N scope cl s H fp) elt te)
  (hcl:∀ x c,cl.lookup x=some c->X.env.cells.lookup x=some c) (hcf:∀ x,(x,NameKind.free)∈scope.names->∃ c,cl.lookup x=some c)
  (I:Inv X LJ σ H s) (h:zo ix wi g tt te fin σ H)
  (ok:∀(s2:Shared) (H2:Hp) (fp:List Addr) (σ3:St) (H3:Hp) (s3:Shared),Inv X LJ σ H2 s2->(∀ b∈fp,FpOk X LJ H2 b)->Inv (blkCx X N scope cl s2 H2 fp) [] σ3 H3 s3->fin s2.heap.objs.size H3->RR (.ref s2.heap.objs.size) (s2.heap.objs.size+1) (.ok .next) s3)
  (bad:∀(a C:Addr) (x:Value) (s':Shared),(∃ m,s'.heap.Ns C m/\∀ h',Heap.SameBut C s'.heap h'->∀ cenv:Env,cenv.locals=C->wpAny (model X.prog X.w) X.A (passOn "comprehension.variables-let-go" x cenv:Sem Value) (fun _ _=>False) X.xe {s' with heap:=h'})->RR (.ref a) C (.error x) s'):
  wpAny (model X.prog X.w) X.A (eval iter X.env) (fun x s₁=>wpAny (model X.prog X.w) X.A (pyIter x) (fun it s₂=>wpAny (model X.prog X.w) X.A (newList []) (fun acc s₃=>
   wpAny (model X.prog X.w) X.A (newFunctionEnv scope X.env.globals cl [] X.env.qual none .none (some X.env)) (fun cenv s₄=>
    codeAny (model X.prog X.w) X.A (.compStart (.ListComp elt [⟨tg,iter,ifs,0⟩] scope pos) 0 it acc {cenv with scope:=relabel scope X.env}) (RR acc cenv.locals) s₄) X.xe s₃) X.xe s₂) X.xe s₁) X.xe s:=by
 refine thn (hi LJ s σ H _ I h) fun v s1 h1=>thn h1 fun itv s2 h2=>?_;obtain⟨it,fp,tn,J,H2,e,I2,T,st2,f2,h2⟩:=h2;subst e;refine wpAny_newList (EU ?_) (M2 _);have hs2:(s2.heap.push {cls:=.type "list",data:=.seq (([]:List Value)).toArray}).objs.size=s2.heap.objs.size+1:=NQ ..;dsimp only;rw[hs2];have I3:=Dr (fp:=fp) B I2 hcl hcf f2 (T.obj _ _ st2);obtain⟨W,⟨m0,w0⟩,turn⟩:=h2 s2.heap.objs.size I2.fresh
 have hk:∀ b o,s2.heap.get? b=some o->(pushCells ((s2.heap.push {cls:=.type "list",data:=.seq #[]}).push {cls:=.type "dict",data:=.dict #[]}) scope.names).get? b=some o:=
  fun b o e=>OL _ _ b o (Mv _ (Mv _ e))
 have st3:=T.keep _ _ _ st2 fun b _ o e=>hk b o e
 have fr3:∀ b∈fp,(upd H2 s2.heap.objs.size (.lst [])) b=none:=fun b hb=>by
  obtain⟨o,e,_⟩:=T.obj _ _ st2 b hb;rw[ai (MT (MC e))];exact(f2 b hb).1
 have stat:∀{σ5:St} {H5:Hp} {s5:Shared},Inv (blkCx X N scope cl s2 H2 fp) [] σ5 H5 s5->(∀ b∈fp,H5 b=none)->∀ b∈fp,FpOk (blkCx X N scope cl s2 H2 fp) [] H5 b:=fun I5 hn b hb=>
  ⟨hn b hb,(I5.ok.exf b hb).1,I5.ok.exfs b hb,.inl hb,(I5.ok.exf b hb).2,fun p hp=>absurd (show p∈([]:List (Addr × Obj)) from hp) (by simp)⟩
 have loop:∀ s₃:Shared,s₃={s2 with heap:=pushCells ((s2.heap.push {cls:=.type "list",data:=.seq #[]}).push {cls:=.type "dict",data:=.dict #[]}) scope.names}->
   codeAny (model X.prog X.w) X.A (.compLoop (.ListComp elt [⟨tg,iter,ifs,0⟩] scope pos) 0 (.ref it) (.ref s2.heap.objs.size) (blkCx X N scope cl s2 H2 fp).env) (RR (.ref s2.heap.objs.size) (s2.heap.objs.size+1)) s₃:=by
  rintro s₃ rfl;refine Dq (fun n s'=>∃ i σ' H',Inv (blkCx X N scope cl s2 H2 fp) [] σ' H' s'/\tn i s'.heap/\(∀ b∈fp,H' b=none)/\W i n σ' H') ?_ m0 ⟨0,_,_,I3,st3,fr3,w0⟩;rintro n s4 ⟨i,σ4,H4,I4,st4,fr4,w4⟩
  have xe_:∀ x s',(blkCx X N scope cl s2 H2 fp).xe x s'->notedBy (model X.prog X.w) X.A (blkCx X N scope cl s2 H2 fp).env (fun e s'=>RR (.ref s2.heap.objs.size) (s2.heap.objs.size+1) (.error e) s') x s':=fun x s' hx=>
   Nh (hx ⟨LJ,σ,I2,f2⟩) (fun _ s'' q=>bad _ _ _ _ q) fun e s'' q=>bad _ _ _ _ q
  rcases turn i n σ4 H4 w4 with ⟨stop,qn⟩ | ⟨go,Nx,hN,step⟩
  . refine Nh (T.done (blkCx X N scope cl s2 H2 fp) rfl rfl rfl hc i [] s4 σ4 H4 _ I4 (stat I4 fr4) st4 stop) (fun r s5 ⟨hr,I5⟩=>?_) xe_;subst hr;exact ok s2 H2 fp σ4 H4 s5 I2 f2 I5 qn
  . refine Nh (T.item (blkCx X N scope cl s2 H2 fp) rfl rfl rfl hc i [] s4 σ4 H4 _ I4 (stat I4 fr4) st4 go) (fun r s5 ⟨u,hr,h5⟩=>?_) xe_;subst hr;refine Nh h5 (fun _ s6 ⟨x,H6,I6,r6,y6,st6,fr6⟩=>?_) xe_;have I6':=I6.pinned (stat I6 fr6) (T.obj _ _ st6);refine Nh (hg cl s2 H2 fp _ s6 σ4 H6 x u _ I6' r6 (step x H6 y6)) (fun _ s7 ⟨σ7,H7,I7,q7⟩=>?_) xe_
    have again:∀{σ8:St} {H8:Hp} {s8:Shared},Inv (blkCx X N scope cl s2 H2 fp) ([]++qE fp s6.heap) σ8 H8 s8->Nx σ8 H8->∃ m,m<n/\∃ i σ' H',Inv (blkCx X N scope cl s2 H2 fp) [] σ' H' s8/\tn i s8.heap/\(∀ b∈fp,H' b=none)/\W i m σ' H':=fun{σ8 H8 s8} I8 n8=>by
     obtain⟨m',hm,w8⟩:=hN σ8 H8 n8;refine⟨m',hm,i+1,σ8,H8,I8.unpinned,T.keep _ _ _ st6 fun b hb o e=>(I8.pin (b,o) (MU _ (MU _ (kZ hb e)))).1,fun b hb=>?_,w8⟩;obtain⟨o,e,d⟩:=T.obj _ _ st6 b hb;exact(I8.pin (b,o) (MU _ (MU _ (kZ hb e)))).2.1
    refine Nh (ht cl s2 H2 fp _ s7 σ7 H7 _ I7 q7) (fun okb s8 ⟨H8,I8,q8⟩=>?_) xe_
    cases okb with
    | false=>exact again I8 q8
    | true=>
     refine Nh (he cl s2 H2 fp _ s8 σ7 H8 _ I8 q8) (fun y s9 ⟨yv,H9,I9,r9,ys,hl,hz,q9⟩=>?_) xe_;refine Nh (xM (X:=blkCx X N scope cl s2 H2 fp) _ s9 σ7 H9 (.ref s2.heap.objs.size) [yv] (.ref s2.heap.objs.size) [y] (fun _ H10=>Nx σ7 H10) I9 rfl (.cons r9 .nil) ⟨_,ys,yv,rfl,rfl,hl,hz,q9⟩) (fun _ s10 ⟨_,H10,I10,_,q10⟩=>?_) xe_;exact again I10 q10
 exact codeAny_compStart_list (loop _ rfl) (T.self _ 0 _ _ _ st3 (loop _ rfl))
def tComp(ix:List (Option Nat))(wi:TI)(g:TG)(tt:TT)(te:TE):TE:=fun σ H Q=>zo ix wi g tt te (fun l H'=>Q (.ref l) H') σ H
def sComp(k:Nat)(ix:List (Option Nat))(wi:TI)(g:TG)(tt:TT)(te:TE):TS:=fun D σ H=>zo ix wi g tt te (fun l H'=>D.nx (σ.set k (some (.ref l))) H') σ H
theorem Br(I:Inv X LJ σ H s){ix:List (Option Nat)}(B:BlkOk X N ix scope):∃ cl,closureFor scope X.env=pure cl/\(∀ x c,cl.lookup x=some c->X.env.cells.lookup x=some c)/\∀ x,(x,NameKind.free)∈scope.names->∃ c,cl.lookup x=some c:=
 Ca fun x hx=>I.ok.has x (B.free x hx)
theorem tG{ix:List (Option Nat)}(B:BlkOk X N ix scope):∀ x∈scope.names,x.2=NameKind.local->scope.names.lookup x.1=some .local:=fun x hx e=>by
 obtain⟨n,k⟩:=x;cases e;exact dY B.names hx
theorem aI {tg iter elt:Expr} {ifs:List Expr} {pos:Pos} {ix:List (Option Nat)} {wi:TI} {g:TG} {tt:TT} {te:TE} (N:List Str) (B:BlkOk X N ix scope) (hc:X.calm=true)
  (hi:PI X tg iter wi) (hg:∀ cl s H fp,PG (blkCx X N scope cl s H fp) tg g) (ht:∀ cl s H fp,PTs (blkCx X N scope cl s H fp) ifs tt) (he:∀ cl s H fp,PE (blkCx X N scope cl s H fp) elt te)
  (hs:∀ x,foldedSetIterable iter X.env x=pure x:=by intro _;rfl):PE X (.ListComp elt [⟨tg,iter,ifs,0⟩] scope pos) (tComp ix wi g tt te):=by
 intro LJ s σ H Q I h;obtain⟨cl,e1,e2,e3⟩:=Br I B;rw[eval_ListComp];refine Ph (use:=none) rfl hs e1 B.kind (tG B) ?_;refine zp (RR:=fun acc C=>compPost (model X.prog X.w) X.A X.xe none (EP X LJ σ Q) acc C) B hc hi hg ht he e2 e3 I h (fun s2 H2 fp σ3 H3 s3 I2 f2 J q=>?_) (fun a C x s' q=>q);obtain⟨m,hn,_⟩:=J.loc;exact⟨m,hn,fun h' sb=>⟨.ref _,H3,Bq I2 J f2 sb,rfl,q⟩⟩
theorem lB {y:Str} {py spos:Pos} {k:Nat} {tg iter elt:Expr} {ifs:List Expr} {pos:Pos} {ix:List (Option Nat)} {wi:TI} {g:TG} {tt:TT} {te:TE} (hN:X.N.Nodup) (hy:X.N[k]? =some y) (hx:Loc X.env.scope y)
  (hsw:swapsWith (.ListComp elt [⟨tg,iter,ifs,0⟩] scope pos) (some (.Name y py)) spos.line X.env=pure true) (N:List Str) (B:BlkOk X N ix scope) (hc:X.calm=true)
  (hi:PI X tg iter wi) (hg:∀ cl s H fp,PG (blkCx X N scope cl s H fp) tg g) (ht:∀ cl s H fp,PTs (blkCx X N scope cl s H fp) ifs tt) (he:∀ cl s H fp,PE (blkCx X N scope cl s H fp) elt te)
  (hs:∀ x,foldedSetIterable iter X.env x=pure x:=by intro _;rfl) (hf:X.fn y=true\/X.env.scope.names.lookup y=some .local:=by first | exact .inl rfl | exact .inr rfl | assumption):
  PS X (.Assign [.Name y py] (.ListComp elt [⟨tg,iter,ifs,0⟩] scope pos) spos) (sComp k ix wi g tt te):=by
 intro LJ s σ H D I h;obtain⟨cl,e1,e2,e3⟩:=Br I B;rw[exec_Assign_Name_used _ _ _ _ hsw];refine MM (PK (MM ?_));show wpAny _ X.A (do let _ ← comprehension (.ListComp elt [⟨tg,iter,ifs,0⟩] scope pos) scope X.env _ (newList []) false (eval iter X.env) (some (assign (.Name y py) X.env))) _ _ s;refine MM (Nh (Ph (use:=some (assign (.Name y py) X.env)) (Q:=fun _ s'=>SP X LJ D .next s') rfl hs e1 B.kind (tG B) ?_) (fun _ s' hq=>MW (MW hq)) fun _ _ e=>e);refine zp (RR:=fun acc C=>compPost (model X.prog X.w) X.A X.xe (some (assign (.Name y py) X.env)) (fun _ s'=>SP X LJ D .next s') acc C) B hc hi hg ht he e2 e3 I h (fun s2 H2 fp σ3 H3 s3 I2 f2 J q=>?_) (fun a C x s' q=>q);obtain⟨m,hn,_⟩:=J.loc;have I3:Inv X LJ σ H3 {s3 with heap:=s3.heap}:=Bq I2 J f2 (Heap.SameBut.refl _ _);show wpAny _ X.A (assign (.Name y py) X.env (.ref _)) _ _ _;refine wpAny_assign_Name (xC (v:=.ref _) I3 hN hy hx rfl (fun s4 I4 ⟨a,sb4,ha⟩=>?_) hf)
 have hlt:a<s2.heap.objs.size:=by
  rcases ha with rfl | ha
  . exact I2.lt
  . obtain⟨v,z⟩:=I2.cell _ _ ha;exact z.lt
 have hCa:s2.heap.objs.size+1≠a:=OW (Nz hlt);refine⟨m,hn.sameBut sb4 hCa,fun h' sb=>?_⟩;refine⟨_,H3,I4.turned (t':=s4.toks) (it:=s2.heap.objs.size+1) (fun b o hb e=>(sb.2 b hb).trans e) J.free (OW (Nz I2.lt)) (.inr (Mi I2.sz (OE _))) (fun x c e=>?_) (fun p hp=>?_),q⟩
 . obtain⟨v,z⟩:=I2.cell x c e;exact MT (Nz z.lt)
 . exact MT (Nz (MC (I2.pin p hp).1))
end
def bnd{α:Type}:Option α->(α->Prop)->Prop
 | some a,k=>k a
 | none,_=>False
theorem aV{α:Type}{o:Option α}{a:α}{k:α->Prop}(h:o=some a)(q:k a):bnd o k:=by subst h;exact q
theorem aZ{α:Type}{o:Option α}{k:α->Prop}(h:bnd o k):∃ a,o=some a/\k a:=by
 cases o with
 | none=>exact h.elim
 | some a=>exact⟨a,rfl,h⟩
theorem bH{α:Type}{a:α}{k:α->Prop}:bnd (some a) k=k a:=rfl
def unM:Option HO->Option (List V)
 | some (.lst xs)=>some xs
 | _=>none
def unL:Option HO->Option (List V)
 | some (.lst xs)=>some xs
 | some (.frz _ (.lst xs))=>some xs
 | _=>none
def unS:Option HO->Option (List V)
 | some (.lst xs)=>some xs
 | some (.frz _ (.lst xs))=>some xs
 | some (.tup xs)=>some xs
 | _=>none
variable{o:Option HO}{xs:List V}
theorem gE(h:unM o=some xs):o=some (.lst xs):=by
 unfold unM at h;split at h
 . cases h;rfl
 . cases h
theorem qM{K:Frag}{H:Hp}{p:Addr}(h:unL (H p)=some xs):SqL K H p xs:=by
 unfold unL at h;split at h
 . rename_i e;cases h;exact .inl (.inl e)
 . rename_i o _ e;cases h;exact .inl (.inr ⟨_,e⟩)
 . cases h
theorem oy{K:Frag}{H:Hp}{p:Addr}(h:unS (H p)=some xs):SqL K H p xs\/SqT K H p xs:=by
 unfold unS at h;split at h
 . rename_i e;cases h;exact .inl (.inl (.inl e))
 . rename_i o _ e;cases h;exact .inl (.inl (.inr ⟨_,e⟩))
 . rename_i e;cases h;exact .inr (.inl (.inl e))
 . cases h
mutual
inductive DV(K:Frag)(H:Hp):V->PyData->Prop
 | non:DV K H .non .none
 | bl (b:Bool):DV K H (.bl b) (.bool b)
 | int (i:Int):DV K H (.int i) (.int i)
 | str (x:Str):DV K H (.str x) (.str x)
 | lst {a:Addr} {xs:List V} {ds:List PyData}:SqL K H a xs->DVs K H xs ds->DV K H (.ref a) (.list ds)
 | tup {a:Addr} {xs:List V} {ds:List PyData}:SqT K H a xs->DVs K H xs ds->DV K H (.ref a) (.tuple ds)
inductive DVs(K:Frag)(H:Hp):List V->List PyData->Prop
 | nil:DVs K H [] []
 | cons {x:V} {d:PyData} {xs:List V} {ds:List PyData}:DV K H x d->DVs K H xs ds->DVs K H (x::xs) (d::ds)
end
section
variable{X:Cx}{LJ:List (Addr × Obj)}{σ:St}{H:Hp}{s:Shared}
mutual
theorem DV.reads(I:Inv X LJ σ H s):∀{x:V} {d:PyData} {v:Value},DV X.K H x d->RelV x v->∃ as,Reads s.heap v d as
 | _,_,_,.non,r=>by cases r;exact⟨_,.none⟩
 | _,_,_,.bl b,r=>by cases r;exact⟨_,.bool b⟩
 | _,_,_,.int i,r=>by obtain⟨t,rfl⟩:=r;exact⟨_,.int i t⟩
 | _,_,_,.str x,r=>by obtain⟨t,rfl⟩:=r;exact⟨_,.str x t⟩
 | _,_,_,.lst (a:=a) h hs,r=>by
  cases r;obtain⟨LO,rv,p,_⟩:=I.list h;obtain⟨as,q⟩:=DVs.reads I hs rv;obtain⟨o,h1,h2,n,h3⟩:=p.isList;exact⟨_,.list h1 h2 h3 q⟩
 | _,_,_,.tup (a:=a) h hs,r=>by
  cases r;obtain⟨LO,rv,p,_⟩:=I.tuple h;obtain⟨as,q⟩:=DVs.reads I hs rv;obtain⟨o,h1,h2,n,h3⟩:=p;exact⟨_,.tuple h1 h2 h3 q⟩
theorem DVs.reads(I:Inv X LJ σ H s):∀{xs:List V} {ds:List PyData} {us:List Value},DVs X.K H xs ds->Vals xs us->∃ as,ReadsAll s.heap us ds as
 | _,_,_,.nil,.nil=>⟨_,.nil⟩
 | _,_,_,.cons h hs,.cons r rs=>by
  obtain⟨as,q⟩:=DV.reads I h r;obtain⟨bs,q2⟩:=DVs.reads I hs rs;exact⟨_,.cons q q2⟩
end
end
theorem DVs.ints{K:Frag}{H:Hp}:∀ ns:List Int,DVs K H (ns.map V.int) (ns.map PyData.int)
 | []=>.nil
 | n::r=>.cons (.int n) (DVs.ints r)
theorem zq:∀ ns ms:List Int,PyData.eqvAll (ns.map PyData.int) (ms.map PyData.int)=decide (ns=ms):=PySem.W.ked_eqvAll
theorem pG:∀ ns:List Int,PyData.canLayAll0 (ns.map PyData.int)=true
 | []=>rfl
 | n::r=>by rw[Mx,PyData.canLayAll0,pG r];rfl
theorem k9:∀ ns:List Int,PyData.depthAll (ns.map PyData.int)=0
 | []=>rfl
 | n::r=>by rw[Mx,PyData.depthAll,k9 r];rfl
theorem j6(ns:List Int):SeqAt.shaped (.list (ns.map PyData.int))=true:=by
 simp[SeqAt.shaped,PyData.canLay0,pG,PyData.depth,k9]
def cAdd:R2
 | .int i,.int j,H,Q=>Q (.int (i+j)) H
 | .str i,.str j,H,Q=>i.length+j.length<=sizeLine/\Q (.str (i++j)) H
 | .ref l,.ref b,H,Q=>bnd (unM (H l)) fun xs=>bnd (unM (H b)) fun zs=>xs.length+zs.length<=sizeLine/\∀ p,H p=none->Q (.ref p) (upd H p (.lst (xs++zs)))
 | _,_,_,_=>False
def cSub:R2
 | .int i,.int j,H,Q=>Q (.int (i-j)) H
 | _,_,_,_=>False
def cMul:R2
 | .int i,.int j,H,Q=>CMul i j/\Q (.int (i*j)) H
 | _,_,_,_=>False
def cDiv:R2
 | .int i,.int j,H,Q=>CDiv i j/\Q (.int (i/j)) H
 | _,_,_,_=>False
def cMod:R2
 | .int i,.int j,H,Q=>0<j/\Q (.int (i%j)) H
 | _,_,_,_=>False
def cPow:R2
 | .int i,.int j,H,Q=>CPow i j/\Q (.int (i^j.toNat)) H
 | _,_,_,_=>False
def cCmp(g:Int->Int->Bool):R2
 | .int i,.int j,H,Q=>Q (.bl (g i j)) H
 | _,_,_,_=>False
def rEqD(K:Frag):R2:=fun x y H Q=>∃ d e,DV K H x d/\DV K H y e/\SeqAt.shaped d=true/\SeqAt.shaped e=true/\Q (.bl (PyData.eqv d e)) H
def rNeD(K:Frag):R2:=fun x y H Q=>∃ d e,DV K H x d/\DV K H y e/\SeqAt.shaped d=true/\SeqAt.shaped e=true/\Q (.bl (!PyData.eqv d e)) H
def cEq(K:Frag):R2
 | .int i,.int j,H,Q=>Q (.bl (decide (i=j))) H
 | .bl i,.bl j,H,Q=>Q (.bl (decide (i=j))) H
 | .str i,.str j,H,Q=>Q (.bl (decide (i=j))) H
 | x,y,H,Q=>rEqD K x y H Q
def cNe(K:Frag):R2
 | .int i,.int j,H,Q=>Q (.bl (!decide (i=j))) H
 | .bl i,.bl j,H,Q=>Q (.bl (!decide (i=j))) H
 | .str i,.str j,H,Q=>Q (.bl (!decide (i=j))) H
 | x,y,H,Q=>rNeD K x y H Q
def rInD(K:Frag)(neg:Bool):R2:=fun x y H Q=>∃ d ds,DV K H x d/\(DV K H y (.list ds)\/DV K H y (.tuple ds))/\PyData.canLayAll0 ds=true/\PyData.canLay0 d=true/\min (PyData.depthAll ds) d.depth<=62/\
 Q (.bl (if neg then !ds.any (fun y=>PyData.eqv y d) else ds.any fun y=>PyData.eqv y d)) H
def keyOf:V->Option Key
 | .int i=>some (.inl i)
 | .str x=>some (.inr x)
 | _=>none
def unD:Option HO->Option (List (Key × V))
 | some (.dK LN)=>some LN
 | _=>none
def cIn(K:Frag)(neg:Bool):R2
 | .ref a,y,H,Q=>rInD K neg (.ref a) y H Q
 | x,.ref p,H,Q=>(match unD (H p) with
  | some LN=>bnd (keyOf x) fun k=>Q (.bl (if neg then !(valV LN k).isSome else(valV LN k).isSome)) H
  | none=>bnd (unS (H p)) fun xs=>flatV x=true/\xs.all flatV=true/\Q (.bl (if neg then !inV x xs else inV x xs)) H)
 | .str i,.str j,H,Q=>Q (.bl (if neg then !(!(Builtin.Str.occurrences j i 0 j.length 1).isEmpty) else !(Builtin.Str.occurrences j i 0 j.length 1).isEmpty)) H
 | _,_,_,_=>False
def cIx:R2
 | .ref p,y,H,Q=>(match unD (H p) with
  | some LN=>bnd (keyOf y) fun k=>bnd (valV LN k) fun v=>Q v H
  | none=>match y with
   | .int i=>bnd (unS (H p)) fun xs=>bnd (atI xs i) fun v=>Q v H
   | _=>False)
 | .str z,.int i,H,Q=>z.length<=sizeLine/\bnd (atI z.cps.toList i) fun c=>Q (.str ⟨#[c]⟩) H
 | _,_,_,_=>False
theorem uZ{LN:List (Key × V)}(h:unD o=some LN):o=some (.dK LN):=by
 unfold unD at h;split at h
 . cases h;rfl
 . cases h
theorem ua{x:V}{k:Key}(h:keyOf x=some k):x=kV k:=by
 unfold keyOf at h;split at h
 . cases h;rfl
 . cases h;rfl
 . cases h
section
variable{X:Cx}{a b c:Expr}{ta tb tc:TE}{pos:Pos}
theorem aE:OpR X (binaryOp .Add) cAdd:=by
 intro LJ s σ H x y v u Q I rx ry h;unfold cAdd at h
 split at h
 . exact GQ LJ s σ H _ _ v u Q I rx ry ⟨_,_,rfl,rfl,h⟩
 . exact B4 LJ s σ H _ _ v u Q I rx ry ⟨_,_,rfl,rfl,h.1,h.2⟩
 . obtain⟨xs,e1,h⟩:=aZ h;obtain⟨zs,e2,h⟩:=aZ h;exact GZ LJ s σ H _ _ v u Q I rx ry ⟨_,_,xs,zs,rfl,rfl,gE e1,gE e2,h.1,h.2⟩
 . exact h.elim
theorem bP:OpR X (binaryOp .Sub) cSub:=by
 intro LJ s σ H x y v u Q I rx ry h;unfold cSub at h
 split at h
 . exact GR LJ s σ H _ _ v u Q I rx ry ⟨_,_,rfl,rfl,h⟩
 . exact h.elim
theorem bw:OpR X (binaryOp .Mult) cMul:=by
 intro LJ s σ H x y v u Q I rx ry h;unfold cMul at h
 split at h
 . exact GS LJ s σ H _ _ v u Q I rx ry ⟨_,_,rfl,rfl,h.1,h.2⟩
 . exact h.elim
theorem bz:OpR X (binaryOp .FloorDiv) cDiv:=by
 intro LJ s σ H x y v u Q I rx ry h;unfold cDiv at h
 split at h
 . exact FO LJ s σ H _ _ v u Q I rx ry ⟨_,_,rfl,rfl,h.1,h.2⟩
 . exact h.elim
theorem aU:OpR X (binaryOp .Mod) cMod:=by
 intro LJ s σ H x y v u Q I rx ry h;unfold cMod at h
 split at h
 . exact GT LJ s σ H _ _ v u Q I rx ry ⟨_,_,rfl,rfl,h.1,h.2⟩
 . exact h.elim
theorem sF{op:CmpOp}{g:Int->Int->Bool}(o:OpR X (compareOp op) (rI0 fun i j=>.bl (g i j))):OpR X (compareOp op) (cCmp g):=by
 intro LJ s σ H x y v u Q I rx ry h;unfold cCmp at h
 split at h
 . exact o LJ s σ H _ _ v u Q I rx ry ⟨_,_,rfl,rfl,h⟩
 . exact h.elim
theorem b7:OpR X (compareOp .Lt) (cCmp fun i j=>decide (i<j)):=sF Id
theorem gF:OpR X (compareOp .LtE) (cCmp fun i j=>decide (i<=j)):=sF Ie
theorem fu:OpR X (compareOp .Gt) (cCmp fun i j=>decide (j<i)):=sF Ig
theorem u6:OpR X (compareOp .GtE) (cCmp fun i j=>decide (j<=i)):=sF Ih
theorem G3(hu:X.A.units+64<cLine):OpR X (compareOp .Eq) (rEqD X.K):=by
 intro LJ s σ H x y v u Q I rx ry h;obtain⟨d,e,h1,h2,h3,h4,q⟩:=h;obtain⟨as,r1⟩:=h1.reads I rx;obtain⟨bs,r2⟩:=h2.reads I ry;exact eq_dataH r1 r2 h3 h4 hu ⟨.bl _,H,I,rfl,q⟩
theorem G4(hu:X.A.units+64<cLine):OpR X (compareOp .NotEq) (rNeD X.K):=by
 intro LJ s σ H x y v u Q I rx ry h;obtain⟨d,e,h1,h2,h3,h4,q⟩:=h;obtain⟨as,r1⟩:=h1.reads I rx;obtain⟨bs,r2⟩:=h2.reads I ry;exact ne_dataH r1 r2 h3 h4 hu ⟨.bl _,H,I,rfl,q⟩
theorem av(hu:X.A.units+64<cLine):OpR X (compareOp .Eq) (cEq X.K):=by
 intro LJ s σ H x y v u Q I rx ry h;unfold cEq at h
 split at h
 . refine B2 LJ s σ H _ _ v u Q I rx ry ⟨rfl,?_⟩
   simpa using h
 . refine B2 LJ s σ H _ _ v u Q I rx ry ⟨rfl,?_⟩
   simpa using h
 . refine B2 LJ s σ H _ _ v u Q I rx ry ⟨rfl,?_⟩
   simpa using h
 . exact G3 hu LJ s σ H _ _ v u Q I rx ry h
theorem a8(hu:X.A.units+64<cLine):OpR X (compareOp .NotEq) (cNe X.K):=by
 intro LJ s σ H x y v u Q I rx ry h;unfold cNe at h
 split at h
 . refine B3 LJ s σ H _ _ v u Q I rx ry ⟨rfl,?_⟩
   simpa using h
 . refine B3 LJ s σ H _ _ v u Q I rx ry ⟨rfl,?_⟩
   simpa using h
 . refine B3 LJ s σ H _ _ v u Q I rx ry ⟨rfl,?_⟩
   simpa using h
 . exact G4 hu LJ s σ H _ _ v u Q I rx ry h
theorem G5(hu:X.A.units+64<cLine):OpR X (compareOp .In) (rInD X.K false):=by
 intro LJ s σ H x y v u Q I rx ry h;obtain⟨d,ds,h1,h2,h3,h4,h5,q⟩:=h;obtain⟨as,r1⟩:=h1.reads I rx;rcases h2 with h2 | h2
 . obtain⟨bs,r2⟩:=h2.reads I ry;exact SeqAt.in_list_reads r2 r1 h3 h4 (by omega) ⟨.bl _,H,I,rfl,q⟩
 . obtain⟨bs,r2⟩:=h2.reads I ry;exact SeqAt.in_tuple_reads r2 r1 h3 h4 (by omega) ⟨.bl _,H,I,rfl,q⟩
theorem Ds(hu:X.A.units+64<cLine):OpR X (compareOp .NotIn) (rInD X.K true):=by
 intro LJ s σ H x y v u Q I rx ry h;obtain⟨d,ds,h1,h2,h3,h4,h5,q⟩:=h;obtain⟨as,r1⟩:=h1.reads I rx;rcases h2 with h2 | h2
 . obtain⟨bs,r2⟩:=h2.reads I ry;exact SeqAt.notIn_list_reads r2 r1 h3 h4 (by omega) ⟨.bl _,H,I,rfl,q⟩
 . obtain⟨bs,r2⟩:=h2.reads I ry;exact SeqAt.notIn_tuple_reads r2 r1 h3 h4 (by omega) ⟨.bl _,H,I,rfl,q⟩
theorem cr(hu:X.A.units+64<cLine):OpR X (compareOp .In) (cIn X.K false):=by
 intro LJ s σ H x y v u Q I rx ry h;unfold cIn at h
 split at h
 . exact G5 hu LJ s σ H _ _ v u Q I rx ry h
 . rename_i p hx
   split at h
   . rename_i LN e
     obtain⟨k,ek,q⟩:=aZ h;cases (show u=Value.ref p from ry);have g:DGet H p x (valV LN k):=by rw[ua ek];exact DGet.k (uZ e)
     exact IK (Na (Oc (by decide:1<=64) _) hu) I g rx fun s' I'=>⟨.bl _,H,I',rfl,q⟩
   . obtain⟨xs,e,f1,f2,q⟩:=aZ h;exact mE LJ s σ H _ _ v u Q I rx ry ⟨p,xs,rfl,oy e,f1,f2,q⟩
 . exact C9 LJ s σ H _ _ v u Q I rx ry ⟨_,_,rfl,rfl,h⟩
 . exact h.elim
theorem cb(hu:X.A.units+64<cLine):OpR X (compareOp .NotIn) (cIn X.K true):=by
 intro LJ s σ H x y v u Q I rx ry h;unfold cIn at h
 split at h
 . exact Ds hu LJ s σ H _ _ v u Q I rx ry h
 . rename_i p hx
   split at h
   . rename_i LN e
     obtain⟨k,ek,q⟩:=aZ h;cases (show u=Value.ref p from ry);have g:DGet H p x (valV LN k):=by rw[ua ek];exact DGet.k (uZ e)
     exact F1 (Na (Oc (by decide:1<=64) _) hu) I g rx fun s' I'=>⟨.bl _,H,I',rfl,q⟩
   . obtain⟨xs,e,f1,f2,q⟩:=aZ h;exact qI LJ s σ H _ _ v u Q I rx ry ⟨p,xs,rfl,oy e,f1,f2,q⟩
 . exact zi LJ s σ H _ _ v u Q I rx ry ⟨_,_,rfl,rfl,h⟩
 . exact h.elim
end
section
variable{X:Cx}{a b c:Expr}{ta tb tc:TE}{pos:Pos}
theorem G6(hu:X.A.units+64<cLine):IxR X cIx:=by
 intro value slice LJ s σ H x y v u Q I rx ry h hs
 cases x with
 | ref p=>
  unfold cIx at h;dsimp only at h
  split at h
  . rename_i LN e
    obtain⟨k,ek,h⟩:=aZ h;obtain⟨z,ez,q⟩:=aZ h;cases (show v=Value.ref p from rx);have g:DGet H p y (some z):=by rw[ua ek,← ez];exact DGet.k (uZ e)
    exact tail_any (AN I g) Pa.lookup (Dm (Na (Oc (by decide:1<=64) _) hu) I g ry fun w' s3 I3 rw'=>⟨z,H,I3,rw',q⟩) hs
  . split at h
    . obtain⟨xs,e,h⟩:=aZ h;obtain⟨z,ez,q⟩:=aZ h;rcases oy (K:=X.K) e with r | r
      . exact Bo value slice LJ s σ H _ _ v u Q I rx ry ⟨p,xs,_,z,rfl,rfl,r,ez,q⟩ hs
      . exact Dg value slice LJ s σ H _ _ v u Q I rx ry ⟨p,xs,_,z,rfl,rfl,r,ez,q⟩ hs
    . exact h.elim
 | str zz=>
  cases y with
  | int i=>
   obtain⟨hz,h⟩:=(show zz.length<=sizeLine/\bnd (atI zz.cps.toList i) fun c=>Q (.str ⟨#[c]⟩) H from h);obtain⟨z,ez,q⟩:=aZ h;exact GW value slice LJ s σ H _ _ v u Q I rx ry ⟨_,_,z,rfl,rfl,hz,ez,q⟩ hs
  | _=>exact False.elim h
 | _=>exact False.elim h
def kLen:List V->Hp->VK->Prop
 | [.ref p],H,Q=>(match unD (H p) with
  | some LN=>Q (.int LN.length) H
  | none=>bnd (unS (H p)) fun xs=>Q (.int xs.length) H)
 | [.str z],H,Q=>z.length<=sizeLine/\Q (.int z.length) H
 | _,_,_=>False
theorem aG:CallR X (.builtin "len") kLen:=by
 intro LJ s σ H xs us Q I r h;unfold kLen at h
 split at h
 . split at h
   . rename_i LN e
     exact Do LJ s σ H _ us Q I r ⟨_,LN,rfl,uZ e,h⟩
   . obtain⟨ys,e,q⟩:=aZ h;exact qJ LJ s σ H _ us Q I r ⟨_,ys,rfl,oy e,q⟩
 . exact zj LJ s σ H _ us Q I r ⟨_,rfl,h.1,h.2⟩
 . exact h.elim
def kAbs:List V->Hp->VK->Prop
 | [.int i],H,Q=>Q (.int (if i<0 then -i else i)) H
 | _,_,_=>False
def kMin:List V->Hp->VK->Prop
 | [.int i,.int j],H,Q=>Q (.int (if j<i then j else i)) H
 | _,_,_=>False
def kMax:List V->Hp->VK->Prop
 | [.int i,.int j],H,Q=>Q (.int (if j>i then j else i)) H
 | _,_,_=>False
def kList:List V->Hp->VK->Prop
 | [.ref p],H,Q=>bnd (unS (H p)) fun ys=>∀ l,H l=none->Q (.ref l) (upd H l (.lst ys))
 | _,_,_=>False
theorem dH:CallR X (.type "list") kList:=by
 intro LJ s σ H xs us Q I r h;unfold kList at h
 split at h
 . obtain⟨ys,e,q⟩:=aZ h;exact zk LJ s σ H _ us Q I r ⟨_,ys,rfl,oy e,q⟩
 . exact h.elim
def d6:List V->Hp->VK->Prop
 | [.ref p],H,Q=>bnd (unL (H p)) fun ys=>∃ ns:List Int,ys=ns.map V.int/\ns.length<64/\∀(ns':List Int) l,H l=none->ns'.Perm ns->ns'.Pairwise (· <=·)->Q (.ref l) (upd H l (.lst (ns'.map V.int)))
 | _,_,_=>False
theorem iK:CallR X (.builtin "sorted") d6:=by
 intro LJ s σ H xs us Q I r h;unfold d6 at h
 split at h
 . rename_i p
   obtain⟨ys,e,ns,rfl,LS,q⟩:=aZ h;obtain⟨u,rfl,ru⟩:=cG r;cases ru;obtain⟨LO,rv,pl,hz⟩:=I.list (qM e);have hI:IntsAre LO ns:=uV rv;have hl:=rv.length;rw[LV] at hl;refine sorted_ints pl.isList hI (by omega) fun out ns' hI' hp hs=>?_;have old:∀ b o,s.heap.get? b=some o->(sortedAll s.heap LO out).get? b=some o:=fun b o e=>sortedAll_old e;obtain⟨n,at_⟩:=sortedAll_at s.heap LO out;have hfresh:H (s.heap.objs.size+1)=none:=I.hok.fresh (OE _)
   have hlen':(ns'.map V.int).length<=sizeLine:=by
    rw[LV,hp.length_eq];exact MS (Nat.lt_trans LS (by decide))
   refine⟨.ref (s.heap.objs.size+1),_,I.laid (t':=s.toks) (a:=s.heap.objs.size+1) (o:=.lst (ns'.map V.int)) old (OE _) ⟨hlen',out.toList,n,qK hI',?_⟩,rfl,q ns' _ hfresh hp hs⟩;rw[at_]
 . exact h.elim
def lH(H:Hp):V->Option String
 | .non=>some "NoneType"
 | .bl _=>some "bool"
 | .int _=>some "int"
 | .str _=>some "str"
 | .ref p=>match H p with
  | some (.lst _)=>some "list"
  | some (.frz _ (.lst _))=>some "list"
  | some (.tup _)=>some "tuple"
  | some (.dK _)=>some "dict"
  | _=>none
 | _=>none
def isTy(t n:String):Bool:=t==n||(t=="bool"&&n=="int")
def sG(n:String):Bool:=["int","bool","str","list","tuple","dict"].contains n
theorem Dt{K:Frag}{H:Hp}{x:V}{t:String}(h:lH H x=some t):TyOf K H x (.type t)/\["NoneType","int","bool","str","list","tuple","dict"].contains t=true:=by
 cases x with
 | non=>cases h;exact⟨.non,by decide⟩
 | bl b=>cases h;exact⟨.bl b,by decide⟩
 | int i=>cases h;exact⟨.int i,by decide⟩
 | str i=>cases h;exact⟨.str i,by decide⟩
 | byt _=>cases h
 | flt _=>cases h
 | ty _=>cases h
 | ref p=>
  unfold lH at h;dsimp only at h
  split at h
  . rename_i e;cases h;exact⟨.lst e,by decide⟩
  . rename_i e;cases h;exact⟨.frz e,by decide⟩
  . rename_i e;cases h;exact⟨.tup e,by decide⟩
  . rename_i e;cases h;exact⟨.dK e,by decide⟩
  . cases h
theorem G7(K:Frag):∀ t∈["NoneType","int","bool","str","list","tuple","dict"],∀ n∈["int","bool","str","list","tuple","dict"],PySem.W.kitOne K (.type t) (.type n)=some (isTy t n):=by
 intro t ht n hn;simp only[Mn,NH,Pk] at ht hn;rcases ht with rfl | rfl | rfl | rfl | rfl | rfl | rfl <;> rcases hn with rfl | rfl | rfl | rfl | rfl | rfl <;> rfl
def kIsi:List V->Hp->VK->Prop
 | [x,.ty n],H,Q=>sG n=true/\bnd (lH H x) fun t=>Q (.bl (isTy t n)) H
 | _,_,_=>False
theorem dF:CallR X (.builtin "isinstance") kIsi:=by
 intro LJ s σ H xs us Q I r h;unfold kIsi at h
 split at h
 . obtain⟨hn,h⟩:=h;obtain⟨t,et,q⟩:=aZ h;obtain⟨u,w,rfl,ru,rw'⟩:=Ii r;cases rw';obtain⟨ty,ht⟩:=Dt (K:=X.K) et;exact Dd I ru ty (G7 X.K t (by simpa using ht) _ (by simpa [sG] using hn)) fun tk=>⟨.bl _,H,I.tok tk,rfl,q⟩
 . exact h.elim
def bm:V->List V->Hp->VK->Prop
 | .ref l,[y],H,Q=>bnd (unM (H l)) fun xs=>xs.length<sizeLine/\Q .non (upd H l (.lst (xs++[y])))
 | _,_,_,_=>False
theorem bh:MtR X "list.append" bm:=by
 intro LJ s σ H x vs v us Q I rx rv h;unfold bm at h
 split at h
 . obtain⟨xs,e,h1,q⟩:=aZ h;exact xM LJ s σ H _ _ v us Q I rx rv ⟨_,xs,_,rfl,rfl,gE e,h1,q⟩
 . exact h.elim
def lC:V->List V->Hp->VK->Prop
 | .ref l,[.ref b],H,Q=>bnd (unM (H l)) fun xs=>bnd (unM (H b)) fun zs=>xs.length+zs.length<=sizeLine/\Q .non (upd H l (.lst (xs++zs)))
 | _,_,_,_=>False
theorem u7:MtR X "list.extend" lC:=by
 intro LJ s σ H x vs v us Q I rx rv h;unfold lC at h
 split at h
 . obtain⟨xs,e,h⟩:=aZ h;obtain⟨zs,e2,h1,q⟩:=aZ h;exact Dk LJ s σ H _ _ v us Q I rx rv ⟨_,_,xs,zs,rfl,rfl,gE e,gE e2,h1,q⟩
 . exact h.elim
theorem bb{K:Frag}{H:Hp}{p:Addr}{xs:List V}(h:H p=some (.lst xs)):tyV K "list" (.ref p) H:=.inl ⟨rfl,_,Ml h⟩
def cSl:V->Option Int->Option Int->Hp->VK->Prop
 | .ref p,lo,hi,H,Q=>bnd (unL (H p)) fun xs=>∀ l,H l=none->Q (.ref l) (upd H l (.lst (cutV xs lo hi)))
 | _,_,_,_,_=>False
theorem IL:SlR X cSl:=by
 intro LJ s σ H x v vl vu lo hi sl Q I rx hs pl pu h;unfold cSl at h
 split at h
 . obtain⟨xs,e,q⟩:=aZ h;exact FW LJ s σ H _ v vl vu lo hi sl Q I rx hs pl pu ⟨_,xs,rfl,qM e,q⟩
 . exact h.elim
end
structure Cal(P:Program)(w:World)(K:Frag)(mg:Str->Option Value)(base:Heap)(k:Nat)(x:Str)(ps:List Str)(sp:Sp):Prop where
 ex:∃(f:Addr) (fd:FuncData),FnOk P w K mg base CX0 k f fd ps sp/\mg x=some (.ref f)/\keepIn K (.ref f)=true/\Binds K fd ps []
theorem G8 {X:Cx} {k n:Nat} {x:Str} {ps:List Str} {sp:Sp} {p pos:Pos} {e:Expr} {es:List Expr} {t:TA} (C:Cal X.prog X.w X.K X.mg X.base k x ps sp) (hr:Room n X.A) (hk:k<=n) (hg:Gl X x) (ha:PA X (e::es) t)
  (hdb:(x==("__debug__":Str))=false:=by decide) (he:starEach (e::es) X.env=(false,eval e X.env)::starEach es X.env:=by rfl) (hpl:(backTo pos (starEach es X.env)).any (·.1)=false:=by rfl):
  PE X (.Call (.Name x p) (e::es) [] pos) (tCall sp [] E0 t):=by
 obtain⟨f,fd,F,hm,hkp,hb⟩:=C.ex;exact FT F (hr.mono hk) hg hm hkp hb .nil y4 ha hdb he hpl
theorem aP:bootBuiltins "len"=some (.builtin "len"):=by decide+kernel
theorem mF:bootBuiltins "sorted"=some (.builtin "sorted"):=by decide+kernel
theorem zr:bootBuiltins "any"=some (.builtin "any"):=by decide+kernel
theorem bL:bootBuiltins "isinstance"=some (.builtin "isinstance"):=by decide+kernel
theorem df:bootBuiltins "list"=some (.type "list"):=by decide+kernel
theorem u8:bootBuiltins "int"=some (.type "int"):=by decide+kernel
theorem F2:bootBuiltins "bool"=some (.type "bool"):=by decide+kernel
theorem zt:bootBuiltins "str"=some (.type "str"):=by decide+kernel
theorem pH:bootBuiltins "tuple"=some (.type "tuple"):=by decide+kernel
def compN(scope:Scope):List Str:=(scope.names.filter fun p=>p.2==.local||p.2==.cell||p.2==.free).map (·.1)
def u9(N:List Str)(scope:Scope):List (Option Nat):=(compN scope).map fun x=>if scope.names.lookup x==some .free then N.findIdx? (· ==x) else none
def isCF:Option NameKind->Bool
 | some .cell=>true
 | some .free=>true
 | _=>false
theorem G9{X:Cx}{scope:Scope}(h1:scope.kind=.function)(h2:(scope.names.map (·.1)).Nodup)(h3:(scope.names.all fun p=>p.2 != .free||isCF (X.env.kindOf p.1))=true):BlkOk X (compN scope) (u9 X.N scope) scope where
 kind:=h1
 nd:=h2.sublist (List.Sublist.map _ (OR ..))
 len:=by unfold u9;rw[LV]
 names:=h2
 free:=fun x hx=>by
  have:=L6.mp h3 (x,.free) hx;simp only[bne_self_eq_false,Nc] at this;unfold isCF at this
  split at this
  . rename_i e;exact .inl e
  . rename_i e;exact .inr e
  . cases this
 at_:=fun j i x e1 e2=>by
  unfold u9 at e2;rw[L9,e1] at e2;simp only[Option.map_some,Option.some.injEq] at e2
  split at e2
  . rename_i hf
    obtain⟨hlt,hp,_⟩:=List.findIdx?_eq_some_iff_getElem.mp e2
    have hx:X.N[i]? =some x:=by
     rw[LW hlt];have:X.N[i]=x:=by simpa using hp
     rw[this]
    refine⟨hx,Nd (by simpa using hf)⟩
  . cases e2
section
variable{t u:TS}{D:Ends}{σ:St}{H:Hp}{Q:VK}{ta tb:TE}{R:Bool->Hp->Prop}{c d:TT}
theorem aJ:tSeq t u D σ H=t {D with nx:=u D} σ H:=rfl
theorem cH:tNext D σ H=D.nx σ H:=rfl
theorem bW{g:TG}:tAsg ta g D σ H=ta σ H fun x H1=>g x σ H1 D.nx:=rfl
theorem aY{i:Nat}{v:V}{k:St->Hp->Prop}:gName i v σ H k=k (σ.set i (some v)) H:=rfl
theorem Io{i:Nat}:tVar i σ H Q=∃ v,σ[i]? =some (some v)/\Q v H:=propext ⟨FB,fun⟨_,e,h⟩=>pC e h⟩
theorem dg{v:V}{σ:St}:tVar 0 (some v::σ) H Q=Q v H:=rfl
theorem dh{i:Nat}{a:Option V}{σ:St}:tVar (i+1) (a::σ) H Q=tVar i σ H Q:=rfl
theorem w_c{v:V}:tC v σ H Q=Q v H:=rfl
theorem gm{r:R2}:tOp r ta tb σ H Q=ta σ H fun x H1=>tb σ H1 fun y H2=>r x y H2 Q:=rfl
theorem cI:tRet ta D σ H=ta σ H D.rt:=rfl
theorem di:tRetN D σ H=D.rt .non H:=rfl
theorem cJ:tDrop ta D σ H=ta σ H fun _ H1=>D.nx σ H1:=rfl
theorem ay:tIfS c t u D σ H=c σ H fun b H1=>if b=true then t D σ H1 else u D σ H1:=rfl
theorem dj:tTest ta σ H R=ta σ H fun x H'=>∃ k,x=.bl k/\R k H':=rfl
theorem w_b:tB ta σ H R=ta σ H fun x H'=>∃ k,x=.bl k/\R k H':=rfl
theorem w_not:tNot c σ H R=c σ H fun k H1=>R (!k) H1:=rfl
theorem ff:tAnd c d σ H R=c σ H fun k H1=>if k=true then d σ H1 R else R false H1:=rfl
theorem jI:tOr c d σ H R=c σ H fun k H1=>if k=true then R true H1 else d σ H1 R:=rfl
theorem dk:tNotV ta σ H Q=ta σ H fun x H1=>∃ c,x=.bl c/\Q (.bl (!c)) H1:=rfl
theorem dm:tAndV ta tb σ H Q=ta σ H fun x H1=>∃ c,x=.bl c/\if c=true then tb σ H1 Q else Q (.bl false) H1:=rfl
theorem fS:tOrV ta tb σ H Q=ta σ H fun x H1=>∃ c,x=.bl c/\if c=true then Q (.bl true) H1 else tb σ H1 Q:=rfl
theorem fg{k:List V->Hp->Prop}:tNil σ H k=k [] H:=rfl
theorem cK{tr:TA}{k:List V->Hp->Prop}:tCons ta tr σ H k=ta σ H fun x H1=>tr σ H1 fun xs H2=>k (x::xs) H2:=rfl
theorem jJ{r:List V->Hp->VK->Prop}{tr:TA}:tCB r tr σ H Q=tr σ H fun vs H1=>r vs H1 Q:=rfl
theorem dn{sp:Sp}{dvs:List V}{E:XK}{tr:TA}:tCall sp dvs E tr σ H Q=tr σ H fun vs H1=>sp (vs++dvs) H1 Q E:=rfl
theorem fU{tr:TA}:tTup tr σ H Q=tr σ H fun xs H1=>xs.length<=sizeLine/\∀ p,H1 p=none->Q (.ref p) (upd H1 p (.tup xs)):=rfl
theorem fh{tr:TA}:tLst tr σ H Q=tr σ H fun xs H1=>xs.length<=sizeLine/\∀ p,H1 p=none->Q (.ref p) (upd H1 p (.lst xs)):=rfl
theorem iL{K:Frag}{T:String}{r:V->List V->Hp->VK->Prop}{tr:TA}:tBM K T r ta tr σ H Q=ta σ H fun x H1=>tyV K T x H1/\tr σ H1 fun xs H2=>r x xs H2 Q:=rfl
theorem fV{K:Frag}{T:String}{r:V->List V->Hp->VK->Prop}:B9 K T r ta σ H Q=ta σ H fun x H1=>tyV K T x H1/\r x [] H1 Q:=rfl
theorem cL:tTrue σ H R=R true H:=rfl
theorem dq:G2 σ H Q=∀ p,H p=none->Q (.ref p) (upd H p (.dK [])):=rfl
theorem dr{td ty tv:TE}:sDPut td ty tv D σ H=tv σ H fun v H1=>td σ H1 fun x H2=>ty σ H2 fun y H3=>∃ a H4,x=.ref a/\DPut H3 a y v H4/\D.nx σ H4:=rfl
theorem fW{i j:Int}:cAdd (.int i) (.int j) H Q=Q (.int (i+j)) H:=rfl
theorem fX{i j:Int}:cSub (.int i) (.int j) H Q=Q (.int (i-j)) H:=rfl
theorem fY{i j:Int}:cMul (.int i) (.int j) H Q=(CMul i j/\Q (.int (i*j)) H):=rfl
theorem f6{i j:Int}:cDiv (.int i) (.int j) H Q=(CDiv i j/\Q (.int (i/j)) H):=rfl
theorem f7{i j:Int}:cMod (.int i) (.int j) H Q=(0<j/\Q (.int (i%j)) H):=rfl
theorem f8{g:Int->Int->Bool}{i j:Int}:cCmp g (.int i) (.int j) H Q=Q (.bl (g i j)) H:=rfl
theorem f9{K:Frag}{i j:Int}:cEq K (.int i) (.int j) H Q=Q (.bl (decide (i=j))) H:=rfl
theorem ga{K:Frag}{i j:Int}:cNe K (.int i) (.int j) H Q=Q (.bl (!decide (i=j))) H:=rfl
theorem gb{K:Frag}{i j:Bool}:cEq K (.bl i) (.bl j) H Q=Q (.bl (decide (i=j))) H:=rfl
theorem gc{K:Frag}{i j:Bool}:cNe K (.bl i) (.bl j) H Q=Q (.bl (!decide (i=j))) H:=rfl
theorem gX{p:Addr}{i:Int}{xs:List V}(h:H p=some (.tup xs)):cIx (.ref p) (.int i) H Q=bnd (atI xs i) fun v=>Q v H:=by
 unfold cIx;dsimp only;rw[h];rfl
theorem Cb{p:Addr}{i:Int}{xs:List V}(h:H p=some (.lst xs)):cIx (.ref p) (.int i) H Q=bnd (atI xs i) fun v=>Q v H:=by
 unfold cIx;dsimp only;rw[h];rfl
theorem gd{i:Int}:kAbs [.int i] H Q=Q (.int (if i<0 then -i else i)) H:=rfl
theorem ge{i j:Int}:kMin [.int i,.int j] H Q=Q (.int (if j<i then j else i)) H:=rfl
theorem bd{p:Addr}{xs:List V}(h:H p=some (.lst xs)):kLen [.ref p] H Q=Q (.int xs.length) H:=by
 unfold kLen;dsimp only;rw[h];rfl
theorem Du{p:Addr}{xs:List V}(h:H p=some (.tup xs)):kLen [.ref p] H Q=Q (.int xs.length) H:=by
 unfold kLen;dsimp only;rw[h];rfl
theorem cP{p:Addr}{xs:List V}{y:V}(h:H p=some (.lst xs)):bm (.ref p) [y] H Q=(xs.length<sizeLine/\Q .non (upd H p (.lst (xs++[y])))):=by
 unfold bm;dsimp only;rw[h];rfl
theorem qN:∀ ns:List Int,(ns.map V.int).all flatV=true
 | []=>rfl
 | n::r=>by rw[Mx,OC,qN r];rfl
theorem ub(i:Int):∀ ns:List Int,inV (.int i) (ns.map V.int)=decide (i∈ns)
 | []=>by simp[inV]
 | n::r=>by
  have ih:=ub i r;unfold inV at ih ⊢;rw[Mx,NY,ih];show((n==i)||decide (i∈r))=decide (i∈n::r);rw[MA,Nk,NO,LX,LX,Mn];exact⟨fun h=>h.elim (fun e=>.inl e.symm) .inr,fun h=>h.elim (fun e=>.inl e.symm) .inr⟩
theorem nI{K:Frag}{p:Addr}{i:Int}{ns:List Int}(h:H p=some (.lst (ns.map V.int))):cIn K false (.int i) (.ref p) H Q=Q (.bl (decide (i∈ns))) H:=by
 unfold cIn;dsimp only;rw[h];dsimp only[unD,unS,bnd];rw[ub,qN];simp[flatV]
theorem lc{K:Frag}{p:Addr}{i:Int}{ns:List Int}(h:H p=some (.lst (ns.map V.int))):cIn K true (.int i) (.ref p) H Q=Q (.bl (!decide (i∈ns))) H:=by
 unfold cIn;dsimp only;rw[h];dsimp only[unD,unS,bnd];rw[ub,qN];simp[flatV]
end
def LoopR(J:It)(g:TG)(tb:TS)(D:Ends)(σ:St)(H1:Hp):Prop:=∃ W:Nat->Nat->St->Hp->Prop,(∃ m,W 0 m σ H1)/\∀ i m σ H,W i m σ H->
 (J.stop i H/\D.nx σ H)\/(J.go i H/\∃ N:St->Hp->Prop,(∀ σ' H',N σ' H'->∃ m',m'<m/\W (i+1) m' σ' H')/\∀ x H',J.yld i H x H'->g x σ H' fun σ2 H2=>tb {D with nx:=N,ct:=N,bk:=D.nx} σ2 H2)
def CompR(J:It)(g:TG)(tt:TT)(te:TE)(fin:Addr->Hp->Prop)(σ0:St)(H1:Hp):Prop:=∀ l,H1 l=none->
 ∃ W:Nat->Nat->St->Hp->Prop,(∃ m,W 0 m σ0 (upd H1 l (.lst [])))/\∀ i m σ' H',W i m σ' H'->
  (J.stop i H'/\fin l H')\/(J.go i H'/\∃ N:St->Hp->Prop,(∀ σ'' H'',N σ'' H''->∃ m',m'<m/\W (i+1) m' σ'' H'')/\∀ x H2,J.yld i H' x H2->g x σ' H2 fun σ2 H3=>tt σ2 H3 fun b H4=>
   if b=true then te σ2 H4 fun y H5=>∃ ys,H5 l=some (.lst ys)/\ys.length<sizeLine/\N σ2 (upd H5 l (.lst (ys++[y]))) else N σ2 H4)
section
variable{K:Frag}{g:TG}{tb:TS}{D:Ends}{σ:St}{H:Hp}{tl:TE}{ta:TA}{ix:List (Option Nat)}{tt:TT}{te:TE}{k:Nat}{Q:VK}
theorem dt:tFor (iList K tl) g tb D σ H=tl σ H fun x H1=>∃ a,x=.ref a/\(∃ xs,SqL K H1 a xs)/\LoopR (Itl K a) g tb D σ H1:=rfl
theorem ck:tFor (de ta) g tb D σ H=ta σ H fun vs H1=>∃ j:Int,vs=[.int j]/\ -(2^62)<=j/\j<2^62/\LoopR (Itr 0 j.toNat) g tb D σ H1:=rfl
theorem cm:tFor (pD ta) g tb D σ H=ta σ H fun vs H1=>∃ i j:Int,vs=[.int i,.int j]/\(-(2^62)<=i/\i<2^62/\ -(2^62)<=j/\j<2^62)/\LoopR (Itr i (j-i).toNat) g tb D σ H1:=rfl
theorem bQ:tComp ix (iList K tl) g tt te σ H Q=tl σ H fun x H1=>∃ a,x=.ref a/\(∃ xs,SqL K H1 a xs)/\CompR (Itl K a) g tt te (fun l H'=>Q (.ref l) H') (subσ ix σ) H1:=rfl
theorem bR:tComp ix (de ta) g tt te σ H Q=ta σ H fun vs H1=>∃ j:Int,vs=[.int j]/\ -(2^62)<=j/\j<2^62/\CompR (Itr 0 j.toNat) g tt te (fun l H'=>Q (.ref l) H') (subσ ix σ) H1:=rfl
theorem bS:sComp k ix (iList K tl) g tt te D σ H=tl σ H fun x H1=>∃ a,x=.ref a/\(∃ xs,SqL K H1 a xs)/\CompR (Itl K a) g tt te (fun l H'=>D.nx (σ.set k (some (.ref l))) H') (subσ ix σ) H1:=rfl
theorem bA:sComp k ix (de ta) g tt te D σ H=ta σ H fun vs H1=>∃ j:Int,vs=[.int j]/\ -(2^62)<=j/\j<2^62/\CompR (Itr 0 j.toNat) g tt te (fun l H'=>D.nx (σ.set k (some (.ref l))) H') (subσ ix σ) H1:=rfl
theorem pI {lo:Int} {n:Nat} {fin:Addr->Hp->Prop} {σ0:St} {H1:Hp} (Pv:Addr->Nat->St->Hp->Prop) (h0:∀ l,H1 l=none->Pv l 0 σ0 (upd H1 l (.lst [])))
  (hs:∀ l i σ H,H1 l=none->i<n->Pv l i σ H->g (.int (lo+i)) σ H fun σ2 H3=>tt σ2 H3 fun b H4=>if b=true then te σ2 H4 fun y H5=>∃ ys,H5 l=some (.lst ys)/\ys.length<sizeLine/\Pv l (i+1) σ2 (upd H5 l (.lst (ys++[y]))) else Pv l (i+1) σ2 H4)
  (hd:∀ l σ H,H1 l=none->Pv l n σ H->fin l H):CompR (Itr lo n) g tt te fin σ0 H1:=by
 intro l hl0;refine⟨fun i m σ H=>m=n-i/\i<=n/\Pv l i σ H,⟨n,by simp,M2 _,h0 l hl0⟩,?_⟩;rintro i m σ H ⟨rfl,hi,p⟩;by_cases hlt:i<n
 . refine .inr ⟨hlt,Pv l (i+1),fun σ' H' p'=>⟨n - (i+1),by omega,rfl,hlt,p'⟩,fun x H' y=>?_⟩;obtain⟨e,y⟩:=y;subst e y;exact hs l i σ _ hl0 hlt p
 . have e:i=n:=by omega
   subst e;exact .inl ⟨Mu _,hd l σ H hl0 p⟩
theorem qO {a:Addr} {xs:List V} {fin:Addr->Hp->Prop} {σ0:St} {H1:Hp} (Pv:Addr->Nat->St->Hp->Prop) (h0:∀ l,H1 l=none->Pv l 0 σ0 (upd H1 l (.lst []))) (hq:∀ l i σ H,H1 l=none->i<=xs.length->Pv l i σ H->SqL K H a xs)
  (hs:∀ l i x σ H,H1 l=none->xs[i]? =some x->Pv l i σ H->g x σ H fun σ2 H3=>tt σ2 H3 fun b H4=>if b=true then te σ2 H4 fun y H5=>∃ ys,H5 l=some (.lst ys)/\ys.length<sizeLine/\Pv l (i+1) σ2 (upd H5 l (.lst (ys++[y]))) else Pv l (i+1) σ2 H4)
  (hd:∀ l σ H,H1 l=none->Pv l xs.length σ H->fin l H):CompR (Itl K a) g tt te fin σ0 H1:=by
 intro l hl0;refine⟨fun i m σ H=>m=xs.length-i/\i<=xs.length/\Pv l i σ H,⟨xs.length,by simp,M2 _,h0 l hl0⟩,?_⟩;rintro i m σ H ⟨rfl,hi,p⟩;have q:=hq l i σ H hl0 hi p;by_cases hlt:i<xs.length
 . refine .inr ⟨⟨xs,xs[i],q,by simp[hlt]⟩,Pv l (i+1),fun σ' H' p'=>⟨xs.length - (i+1),by omega,rfl,hlt,p'⟩,fun x H' y=>?_⟩;obtain⟨e,y⟩:=y;subst e;exact hs l i x σ _ hl0 (y xs q) p
 . have e:i=xs.length:=by omega
   subst e;exact .inl ⟨⟨xs,q,Mu _⟩,hd l σ H hl0 p⟩
theorem sH{p q:Addr}{xs ys:List Int}(hp:H p=some (.lst (xs.map V.int)))(hq:H q=some (.lst (ys.map V.int)))(h:Q (.bl (decide (xs=ys))) H):cEq K (.ref p) (.ref q) H Q:=by
 show rEqD K (.ref p) (.ref q) H Q;refine⟨.list (xs.map PyData.int),.list (ys.map PyData.int),.lst (Ml hp) (.ints xs),.lst (Ml hq) (.ints ys),j6 xs,j6 ys,?_⟩;rw[PyData.eqv,zq];exact h
theorem sI{p q:Addr}{xs ys:List Int}(hp:H p=some (.lst (xs.map V.int)))(hq:H q=some (.lst (ys.map V.int)))(h:Q (.bl (!decide (xs=ys))) H):cNe K (.ref p) (.ref q) H Q:=by
 show rNeD K (.ref p) (.ref q) H Q;refine⟨.list (xs.map PyData.int),.list (ys.map PyData.int),.lst (Ml hp) (.ints xs),.lst (Ml hq) (.ints ys),j6 xs,j6 ys,?_⟩;rw[PyData.eqv,zq];exact h
theorem EV{p:Addr}{ns:List Int}(hp:H p=some (.lst (ns.map V.int)))(hn:ns.length<64)(h:∀(ns':List Int) l,H l=none->ns'.Perm ns->ns'.Pairwise (· <=·)->Q (.ref l) (upd H l (.lst (ns'.map V.int)))):d6 [.ref p] H Q:=by
 unfold d6;dsimp only;rw[hp];exact⟨ns,rfl,hn,h⟩
theorem oz{p:Addr}{xs:List V}(hp:H p=some (.lst xs))(h:∀ l,H l=none->Q (.ref l) (upd H l (.lst xs))):kList [.ref p] H Q:=by
 unfold kList;dsimp only;rw[hp];exact h
end
theorem aC{X:Cx}{N:List Str}{ix:List (Option Nat)}{scope:Scope}(h1:scope.kind=.function)(h2:(scope.names.map (·.1)).Nodup)(h3:(scope.names.all fun p=>p.2 != .free||isCF (X.env.kindOf p.1))=true)(h4:N=compN scope)(h5:ix=u9 X.N scope):BlkOk X N ix scope:=by
 subst h4 h5;exact G9 h1 h2 h3
def kLenS(K:Frag):List V->Hp->VK->Prop:=fun xs H Q=>∃ p ys,xs=[.ref p]/\(SqL K H p ys\/SqT K H p ys)/\Q (.int ys.length) H
structure Bt(mg:Str->Option Value):Prop where
 len_:mg "len"=none
 abs_:mg "abs"=none
 min_:mg "min"=none
 max_:mg "max"=none
 sorted_:mg "sorted"=none
 any_:mg "any"=none
 isinstance_:mg "isinstance"=none
 list_:mg "list"=none
 int_:mg "int"=none
 bool_:mg "bool"=none
 str_:mg "str"=none
 tuple_:mg "tuple"=none
 reversed_:mg "reversed"=none
 set_:mg "set"=none
 range_:mg "range"=none
 zip_:mg "zip"=none
theorem Vals.get':∀{xs:List V} {us:List Value} {i:Nat} {u:Value},Vals xs us->us[i]? =some u->∃ x,xs[i]? =some x/\RelV x u
 | _,_,_,_,.nil,h=>by simp at h
 | _,_,0,_,.cons r _,h=>by simp at h;subst h;exact⟨_,rfl,r⟩
 | _,_,i+1,_,.cons _ t,h=>by
  obtain⟨x,hx,r⟩:=Vals.get' (i:=i) t (by simpa using h);exact⟨x,by simpa using hx,r⟩
section
variable{X:Cx}{LJ:List (Addr × Obj)}{σ:St}{H:Hp}{s s':Shared}
theorem Inv.kept'(I:Inv X LJ σ H s)(k:∀ b u,s.heap.get? b=some u->s'.heap.get? b=some u)(ho:s'.os=s.os)(hg:AllBare s'.gens):Inv X LJ σ H s':=
 I.call' (ch:=[]) ho (Un.kept k) (I.hok.kept k) hg fun b z=>absurd z (by simp)
theorem Inv.walked{l:Addr}{o:Obj}(I:Inv X LJ σ H s)(hm:Moved [s.heap.objs.size] (fun a b=>b=a) {s with heap:=s.heap.push o} s'):Inv X LJ σ H s':=by
 refine I.kept' (fun b u e=>hm.heap b u (fun z=>?_) (Mv _ e)) hm.os (by rw[show s'.gens=s.gens from hm.gens];exact I.bare);have:b=s.heap.objs.size:=by simpa using z
 exact absurd (MC e) (by rw[this];exact NF _)
def kAny:List V->Hp->VK->Prop
 | [.ref p],H,Q=>bnd (unL (H p)) fun ys=>∃ bs:List Bool,ys=bs.map V.bl/\Q (.bl (bs.any id)) H
 | _,_,_=>False
theorem Dv(bs:List Bool):(List.range bs.length).any (fun i=>bs.getD i false)=bs.any id:=by
 rw[MA,NI,NI];constructor
 . rintro⟨i,hi,h⟩;have hi':i<bs.length:=Mb.mp hi;exact⟨bs[i],ME hi',by simpa [List.getD,hi'] using h⟩
 . rintro⟨b,hb,h⟩;obtain⟨i,hi,e⟩:=Nw.mp hb;refine⟨i,Mb.mpr hi,?_⟩;have h':b=true:=h;rw[List.getD,LW hi,e];exact h'
theorem qP(hc:X.calm=true):CallR X (.builtin "any") kAny:=by
 intro LJ s σ H xs us Q I r h;unfold kAny at h
 split at h
 . rename_i p
   obtain⟨ys,e,bs,rfl,q⟩:=aZ h;obtain⟨u,rfl,ru⟩:=cG r;cases ru;obtain⟨LO,rv,pl,hz⟩:=I.list (qM e);have hl:=rv.length;rw[LV] at hl
   have hlt:p<s.heap.objs.size:=by
    obtain⟨o,h1,_⟩:=pl.isList;exact MC h1
   refine call_any_walkS (Oh pl.isList ?_);refine⟨s.heap.objs.size,_,_,_,LO.toArray.size,_,_,fun i=>bs.getD i false,rfl,(Walks.list (A:=X.A.in1) (I.ok.hd hc) s.heap.objs.size p (MT hlt) LO.toArray).toS,⟨⟨_,MQ _ rfl,rfl,rfl⟩,pl.isList.push _⟩,?_,fun s' hm=>?_⟩
   . intro i v s1 Q1 E1 hP hQ;have hv:LO[i]? =some v:=by simpa using hP
     obtain⟨x,hx,rx⟩:=rv.get' hv;obtain⟨b,hb,rfl⟩:∃ b,bs[i]? =some b/\V.bl b=x:=by simpa using hx
     cases rx;refine Ny ?_;have e3:bs.getD i false=b:=by simp[List.getD,hb]
     rw[← e3];exact hQ
   . refine⟨.bl _,H,I.walked (l:=p) hm,?_,q⟩;have e2:LO.toArray.size=bs.length:=by rw[Mw];exact hl.symm
     rw[e2,Dv];rfl
 . exact h.elim
def iM(K:Frag):V->List V->Hp->VK->Prop
 | .ref p,[y],H,Q=>∃(ds:List PyData) (d:PyData) (j:Nat),DV K H (.ref p) (.list ds)/\DV K H y d/\PyData.canLayAll0 ds=true/\PyData.canLay0 d=true/\min (PyData.depthAll ds) d.depth<=62/\
   j<=1000/\(∃ e,ds[j]? =some e/\PyData.eqv e d=true)/\(∀ m e,m<j->ds[m]? =some e->PyData.eqv e d=false)/\Q (.int j) H
 | _,_,_,_=>False
theorem iA(hu:X.A.units+64<cLine):MtR X "list.index" (iM X.K):=by
 intro LJ s σ H x vs v us Q I rx rv h;unfold iM at h
 split at h
 . rename_i p y
   obtain⟨ds,d,j,hp,hy,hl,hd,hdep,hj,⟨e,ej,et⟩,hno,q⟩:=h;cases rx;obtain⟨u,rfl,ru⟩:=cG rv;obtain⟨as,rc⟩:=hp.reads I rfl;obtain⟨bs,rx⟩:=hy.reads I ru
   cases rc with
   | @list _ o LO n _ _ h1 h2 h3 h4=>
    obtain⟨oc,od,oda,osl⟩:=o;dsimp only at h2 h3;subst h2 h3;have hmap:=SeqAt.readsAll_map ds _ _ hl h4
    have at_:∀(m:Nat) (hm:m<LO.size),ds[m]? =some (SeqAt.readOf s.heap LO[m]):=fun m hm=>by
     rw[← hmap,L9,PD,Pb hm];rfl
    have hjs:j<LO.size:=by
     have:=(L1.mp ej).1;rw[← hmap,LV,Ob] at this;exact this
    refine NV F.slot_list_index ⟨_,h1,rfl⟩ F.entry_list_index (F.args_list_index_2 _ _) (SeqAt.list_indexAt p LO n od osl u (fun y=>PyData.eqv (SeqAt.readOf s.heap y) d) j hjs (by omega) ?_ ?_) ⟨h1,SeqAt.items_eqAt h4 rx hl hd ?_,⟨.int j,H,I.tok _,⟨_,rfl⟩,q⟩⟩
    . have:=at_ j hjs;rw[ej] at this;cases this;exact et
    . intro m hm hlt;exact hno m _ hlt (at_ m hm)
    . omega
 . exact h.elim
theorem Ha{h:Heap}{a b:Addr}{o u:Obj}{c d:String}(ha:h.get? a=some o)(hb:h.get? b=some u)(hc:o.cls=.type c)(hd:u.cls=.type d)(ne:c≠d):a≠b:=by
 rintro rfl;rw[ha] at hb;cases hb;rw[hc] at hd;cases hd;exact ne rfl
end
open Builtin Builtin.Str
theorem wT:∀{ts:List Str} {us:List Value},Vals (ts.map V.str) us->∃ l:List (Str × Tok),us=strValues l/\l.map (·.1)=ts
 | [],_,.nil=>⟨[],rfl,rfl⟩
 | t::ts,_,.cons r rs=>by
  obtain⟨l,rfl,e⟩:=wT (ts:=ts) rs;obtain⟨u,rfl⟩:=r;exact⟨(t,u)::l,rfl,by rw[Mx,e]⟩
theorem xO:∀(l:List (Str × Tok)),Vals ((l.map (·.1)).map V.str) (strValues l)
 | []=>.nil
 | (t,u)::l=>.cons ⟨u,rfl⟩ (xO l)
section
variable{X:Cx}
def kFind:V->List V->Hp->VK->Prop
 | .str x,[.str y],H,Q=>Q (.int (Txt.find x y)) H
 | _,_,_,_=>False
def va:V->List V->Hp->VK->Prop
 | .str x,[.str y],H,Q=>(y.length==0)=false/\x.length<=sizeLine/\(Txt.split x y).length<=sizeLine/\∀ l,H l=none->Q (.ref l) (upd H l (.lst ((Txt.split x y).map V.str)))
 | _,_,_,_=>False
theorem Dw:MtR X "str.split" va:=by
 intro LJ s σ H x vs v us Q I rx rv h;unfold va at h
 split at h
 . rename_i x y
   obtain⟨t,rfl⟩:=rx;obtain⟨u,rfl,ru⟩:=cG rv;obtain⟨t2,rfl⟩:=ru;obtain⟨hy,hx,hn,q⟩:=h
   have fin:∀(l:List (Str × Tok)) (k:Nat),l.map (·.1)=Txt.split x y->EP X LJ σ Q (.ref s.heap.objs.size) {s with heap:=s.heap.push {cls:=.type "list",data:=.seq (strValues l).toArray},toks:=k}:=fun l k e=>by
    refine⟨.ref s.heap.objs.size,_,I.lnew (t':=k) (ys:=(Txt.split x y).map V.str) (LO:=strValues l) ?_ (by rw[LV];exact hn),rfl,q _ I.fresh⟩;rw[← e];exact xO l
   cases h1:(decide (x.length<y.length)||decide (strKind x<strKind y))
   . cases hf:(occurrences x y 0 x.length (x.length+1)).isEmpty
     . have e3:Txt.split x y=partsBetween x (occurrences x y 0 x.length (x.length+1)) y.length:=(Md (OS h1)).trans (Md (OS hf));refine NV Pl (Ow _ _ _) Pe (O4 _ _) (meets_str_split_sep x y t t2 h1 hy hf hx (by rw[← e3];exact hn)) ?_;show wants _ _ _ {s with toks:=_,heap:=s.heap.push {cls:=.type "list",data:=.seq (strsFrom s.toks (partsBetween x (occurrences x y 0 x.length (x.length+1)) y.length)).toArray}};rw[strsFrom_eq];exact fin (numbered s.toks _) _ ((numbered_texts _ _).trans e3.symm)
     . exact NV Pl (Ow _ _ _) Pe (O4 _ _) (meets_str_split_not_found x y t t2 h1 hy hf)
        (fin [(x,t)] s.toks ((Md (OS h1)).trans (Mp hf)).symm)
   . exact NV Pl (Ow _ _ _) Pe (O4 _ _) (meets_str_split_cannot_occur x y t t2 h1)
      (fin [(x,t)] s.toks (Mp h1).symm)
 . exact h.elim
def kr:V->Option Int->Option Int->Hp->VK->Prop
 | .ref p,lo,hi,H,Q=>cSl (.ref p) lo hi H Q
 | .str z,lo,hi,H,Q=>z.length<=sizeLine/\Q (.str (Txt.slice z lo hi)) H
 | _,_,_,_,_=>False
theorem mG:SlR X kr:=by
 intro LJ s σ H x v vl vu lo hi sl Q I rx hs pl pu h
 cases x with
 | ref p=>exact IL LJ s σ H _ v vl vu lo hi sl Q I rx hs pl pu h
 | str z=>
  obtain⟨hz,q⟩:=(show z.length<=sizeLine/\Q (.str (Txt.slice z lo hi)) H from h);obtain⟨t,rfl⟩:=rx;have fin:∀ t' k,EP X LJ σ Q (.str (Txt.slice z lo hi) t') {s with toks:=k}:=fun t' k=>⟨.str _,H,I.tok k,⟨t',rfl⟩,q⟩;refine⟨"str",_,F.slot_str_getitem.lookup,Ow _ _ _,?_⟩
  cases pl with
  | none=>
   cases pu with
   | none=>exact NS (l:=none) (u:=none) (st:=none) hs rfl (OM ⟨Mi (Ps z _ _) hz,fin⟩)
   | int j tj=>exact NS (l:=none) (u:=some (j,tj)) (st:=none) hs rfl (OM ⟨Mi (Ps z _ _) hz,fin⟩)
  | int i ti=>
   cases pu with
   | none=>exact NS (l:=some (i,ti)) (u:=none) (st:=none) hs rfl (OM ⟨Mi (Ps z _ _) hz,fin⟩)
   | int j tj=>exact NS (l:=some (i,ti)) (u:=some (j,tj)) (st:=none) hs rfl (OM ⟨Mi (Ps z _ _) hz,fin⟩)
 | _=>exact False.elim h
def Its(x:Str):It:=⟨fun i _=>i<x.cps.size,fun i H v H'=>H'=H/\∃ c,x.cps[i]? =some c/\v=.str ⟨#[c]⟩,fun i _=>x.cps.size<=i⟩
theorem zu {P:Program} {w:World} {K:Frag} {tg:Expr} {x:Str} {t:Tok} (it:Addr) (ty:String) (hty:["enumerate","zip","dict_itemiterator","dict_reverseitemiterator","odict_iterator","itertools.zip_longest","itertools.pairwise"].contains ty=false)
  (W:∀ A:Around,A.handled=none->Walks P w A it [it] [it] x.cps.size (SignAt x) (fun i h=>h.IsStrIter it ty x t i))
  (slf:∀(A:Around) (i:Nat) (s:Shared) (Q:Value->Shared->Prop) (E:Value->Shared->Prop),s.heap.IsStrIter it ty x t i->Q (.ref it) s->wpAny (model P w) A (pyIter (.ref it)) Q E s):
  Turn P w K tg (Its x) [it] it (fun i h=>i<=x.cps.size/\h.IsStrIter it ty x t i) where
 mem:=by simp
 obj:=fun i h st b hb=>by
  have e:b=it:=by simpa using hb
  subst e;obtain⟨_,o,e,c,d⟩:=st;exact⟨o,e,fun v z=>by rw[d] at z;cases z⟩
 keep:=fun i h h' st k=>by
  obtain⟨hi,o,e,c,d⟩:=st;exact⟨hi,o,k it (by simp) o e,c,d⟩
 item:=by
  intro X hP hw hK hc i LJ s σ H E I hf st hg;subst hP hw hK;obtain⟨f0,f1,f2,f3,f4,f5⟩:=hf it (by simp);have hlt:i<x.cps.size:=hg;refine(W X.A (I.ok.hd hc)).item i s _ _ hlt st.2 fun v h' tk hv st' kk=>?_;obtain⟨c,u,hcu,rfl⟩:=hv;have I1:Inv X LJ σ H {s with heap:=h',toks:=tk}:=I.turned (fun b o hb e=>kk b o (by simpa using hb) e) f0 f1 f3 f4 f5;obtain⟨o,e,c',d⟩:=id st';exact⟨_,rfl,yZ (s:={s with heap:=h',toks:=tk}) e c' d hty ⟨.str ⟨#[c]⟩,H,I1,⟨u,rfl⟩,⟨rfl,c,hcu,rfl⟩,⟨hlt,st'⟩,fun b hb=>(hf b hb).1⟩⟩
 done:=by
  intro X hP hw hK hc i LJ s σ H E I hf st hg;subst hP hw hK;obtain⟨f0,f1,f2,f3,f4,f5⟩:=hf it (by simp);have hle:x.cps.size<=i:=hg;have e:i=x.cps.size:=Nat.le_antisymm st.1 hle;subst e;exact(W X.A (I.ok.hd hc)).done s _ _ st.2 fun h' tk kk=>⟨rfl,I.turned (fun b o hb e=>kk b o (by simpa using hb) e) f0 f1 f3 f4 f5⟩
 self:=fun A i s Q E st h=>slf A i s Q E st.2 h
def iStr(tl:TE):TI:=fun σ H R=>tl σ H fun x H1=>∃ z,x=.str z/\R (Its z) H1
theorem Hc{tg l:Expr}{tl:TE}(hl:PE X l tl):PI X tg l (iStr tl):=by
 intro LJ s σ H R I h;refine thn (hl LJ s σ H _ I h) fun v s1 ⟨x,H1,I1,r1,q1⟩=>?_;obtain⟨z,rfl,q⟩:=q1;obtain⟨t,rfl⟩:=r1
 have fin:∀ b∈[s1.heap.objs.size],FpOk X LJ H1 b:=fun b hb=>by
  have e:b=s1.heap.objs.size:=by simpa using hb
  subst e;exact I1.fpOk (Mu _) (I1.hok.fresh (Mu _))
 cases ha:z.cps.all (· < 128)
 . refine wpAny_pyIter_wide ha ⟨s1.heap.objs.size,[s1.heap.objs.size],_,Its z,H1,rfl,I1.kept (t':=s1.toks) fun b o e=>Mv _ e,zu (t:=t) _ "str_iterator" (by decide) (fun A' hA=>Walks.strWide hA _ z t) (fun A i s Q E st hq=>wpAny_pyIter_striter_wide st hq),⟨M2 _,_,MQ _ rfl,rfl,rfl⟩,fin,q⟩
 . refine wpAny_pyIter_ascii ha ⟨s1.heap.objs.size,[s1.heap.objs.size],_,Its z,H1,rfl,I1.kept (t':=s1.toks) fun b o e=>Mv _ e,zu (t:=t) _ "str_ascii_iterator" (by decide) (fun A' hA=>Walks.strAscii hA _ z t) (fun A i s Q E st hq=>wpAny_pyIter_striter_ascii st hq),⟨M2 _,_,MQ _ rfl,rfl,rfl⟩,fin,q⟩
theorem AO {prog:Program} {w:World} {A:Around} {E:Value->Shared->Prop} {s:Shared} {l:Addr} {items:Array Value} {k:Int} {t:Tok} {v:Value} {Q:Unit->Shared->Prop} (hl:s.heap.IsList l items)
  (h0:0<=k) (hfit:k<2^63) (hn:k<items.size)
  (hQ:Q () {s with heap:=s.heap.update l (Obj.mapSeq (·.setIfInBounds k.toNat v))}):
  wpAny (model prog w) A (setItem (.ref l) (.int k t) v) Q E s:=by
 obtain⟨o,ho,hc,ne,hd⟩:=id hl;unfold setItem
 try with_reducible refine Pg ?_
 first | refine MM (MW ?_) | skip
 refine MM (wpAny_sequenceKey hl.typeIs (by decide) ?_)
 refine MM (wpAny_callSpecial?_slot (name:=Str.ofString "__setitem__") hl.typeIs slot_list_setitem
  (wpAny_call_entry slot_list_setitem hl.typeIs entry_list_setitem ?_ (args_list_setitem _ _ _)))
 show wpAny _ _ (Builtin.List.listSubscript? (.int k t) >>= _) _ _ s;refine MM (wpAny_listSubscript_int (fitsIndex_of h0 hfit) ?_)
 clear hfit
 obtain⟨j,rfl⟩:=NT h0;have hj:j<items.size:=by omega
 have hx':items[j]? =some items[j]:=Pb hj;show wpAny _ _ ((seqItemAt l j >>= fun r=>pure (r.map (j,·))) >>= _) _ _ s;refine MM (MM (wpAny_seqItemAt ho hd (MW ?_)));rw[hx'];show wpAny _ _ (setSeqItemAt l j v >>= _) _ _ s;refine MM (wpAny_setSeqItemAt ho hd ?_)
 first
  | exact MM (MW (MW ⟨.none,rfl,MW hQ⟩))
  | exact MW ⟨.none,rfl,MW hQ⟩
theorem zv:∀{xs:List V} {us:List Value} {x:V} {u:Value} (i:Nat),Vals xs us->RelV x u->Vals (xs.set i x) (us.set i u)
 | _,_,_,_,_,.nil,_=>.nil
 | _,_,_,_,0,.cons _ t,r=>.cons r t
 | _,_,_,_,i+1,.cons q t,r=>.cons q (zv i t r)
def cPut:TSet
 | .ref p,y,v,H,Q=>(match unD (H p) with
  | some _=>∃ H',DPut H p y v H'/\Q H'
  | none=>match y with
   | .int i=>bnd (unM (H p)) fun xs=>0<=i/\i<xs.length/\Q (upd H p (.lst (xs.set i.toNat v)))
   | _=>False)
 | _,_,_,_,_=>False
theorem Ip(hu:X.A.units+64<cLine):PSet X cPut:=by
 intro LJ s σ H o i v ov iv u Q I ro ri rv h
 cases o with
 | ref p=>
  cases ro;unfold cPut at h;dsimp only at h
  split at h
  . obtain⟨H',g,q⟩:=h;exact Dn (Na (Oc (by decide:1<=64) _) hu) I g ri rv fun s' I'=>⟨H',I',q⟩
  . split at h
    . rename_i i
      obtain⟨xs,e,h0,h1,q⟩:=aZ h;obtain⟨t,rfl⟩:=ri;have hH:=gE e;obtain⟨z,LO,n,r,hl,eo⟩:=I.lstM hH;have hs:s.heap.IsList p LO.toArray:=⟨_,eo,rfl,n,rfl⟩;have hz:LO.length<=sizeLine:=by rw[← hl];exact z
      refine AO hs h0 ?_ (by rw[Mw,← hl];exact h1) ⟨_,I.lset (t':=s.toks) (ys:=xs.set i.toNat v) (its':=LO.set i.toNat u) hH eo (by simp) (zv _ r rv) (by rw[List.length_set];exact z),q⟩;have:(sizeLine:Int)<2^63:=by decide
      omega
    . exact h.elim
 | _=>exact False.elim h
end
section
variable{K:Frag}{g:TG}{tb:TS}{D:Ends}{σ:St}{H:Hp}{tl:TE}{ix:List (Option Nat)}{tt:TT}{te ta:TE}{k:Nat}{Q:VK}
theorem jK{r:V->Option Int->Option Int->Hp->VK->Prop}{a b:TO}:tSl r te a b σ H Q=te σ H fun x H1=>a σ H1 fun l H2=>b σ H2 fun u H3=>r x l u H3 Q:=rfl
theorem du{R:Option Int->Hp->Prop}:tPart te σ H R=te σ H fun x H1=>∃ i,x=.int i/\R (some i) H1:=rfl
theorem bT{R:Option Int->Hp->Prop}:fR σ H R=R none H:=rfl
theorem dv{to ti:TE}{t:TSet}{v:V}{R:St->Hp->Prop}:gSub to ti t v σ H R=to σ H fun o H1=>ti σ H1 fun i H2=>t o i v H2 fun H3=>R σ H3:=rfl
theorem jL{r:V->Hp->VK->Prop}:tUn r te σ H Q=te σ H fun x H1=>r x H1 Q:=rfl
theorem dw:tFor (iStr tl) g tb D σ H=tl σ H fun x H1=>∃ z,x=.str z/\LoopR (Its z) g tb D σ H1:=rfl
theorem cp:tComp ix (iStr tl) g tt te σ H Q=tl σ H fun x H1=>∃ z,x=.str z/\CompR (Its z) g tt te (fun l H'=>Q (.ref l) H') (subσ ix σ) H1:=rfl
theorem bU:sComp k ix (iStr tl) g tt te D σ H=tl σ H fun x H1=>∃ z,x=.str z/\CompR (Its z) g tt te (fun l H'=>D.nx (σ.set k (some (.ref l))) H') (subσ ix σ) H1:=rfl
theorem FD{x:Str}:tyV K "str" (.str x) H:=rfl
theorem gf{i j:Str}:cEq K (.str i) (.str j) H Q=Q (.bl (decide (i=j))) H:=rfl
theorem gg{i j:Str}:cNe K (.str i) (.str j) H Q=Q (.bl (!decide (i=j))) H:=rfl
theorem dz{z:Str}:kLen [.str z] H Q=(z.length<=sizeLine/\Q (.int z.length) H):=rfl
theorem dA{i j:Str}:cAdd (.str i) (.str j) H Q=(i.length+j.length<=sizeLine/\Q (.str (i++j)) H):=rfl
theorem Iq{z:Str}{i:Int}:cIx (.str z) (.int i) H Q=(z.length<=sizeLine/\bnd (atI z.cps.toList i) fun c=>Q (.str ⟨#[c]⟩) H):=rfl
theorem dB{x y:Str}:kFind (.str x) [.str y] H Q=Q (.int (Txt.find x y)) H:=rfl
theorem F3{x y:Str}:va (.str x) [.str y] H Q=((y.length==0)=false/\x.length<=sizeLine/\(Txt.split x y).length<=sizeLine/\∀ l,H l=none->Q (.ref l) (upd H l (.lst ((Txt.split x y).map V.str)))):=rfl
theorem Ir{p:Addr}{i:Int}{v:V}{xs:List V}{R:Hp->Prop}(hp:H p=some (.lst xs))(h0:0<=i)(h1:i<xs.length)(h:R (upd H p (.lst (xs.set i.toNat v)))):cPut (.ref p) (.int i) v H R:=by
 unfold cPut;dsimp only;rw[hp];exact⟨h0,h1,h⟩
theorem sJ{p:Addr}{lo hi:Option Int}{xs:List V}(hp:H p=some (.lst xs))(h:∀ l,H l=none->Q (.ref l) (upd H l (.lst (cutV xs lo hi)))):kr (.ref p) lo hi H Q:=by
 show bnd (unL (H p)) _;rw[hp];exact h
end
def cBitI(g:Int->Int->Int):R2
 | .int i,.int j,H,Q=>Q (.int (g i j)) H
 | _,_,_,_=>False
def cShr:R2
 | .int i,.int j,H,Q=>0<=j/\Q (.int (i/2^j.toNat)) H
 | _,_,_,_=>False
abbrev cOr:R2:=cBitI Builtin.bitOr
section
variable{X:Cx}
theorem EW{o:Operator}{g:Int->Int->Int}(h0:OpR X (binaryOp o) (rI0 fun i j=>.int (g i j))):OpR X (binaryOp o) (cBitI g):=by
 intro LJ s σ H x y v u Q I rx ry h;unfold cBitI at h
 split at h
 . exact h0 LJ s σ H _ _ v u Q I rx ry ⟨_,_,rfl,rfl,h⟩
 . exact h.elim
theorem Hd:OpR X (binaryOp .BitOr) cOr:=EW Ic
theorem F4:OpR X (binaryOp .RShift) cShr:=by
 intro LJ s σ H x y v u Q I rx ry h;unfold cShr at h
 split at h
 . exact GU LJ s σ H _ _ v u Q I rx ry ⟨_,_,rfl,rfl,h.1,h.2⟩
 . exact h.elim
end
section
variable{H:Hp}{Q:VK}{i j:Int}
theorem gG{g:Int->Int->Int}:cBitI g (.int i) (.int j) H Q=Q (.int (g i j)) H:=rfl
theorem j7:cShr (.int i) (.int j) H Q=(0<=j/\Q (.int (i/2^j.toNat)) H):=rfl
end
section
variable{X:Cx}
def kInt:List V->Hp->VK->Prop
 | [.int i],H,Q=>Q (.int i) H
 | [.bl k],H,Q=>Q (.int (if k then 1 else 0)) H
 | _,_,_=>False
def oB:V->List V->Hp->VK->Prop
 | .int i,[],H,Q=>Q (.int (Builtin.Int.intBits i:Nat)) H
 | _,_,_,_=>False
theorem vc:MtR X "int.bit_length" oB:=by
 intro LJ s σ H x vs v us Q I rx rv h;unfold oB at h
 split at h
 . obtain⟨t,rfl⟩:=rx;cases rv;exact call_int_bit_length ⟨.int _,H,I.tok _,⟨_,rfl⟩,h⟩
 . exact h.elim
def cRepL:R2
 | .ref l,.int k,H,Q=>bnd (unM (H l)) fun xs=> -(2^63)<=k/\k<2^63/\xs.length*k.toNat<=sizeLine/\∀ p,H p=none->Q (.ref p) (upd H p (.lst (List.replicate k.toNat xs).flatten))
 | _,_,_,_=>False
theorem EX:OpR X (binaryOp .Mult) cRepL:=by
 intro LJ s σ H x y v u Q I rx ry h;unfold cRepL at h
 split at h
 . obtain⟨xs,e,h1,h2,h3,q⟩:=aZ h;exact G0 LJ s σ H _ _ v u Q I rx ry ⟨_,_,xs,rfl,rfl,gE e,h1,h2,h3,q⟩
 . exact h.elim
def kAll:List V->Hp->VK->Prop
 | [.ref p],H,Q=>bnd (unL (H p)) fun ys=>∃ bs:List Bool,ys=bs.map V.bl/\Q (.bl (bs.all id)) H
 | _,_,_=>False
theorem Dx(bs:List Bool):(List.range bs.length).all (fun i=>bs.getD i false)=bs.all id:=by
 rw[MA,L6,L6];constructor
 . intro h b hb;obtain⟨i,hi,e⟩:=Nw.mp hb;have:=h i (Mb.mpr hi);rw[List.getD,LW hi,e] at this;exact this
 . intro h i hi;have hi':i<bs.length:=Mb.mp hi;have:=h bs[i] (ME hi')
   simpa [List.getD,hi'] using this
theorem iN:bootBuiltins "all"=some (.builtin "all"):=by decide+kernel
theorem zw:bootBuiltins "sum"=some (.builtin "sum"):=by decide+kernel
theorem cM(hc:X.calm=true):CallR X (.builtin "all") kAll:=by
 intro LJ s σ H xs us Q I r h;unfold kAll at h
 split at h
 . rename_i p
   obtain⟨ys,e,bs,rfl,q⟩:=aZ h;obtain⟨u,rfl,ru⟩:=cG r;cases ru;obtain⟨LO,rv,pl,hz⟩:=I.list (qM e);have hl:=rv.length;rw[LV] at hl
   have hlt:p<s.heap.objs.size:=by
    obtain⟨o,h1,_⟩:=pl.isList;exact MC h1
   refine call_all_walkS (Oh pl.isList ?_);refine⟨s.heap.objs.size,_,_,_,LO.toArray.size,_,_,fun i=>bs.getD i false,rfl,(Walks.list (A:=X.A.in1) (I.ok.hd hc) s.heap.objs.size p (MT hlt) LO.toArray).toS,⟨⟨_,MQ _ rfl,rfl,rfl⟩,pl.isList.push _⟩,?_,fun s' hm=>?_⟩
   . intro i v s1 Q1 E1 hP hQ;have hv:LO[i]? =some v:=by simpa using hP
     obtain⟨x,hx,rx⟩:=rv.get' hv;obtain⟨b,hb,rfl⟩:∃ b,bs[i]? =some b/\V.bl b=x:=by simpa using hx
     cases rx;refine Ny ?_;have e3:bs.getD i false=b:=by simp[List.getD,hb]
     rw[← e3];exact hQ
   . refine⟨.bl _,H,I.walked (l:=p) hm,?_,q⟩;have e2:LO.toArray.size=bs.length:=by rw[Mw];exact hl.symm
     rw[e2,Dx];rfl
 . exact h.elim
def kSum:List V->Hp->VK->Prop
 | [.ref p],H,Q=>bnd (unL (H p)) fun ys=>∃ ns:List Int,ys=ns.map V.int/\(∀ x∈ns,0<=x/\x<=1000000)/\ns.length<=1000000/\Q (.int ns.sum) H
 | _,_,_=>False
theorem Dy:∀(ns:List Int),(∀ x∈ns,0<=x/\x<=1000000)->0<=ns.sum/\ns.sum<=1000000*ns.length
 | [],_=>by simp
 | n::r,h=>by
  have ih:=Dy r fun x hx=>h x (Mc _ hx);have h1:=h n Mf;rw[NZ,My];omega
theorem qQ(hc:X.calm=true):CallR X (.builtin "sum") kSum:=by
 intro LJ s σ H xs us Q I r h;unfold kSum at h
 split at h
 . rename_i p
   obtain⟨ys,e,ns,rfl,hb,hn,q⟩:=aZ h;obtain⟨u,rfl,ru⟩:=cG r;cases ru;obtain⟨LO,rv,pl,hz⟩:=I.list (qM e);have hl:=rv.length;rw[LV] at hl
   have hlt:p<s.heap.objs.size:=by
    obtain⟨o,h1,_⟩:=pl.isList;exact MC h1
   have e2:LO.toArray.size=ns.length:=by rw[Mw];exact hl.symm
   refine call_sum_walkS (Oh pl.isList ?_);refine⟨s.heap.objs.size,_,_,_,LO.toArray.size,_,_,fun i=>ns.getD i 0,rfl,(Walks.list (A:=X.A.in1) (I.ok.hd hc) s.heap.objs.size p (MT hlt) LO.toArray).toS,⟨⟨_,MQ _ rfl,rfl,rfl⟩,pl.isList.push _⟩,?_,?_,?_,fun s' t' hm=>?_⟩
   . intro b hb';show b < (s.heap.push _).objs.size;rw[NQ];simp only[Mn,NH,Pk] at hb';rcases hb' with rfl | rfl
     . exact Ou _
     . exact Nz hlt
   . intro i v hP;have hv:LO[i]? =some v:=by simpa using hP
     obtain⟨x,hx,rx⟩:=rv.get' hv;obtain⟨b,hb',rfl⟩:∃ b,ns[i]? =some b/\V.int b=x:=by simpa using hx
     obtain⟨t,rfl⟩:=rx;exact⟨t,by simp[List.getD,hb']⟩
   . intro j hj;rw[e2] at hj;refine⟨?_,?_⟩
     . have:=hb ns[j] (ME hj);have e3:ns.getD j 0=ns[j]:=by simp[List.getD,hj]
       show InLong (ns.getD j 0);rw[e3];exact⟨by omega,by omega⟩
     . rw[preSum_getD];have h1:=Dy (ns.take (j+1)) fun x hx=>hb x (List.mem_of_mem_take hx);have h2:(ns.take (j+1)).length<=ns.length:=by rw[Nb];omega
       exact⟨by omega,by omega⟩
   . refine⟨.int ns.sum,H,I.walked (l:=p) hm,⟨t',?_⟩,q⟩;rw[e2,preSum_getD,M0]
 . exact h.elim
def Itd(hi:Int)(n:Nat):It:=⟨fun i _=>i<n,fun i H x H'=>H'=H/\x=.int (hi-i),fun i _=>n<=i⟩
def iRngD(ta:TA):TI:=fun σ H R=>ta σ H fun vs H1=>∃ i j:Int,vs=[.int i,.int j,.int (-1)]/\(-(2^60)<=i/\i<2^60/\ -(2^60)<=j/\j<2^60)/\R (Itd i (i-j).toNat) H1
end
section
variable{K:Frag}{g:TG}{tb:TS}{D:Ends}{σ:St}{H:Hp}{ta:TA}{Q:VK}
theorem gH{k:Bool}:kInt [.bl k] H Q=Q (.int (if k then 1 else 0)) H:=rfl
theorem gI{i:Int}:kInt [.int i] H Q=Q (.int i) H:=rfl
theorem cQ{i:Int}:oB (.int i) [] H Q=Q (.int (Builtin.Int.intBits i:Nat)) H:=rfl
theorem ld{p:Addr}{bs:List Bool}(hp:H p=some (.lst (bs.map V.bl)))(h:Q (.bl (bs.all id)) H):kAll [.ref p] H Q:=by
 show bnd (unL (H p)) _;rw[hp];exact aV (a:=bs.map V.bl) rfl ⟨bs,rfl,h⟩
theorem Cc{p:Addr}{ns:List Int}(hp:H p=some (.lst (ns.map V.int)))(hb:∀ x∈ns,0<=x/\x<=1000000)(hn:ns.length<=1000000)(h:Q (.int ns.sum) H):kSum [.ref p] H Q:=by
 show bnd (unL (H p)) _;rw[hp];exact aV (a:=ns.map V.int) rfl ⟨ns,rfl,hb,hn,h⟩
theorem He{p:Addr}{xs:List V}{k:Int}(hp:H p=some (.lst xs))(h0:0<=k)(h1:k<=1000)(hn:xs.length<=1)(h:∀ l,H l=none->Q (.ref l) (upd H l (.lst (List.replicate k.toNat xs).flatten))):cRepL (.ref p) (.int k) H Q:=by
 show bnd (unM (H p)) _;rw[hp];refine aV (a:=xs) rfl ⟨by omega,by omega,?_,h⟩;refine MS (aD (Mi (OF _ hn) ?_));omega
theorem d7:tFor (iRngD ta) g tb D σ H=ta σ H fun vs H1=>∃ i j:Int,vs=[.int i,.int j,.int (-1)]/\(-(2^60)<=i/\i<2^60/\ -(2^60)<=j/\j<2^60)/\LoopR (Itd i (i-j).toNat) g tb D σ H1:=rfl
end
section
variable{X:Cx}
def Ite(K:Frag)(a:Addr):It:=
 ⟨fun i H=>∃ xs x,SqL K H a xs/\xs[i]? =some x,
  fun i H v H'=>∃ T x,v=.ref T/\H T=none/\H'=upd H T (.tup [.int i,x])/\∀ xs,SqL K H a xs->xs[i]? =some x,
  fun i H=>∃ xs,SqL K H a xs/\xs.length<=i⟩
def ESt(a e it:Addr)(i:Nat)(h:Heap):Prop:=(∃ old,IsEnum h e it i old)/\h.IsListIter it a i
theorem Dz{P:Program}{w:World}{K:Frag}{es:List Expr}{x1:Nat}{pos:Pos}(a e it:Addr):
  Turn P w K (.Tuple es x1 pos) (Ite K a) [e,it] e (ESt a e it) where
 mem:=by simp
 obj:=fun i h st c hc=>by
  obtain⟨⟨old,he⟩,⟨o1,e1,c1,f1⟩⟩:=st;simp only[Mn,NH,Pk] at hc;rcases hc with rfl | rfl
  . exact⟨_,he,fun v z=>by have z':Data.fields _=Data.cell v:=z;cases z'⟩
  . exact⟨_,e1,fun v z=>by rw[f1] at z;cases z⟩
 keep:=fun i h h' st k=>by
  obtain⟨⟨old,he⟩,h1⟩:=st;exact⟨⟨old,k e (by simp) _ he⟩,h1.at fun o q=>k it (by simp) o q⟩
 item:=by
  intro X hP hw hK hc i LJ s σ H E I hf st hg;subst hP hw hK;obtain⟨xs,x,hq1,hx⟩:=hg;obtain⟨its1,rv1,p1,hz1⟩:=I.list hq1;obtain⟨u1,hu1,ru1⟩:=rv1.get hx;obtain⟨⟨old,he⟩,⟨o1,e1,c1,f1⟩⟩:=id st;have hne:e≠it:=Ha he e1 rfl c1 (by decide);refine wpAny_pyNext_enum_item he ⟨o1,e1,c1,f1⟩ p1.isList (x:=u1) (by simpa using hu1) hne fun h' a1 a2 a3 a4 hk=>?_;refine⟨_,rfl,wpAny_letOwnedTupleGo_enum a1 fun h2 hz2 sb=>?_⟩;have hT:H s.heap.objs.size=none:=I.fresh;have lt:∀{c o},s.heap.get? c=some o->c≠s.heap.objs.size:=fun e=>MT (MC e)
  have kp:∀ c o,c∉[e,it]->s.heap.get? c=some o->h2.get? c=some o:=fun c o hc q=>by
   simp only[Mn,NH,Pk,not_or] at hc;exact sb.extBut _ _ hc.1 (hk c o hc.1 hc.2 q)
  have hTe:s.heap.objs.size≠e:=(lt he).symm;have gT:h2.get? s.heap.objs.size=some {cls:=.type "tuple",data:=.seq #[.int i s.toks,u1]}:=sb.extBut _ _ hTe a3;have nH:∀ c∈[e,it],H c=none:=fun c hc=>(hf c hc).1;refine⟨.ref s.heap.objs.size,upd H s.heap.objs.size (.tup [.int i,x]),I.call' (s':={s with heap:=h2,toks:=s.toks+1}) (ch:=[e,it]) rfl ⟨fun c o e n _ hx=>kp c o hx e,fun c o e n _ hx=>⟨o.slots,kp c o hx e⟩,fun c o e n _=>by rw[ai (lt e)];exact n,fun c o e hx=>⟨o,kp c o hx e⟩,fun c xs e=>by rw[ai (az e hT)];exact e,fun c o u e=>by rw[ai (az e hT)];exact e,fun c ps e=>⟨#[],by rw[ai (az e hT),e];simp⟩⟩ ?_ I.bare ?_,rfl,⟨_,x,rfl,hT,rfl,fun zs hz'=>by rw[I.list_inj hz' hq1];exact hx⟩,?_,?_⟩
  . intro c ob e;by_cases hb:c=s.heap.objs.size
    . subst hb;rw[ag] at e;cases e;exact⟨by show(2:Nat)<=sizeLine;exact MS (aD (by decide)),[.int i s.toks,u1],.cons ⟨_,rfl⟩ (.cons ru1 .nil),⟨_,gT,rfl,_,rfl⟩⟩
    . rw[ai hb] at e;refine(I.hok c ob e).stay (fun d w' hd g=>kp d w' ?_ g) (fun d g=>by rw[ai (az g hT)];exact g) fun d xs g=>by rw[ai (az g hT)];exact g
      intro hm;rcases hd with rfl | hd
      . rw[nH _ hm] at e;cases e
      . rw[nH _ hm] at hd;cases hd
  . intro c hc;obtain⟨f0,f1,f2,f3,f4,f5⟩:=hf c hc;exact⟨f3,f1,f4,f5⟩
  . exact⟨⟨_,hz2⟩,a2.extBut sb.extBut hne.symm⟩
  . intro c hc
    obtain⟨o,q⟩:∃ o,s.heap.get? c=some o:=by
     simp only[Mn,NH,Pk] at hc;rcases hc with rfl | rfl
     . exact⟨_,he⟩
     . exact⟨_,e1⟩
    rw[ai (lt q)];exact(hf c hc).1
 done:=by
  intro X hP hw hK hc i LJ s σ H E I hf st hg;subst hP hw hK;obtain⟨xs,hq1,hx⟩:=hg;obtain⟨its1,rv1,p1,hz1⟩:=I.list hq1;have hl1:=rv1.length;obtain⟨⟨old,he⟩,⟨o1,e1,c1,f1⟩⟩:=id st;have hend:its1.toArray[i]? =none:=by simp;omega
  obtain⟨f0,f1',f2,f3,f4,f5⟩:=hf it (by simp);exact wpAny_pyNext_enum_end (I.ok.hd hc) he ⟨o1,e1,c1,f1⟩ p1.isList hend fun h' eb=>⟨rfl,I.turned (t':=s.toks) (fun b o hb e=>eb b o hb e) f0 f1' f3 f4 f5⟩
 self:=fun _ _ _ _ _ st h=>by
  obtain⟨⟨old,he⟩,_⟩:=st;exact wpAny_pyIter_enum he h
def iEnum(K:Frag)(ta:TA):TI:=fun σ H R=>ta σ H fun vs H1=>∃ a,vs=[.ref a]/\(∃ xs,SqL K H1 a xs)/\R (Ite K a) H1
theorem zx:bootBuiltins "enumerate"=some (.type "enumerate"):=by decide+kernel
theorem wU{es:List Expr}{x1:Nat}{tpos:Pos}{e1:Expr}{ta:TA}{p pos:Pos}(hg:Gl X "enumerate")(hm:X.mg "enumerate"=none)(ha:PA X [e1] ta)(hs:starEach [e1] X.env=[(false,eval e1 X.env)]:=by rfl):
  PI X (.Tuple es x1 tpos) (.Call (.Name "enumerate" p) [e1] [] pos) (iEnum X.K ta):=by
 intro LJ s σ H R I h;refine Call_ (gD I hg hm zx (M5 (thn (ha pos LJ s σ H _ I h) fun us s1 ⟨vs,H1,I1,r1,q1⟩=>?_) hs rfl));obtain⟨a,rfl,⟨xs,hq1⟩,q⟩:=q1;obtain⟨u1,rfl,ru1⟩:=cG r1;cases ru1;obtain⟨its1,rv1,p1,hz1⟩:=I1.list hq1;refine call_enumerate_list p1.isList fun h' a1 a2 a3 hk=>?_;refine wpAny_pyIter_enum a1 ?_;have I2:Inv X LJ σ H1 {s1 with heap:=h',toks:=s1.toks}:=I1.kept hk;refine⟨s1.heap.objs.size+1,[s1.heap.objs.size+1,s1.heap.objs.size],ESt a (s1.heap.objs.size+1) s1.heap.objs.size,Ite X.K a,H1,rfl,I2,Dz a (s1.heap.objs.size+1) s1.heap.objs.size,⟨⟨_,a1⟩,a2⟩,fun c hc=>?_,q⟩
 have hge:s1.heap.objs.size<=c:=by
  simp only[Mn,NH,Pk] at hc;rcases hc with rfl | rfl <;> omega
 exact I1.fpOk hge (I1.hok.fresh hge)
end
section
variable{K:Frag}{g:TG}{tb:TS}{D:Ends}{σ:St}{H:Hp}{ta:TA}{Q:VK}{ix:List (Option Nat)}{tt:TT}{te:TE}{k:Nat}
theorem gJ:tFor (iEnum K ta) g tb D σ H=ta σ H fun vs H1=>∃ a,vs=[.ref a]/\(∃ xs,SqL K H1 a xs)/\LoopR (Ite K a) g tb D σ H1:=rfl
theorem d8:tComp ix (iEnum K ta) g tt te σ H Q=ta σ H fun vs H1=>∃ a,vs=[.ref a]/\(∃ xs,SqL K H1 a xs)/\CompR (Ite K a) g tt te (fun l H'=>Q (.ref l) H') (subσ ix σ) H1:=rfl
theorem cR:sComp k ix (iEnum K ta) g tt te D σ H=ta σ H fun vs H1=>∃ a,vs=[.ref a]/\(∃ xs,SqL K H1 a xs)/\CompR (Ite K a) g tt te (fun l H'=>D.nx (σ.set k (some (.ref l))) H') (subσ ix σ) H1:=rfl
theorem DA {a:Addr} {xs:List V} {fin:Addr->Hp->Prop} {σ0:St} {H1:Hp} (Pv:Addr->Nat->St->Hp->Prop) (h0:∀ l,H1 l=none->Pv l 0 σ0 (upd H1 l (.lst []))) (hq:∀ l i σ H,H1 l=none->i<=xs.length->Pv l i σ H->SqL K H a xs)
  (hs:∀ l i x T σ H,H1 l=none->xs[i]? =some x->Pv l i σ H->H T=none->g (.ref T) σ (upd H T (.tup [.int i,x])) fun σ2 H3=>tt σ2 H3 fun b H4=>if b=true then te σ2 H4 fun y H5=>∃ ys,H5 l=some (.lst ys)/\ys.length<sizeLine/\Pv l (i+1) σ2 (upd H5 l (.lst (ys++[y]))) else Pv l (i+1) σ2 H4)
  (hd:∀ l σ H,H1 l=none->Pv l xs.length σ H->fin l H):CompR (Ite K a) g tt te fin σ0 H1:=by
 intro l hl0;refine⟨fun i m σ H=>m=xs.length-i/\i<=xs.length/\Pv l i σ H,⟨xs.length,by simp,M2 _,h0 l hl0⟩,?_⟩;rintro i m σ H ⟨rfl,hi,p⟩;have q:=hq l i σ H hl0 hi p;by_cases hlt:i<xs.length
 . refine .inr ⟨⟨xs,xs[i],q,by simp[hlt]⟩,Pv l (i+1),fun σ' H' p'=>⟨xs.length - (i+1),by omega,rfl,hlt,p'⟩,fun v H' y=>?_⟩;obtain⟨T,x,rfl,hT,rfl,e⟩:=y;exact hs l i x T σ _ hl0 (e xs q) p hT
 . have e:i=xs.length:=by omega
   subst e;exact .inl ⟨⟨xs,q,Mu _⟩,hd l σ H hl0 p⟩
theorem pJ {a:Addr} {xs:List V} {fin:Addr->Hp->Prop} {σ0:St} {H1:Hp} {k1 k2:Nat} (b:Nat->Bool) (f:Nat->V) (hn:xs.length<=900) (hne:k1≠k2) (hq:SqL K H1 a xs)
  (ht:∀(i:Nat) x H R,xs[i]? =some x->Same H1 H->(∀ H',Same H H'->R (b i) H')->tt ((σ0.set k1 (some (.int (i:Int)))).set k2 (some x)) H R)
  (he:∀(i:Nat) x H Q,xs[i]? =some x->b i=true->Same H1 H->(∀ H',Same H H'->Q (f i) H')->te ((σ0.set k1 (some (.int (i:Int)))).set k2 (some x)) H Q)
  (hd:∀ l H,H1 l=none->Same H1 H->H l=some (.lst (((List.range xs.length).filter b).map f))->fin l H):
  CompR (Ite K a) (gTup K 2 (gCons (gName k1) (gCons (gName k2) gNil))) tt te fin σ0 H1:=by
 refine DA (xs:=xs) (fun l i σ H=>(σ=σ0\/∃ c1 c2,σ=(σ0.set k1 c1).set k2 c2)/\Same H1 H/\H l=some (.lst (((List.range i).filter b).map f))) (fun l hl=>⟨.inl rfl,fun b u e=>by rw[ai (az e hl)];exact e,by rw[ag];rfl⟩) (fun l i σ H _ _ p=>p.2.1.seq hq) ?_ (fun l σ H hl p=>hd l H hl p.2.1 p.2.2);rintro l i x T σ H hl hx ⟨hσ,s1,el⟩ hT;have hi:i<xs.length:=(L1.mp hx).1;have sT:Same H (upd H T (.tup [.int i,x])):=fun b u e=>by rw[ai (az e hT)];exact e
 refine⟨T,_,rfl,PQ ag,rfl,_,_,rfl,_,_,rfl,rfl,?_⟩
 have e:(σ.set k1 (some (.int i))).set k2 (some x)=(σ0.set k1 (some (.int i))).set k2 (some x):=by
  rcases hσ with rfl | ⟨c1,c2,rfl⟩
  . rfl
  . rw[List.set_comm _ _ (Pc hne),ND,ND,List.set_comm _ _ hne]
 show tt ((σ.set k1 (some (.int i))).set k2 (some x)) _ _;rw[e];refine ht i x _ _ hx (s1.trans sT) fun H2 s2=>?_;have el2:=s2 _ _ (sT _ _ el);have s12:=(s1.trans sT).trans s2;have own:∀{H3:Hp} {o:HO},Same H1 H3->Same H1 (upd H3 l o):=fun s b u e=>by rw[ai (az e hl)];exact s b u e
 have LS:∀ i,i<=900->(((List.range i).filter b).map f).length<sizeLine:=fun i hi=>by
  rw[LV];refine aD (Mi (Mh b _) ?_);rw[MR];omega
 cases hb:b i with
 | false=>
  rw[Md L7];refine⟨.inr ⟨_,_,rfl⟩,s12,?_⟩;rw[MV,MP,MN,hb]
  simpa using el2
 | true=>
  rw[Mp rfl];refine he i x H2 _ hx hb s12 fun H3 s3=>⟨_,s3 _ _ el2,LS i (by omega),.inr ⟨_,_,rfl⟩,own (s12.trans s3),?_⟩;rw[ag,MV,MP,MN,hb];simp
end
def rngL(i j:Int):List Int:=(List.range (j-i).toNat).map fun(k:Nat)=>i+(k:Int)
theorem jM(i j:Int):(rngL i j).length=(j-i).toNat:=by unfold rngL;simp
theorem tH:∀{xs:List V} {us:List Value},xs.length=us.length->(∀(i:Nat) x u,xs[i]? =some x->us[i]? =some u->RelV x u)->Vals xs us
 | [],[],_,_=>.nil
 | [],_::_,h,_=>by simp at h
 | _::_,[],h,_=>by simp at h
 | x::xs,u::us,h,f=>.cons (f 0 x u rfl rfl) (tH (by simpa using h) fun i y e h1 h2=>f (i+1) y e (by simpa using h1) (by simpa using h2))
theorem EY{i j:Int}{acc:Array Value}(h:ItemsOf (fun k v=>∃ t,v=.int (i+k*1) t) acc (j-i).toNat):Vals ((rngL i j).map V.int) acc.toList:=by
 refine tH (by rw[LV,jM,Ob];exact h.1.symm) fun k x u hx hu=>?_;obtain⟨t,rfl⟩:=h.2 k u (by simpa using hu);unfold rngL at hx;rw[MH,L9] at hx;by_cases hk:k < (j-i).toNat
 . rw[Nf hk] at hx;cases hx;exact⟨t,by rw[Int.mul_one]⟩
 . rw[Mt (by simpa using hk)] at hx;cases hx
section
variable{X:Cx}
def kj(ta:TA):TE:=fun σ H Q=>ta σ H fun vs H1=>∃ j:Int,vs=[.int j]/\ -(2^60)<=j/\j<=1000/\∀ l,H1 l=none->Q (.ref l) (upd H1 l (.lst ((rngL 0 j).map V.int)))
def DB(ta:TA):TE:=fun σ H Q=>ta σ H fun vs H1=>∃ i j:Int,vs=[.int i,.int j]/\(0<=i/\i<=1000/\ -(2^60)<=j/\j<=1000)/\∀ l,H1 l=none->Q (.ref l) (upd H1 l (.lst ((rngL i j).map V.int)))
theorem EZ {LJ:List (Addr × Obj)} {σ:St} {H1:Hp} {s1:Shared} {Q:VK} {i j:Int} {t u v:Tok} {tk:Nat} {A:Around} {E:Value->Shared->Prop} (hh:A.handled=none) (I1:Inv X LJ σ H1 s1) (h1:0<=i) (h2:i<=1000) (h3: -(2^60)<=j) (h4:j<=1000)
  (q:∀ l,H1 l=none->Q (.ref l) (upd H1 l (.lst ((rngL i j).map V.int)))):
  wpAny (model X.prog X.w) A (call (.type "list") [.ref s1.heap.objs.size]) (EP X LJ σ Q) E {s1 with heap:=s1.heap.push {cls:=.type "range",data:=.fields #[.int i t,.int j u,.int 1 v]},toks:=tk}:=by
 have I2:Inv X LJ σ H1 {s1 with heap:=s1.heap.push {cls:=.type "range",data:=.fields #[.int i t,.int j u,.int 1 v]},toks:=tk}:=I1.kept fun b o e=>Mv _ e;refine call_list_range (n:=(j-i).toNat) hh (IsRange.new ..) (small_one (by omega) (by omega) (by omega) (by omega)) (by rw[rangeSize_one];split <;> omega) (by omega) fun h' tk' acc' c' old hS' hacc=>?_;have LS:((rngL i j).map V.int).length<=sizeLine:=by rw[LV,jM];exact MS (aD (by omega))
 exact⟨.ref _,_,I2.laid (t':=tk') (o:=.lst ((rngL i j).map V.int)) old (Mu _) ⟨LS,acc'.toList,c',EY hacc,hS'⟩,rfl,q _ (I2.hok.fresh (Mu _))⟩
theorem nJ {a:Expr} {ta:TA} {p p2 pos pos2:Pos} (hc:X.calm=true) (hgl:Gl X "list") (hgr:Gl X "range") (hl:X.mg "list"=none) (hr:X.mg "range"=none) (ha:PA X [a] ta)
  (hs1:starEach [.Call (.Name "range" p2) [a] [] pos2] X.env=[(false,eval (.Call (.Name "range" p2) [a] [] pos2) X.env)]:=by rfl) (hs:starEach [a] X.env=[(false,eval a X.env)]:=by rfl):
  PE X (.Call (.Name "list" p) [.Call (.Name "range" p2) [a] [] pos2] [] pos) (kj ta):=by
 intro LJ s σ H Q I h;refine Nt (gD I hgl hl df ?_ (by decide) (by decide));refine M5 ?_ hs1 rfl;rw[hs1];show wpAny _ _ (spliced [(false,eval (.Call (.Name "range" p2) [a] [] pos2) X.env)]) _ _ s;refine Od ?_;refine Call_ (gD I hgr hr boot_range (M5 (thn (ha pos2 LJ s σ H _ I h) fun us s1 ⟨vs,H1,I1,r1,q1⟩=>?_) hs rfl));obtain⟨j,e,q1,q2,q⟩:=q1;subst e
 cases r1 with
 | cons r rr=>
  cases rr;obtain⟨t,rfl⟩:=r;refine call_range_1 ?_;refine Oi ?_;exact EZ (I.ok.hd hc) I1 (by omega) (by omega) q1 q2 q
end
section
variable{σ:St}{H:Hp}{Q:VK}{ta:TA}
theorem d9:kj ta σ H Q=ta σ H fun vs H1=>∃ j:Int,vs=[.int j]/\ -(2^60)<=j/\j<=1000/\∀ l,H1 l=none->Q (.ref l) (upd H1 l (.lst ((rngL 0 j).map V.int))):=rfl
theorem eh:DB ta σ H Q=ta σ H fun vs H1=>∃ i j:Int,vs=[.int i,.int j]/\(0<=i/\i<=1000/\ -(2^60)<=j/\j<=1000)/\∀ l,H1 l=none->Q (.ref l) (upd H1 l (.lst ((rngL i j).map V.int))):=rfl
end
end L2
namespace L2
def besL(h w c:Int):List Int:=(if 0<c/w then [c-w] else [])++(if 0<c%w then [c-1] else [])++(if c%w<w-1 then [c+1] else [])++(if c/w<h-1 then [c+w] else [])
inductive RC(h w:Int)(cs:List Int)(st:Int):Int->Prop
 | start:st∈cs->RC h w cs st st
 | step {x y:Int}:RC h w cs st x->y∈besL h w x->y∈cs->RC h w cs st y
variable{h w x:Int}{cs:List Int}
theorem RC.mem{st:Int}(r:RC h w cs st x):x∈cs:=by cases r <;> assumption
theorem RC.st{st:Int}(r:RC h w cs st x):st∈cs:=by
 induction r with
 | start h=>exact h
 | step _ _ _ ih=>exact ih
theorem dI:∀{xs ys:List Int},xs.Nodup->(∀ x∈xs,x∈ys)->xs.length<=ys.length
 | [],_,_,_=>M2 _
 | x::xs,ys,nd,h=>by
  have hx:=h x Mf;have nd':=M6.mp nd
  have ih:=dI (xs:=xs) (ys:=ys.erase x) nd'.2 fun y hy=>by
   have ne:y≠x:=fun e=>nd'.1 (e ▸ hy);exact(List.mem_erase_of_ne ne).mpr (h y (Mc _ hy))
  rw[List.length_erase_of_mem hx] at ih;have:0<ys.length:=Om hx;simp only[My];omega
structure BI(h w:Int)(cs:List Int)(st:Int)(fs:List Int)(pl:Nat):Prop where
 nd:fs.Nodup
 rc:∀ x∈fs,RC h w cs st x
 hst:st∈fs
 le:pl<=fs.length
 cl:∀(i:Nat) (x y:Int),i<pl->fs[i]? =some x->y∈besL h w x->y∈cs->y∈fs
variable{pl:Nat}
theorem BI.len{st:Int}{fs:List Int}(b:BI h w cs st fs pl):fs.length<=cs.length:=dI b.nd fun x hx=>(b.rc x hx).mem
theorem BI.start{st:Int}(hs:st∈cs):BI h w cs st [st] 0:=
 ⟨by simp,fun x hx=>by rw[Ma.mp hx];exact .start hs,by simp,M2 _,fun i x y hi=>absurd hi (Nat.not_lt_zero _)⟩
theorem BI.done{st:Int}{fs:List Int}(b:BI h w cs st fs pl)(e:¬ pl<fs.length)(x:Int):x∈fs↔RC h w cs st x:=by
 refine⟨b.rc x,fun r=>?_⟩
 induction r with
 | start _=>exact b.hst
 | step r hy hc ih=>
  obtain⟨i,hi⟩:=OG ih;have hlt:i<fs.length:=(L1.mp hi).1;exact b.cl i _ _ (by omega) hi hy hc
def addC(cs fs:List Int)(y:Int):List Int:=if y∈cs/\¬ y∈fs then fs++[y] else fs
structure BJ(h w:Int)(cs:List Int)(st:Int)(f0:List Int)(pl:Nat)(bs:List Int)(fs:List Int):Prop where
 nd:fs.Nodup
 rc:∀ x∈fs,RC h w cs st x
 pre:f0 <+:fs
 al:∀ y∈bs,y∈cs->y∈fs
theorem BJ.zero{st:Int}{fs:List Int}(b:BI h w cs st fs pl):BJ h w cs st fs pl [] fs:=⟨b.nd,b.rc,List.prefix_refl _,fun y hy=>nomatch hy⟩
theorem BJ.more{st:Int}{f0 fs bs:List Int}{y:Int}(j:BJ h w cs st f0 pl bs fs)(hx:RC h w cs st x)(hy:y∈besL h w x):BJ h w cs st f0 pl (bs++[y]) (addC cs fs y):=by
 unfold addC
 split
 . rename_i hc
   refine⟨?_,fun z hz=>?_,j.pre.trans (List.prefix_append _ _),fun z hz hzc=>?_⟩
   . refine N0.mpr ⟨j.nd,by simp,fun a ha b hb=>?_⟩;rw[Ma.mp hb];intro e;exact hc.2 (e ▸ ha)
   . rcases Mj.mp hz with hz | hz
     . exact j.rc z hz
     . rw[Ma.mp hz];exact .step hx hy hc.1
   . rcases Mj.mp hz with hz | hz
     . exact N4 _ (j.al z hz hzc)
     . rw[Ma.mp hz];simp
 . rename_i hc
   refine⟨j.nd,j.rc,j.pre,fun z hz hzc=>?_⟩;rcases Mj.mp hz with hz | hz
   . exact j.al z hz hzc
   . rw[Ma.mp hz] at hzc ⊢;exact Decidable.byContradiction fun n=>hc ⟨hzc,n⟩
theorem BJ.done{st:Int}{f0 fs:List Int}(b:BI h w cs st f0 pl)(hx:f0[pl]? =some x)(j:BJ h w cs st f0 pl (besL h w x) fs):BI h w cs st fs (pl+1):=by
 have hlt:pl<f0.length:=(L1.mp hx).1;have hle:=j.pre.length_le
 have get:∀ i,i<f0.length->fs[i]? =f0[i]? :=fun i hi=>by
  obtain⟨t,e⟩:=j.pre;rw[← e,MG hi]
 refine⟨j.nd,j.rc,j.pre.subset b.hst,by omega,fun i z y hi hz hy hc=>?_⟩;rw[get i (by omega)] at hz;by_cases e:i<pl
 . exact j.pre.subset (b.cl i z y e hz hy hc)
 . have:i=pl:=by omega
   subst this;rw[hx] at hz;cases hz;exact j.al y hy hc
theorem DC{rs fs:List Int}(p:rs.Perm fs)(s:rs.Pairwise (· <=·))(nd:fs.Nodup):rs.Pairwise (· < ·):=by
 have nd':rs.Nodup:=p.nodup_iff.mpr nd;refine(s.and nd').imp ?_;intro a b h;have:=h.1;have:=h.2;omega
theorem vd:∀{xs ys:List Int},xs.Pairwise (· < ·)->ys.Pairwise (· < ·)->(∀ z,z∈xs↔z∈ys)->xs=ys
 | [],[],_,_,_=>rfl
 | [],y::ys,_,_,h=>absurd ((h y).mpr Mf) (fun q=>nomatch q)
 | x::xs,[],_,_,h=>absurd ((h x).mp Mf) (fun q=>nomatch q)
 | x::xs,y::ys,hx,hy,h=>by
  have hx':=O5.mp hx;have hy':=O5.mp hy
  have e:x=y:=by
   rcases Mn.mp ((h x).mp Mf) with e | m1
   . exact e
   . rcases Mn.mp ((h y).mpr Mf) with e | m2
     . exact e.symm
     . have:=hy'.1 x m1;have:=hx'.1 y m2;omega
  subst e;refine congrArg (x::·) (vd hx'.2 hy'.2 fun z=>⟨fun m=>?_,fun m=>?_⟩)
  . rcases Mn.mp ((h z).mp (Mc _ m)) with e | q
    . have:=hx'.1 z m;omega
    . exact q
  . rcases Mn.mp ((h z).mpr (Mc _ m)) with e | q
    . have:=hy'.1 z m;omega
    . exact q
theorem RC.trans{a b c:Int}(r:RC h w cs a b)(q:RC h w cs b c):RC h w cs a c:=by
 induction q with
 | start _=>exact r
 | step _ hy hc ih=>exact .step ih hy hc
theorem F5{y:Int}:y∈besL h w x↔(0<x/w/\y=x-w)\/(0<x%w/\y=x-1)\/(x%w<w-1/\y=x+1)\/(x/w<h-1/\y=x+w):=by
 unfold besL;simp only[Mj];constructor
 . rintro(((q | q) | q) | q)
   . split at q
     . simp at q;exact .inl ⟨by assumption,q⟩
     . cases q
   . split at q
     . simp at q;exact .inr (.inl ⟨by assumption,q⟩)
     . cases q
   . split at q
     . simp at q;exact .inr (.inr (.inl ⟨by assumption,q⟩))
     . cases q
   . split at q
     . simp at q;exact .inr (.inr (.inr ⟨by assumption,q⟩))
     . cases q
 . rintro(⟨q,rfl⟩ | ⟨q,rfl⟩ | ⟨q,rfl⟩ | ⟨q,rfl⟩)
   . rw[Mp q];simp
   . rw[Mp q];simp
   . rw[Mp q];simp
   . rw[Mp q];simp
theorem E2{y:Int}(w0:0<w)(x0:0<=x)(x1:x<h*w)(m:y∈besL h w x):x∈besL h w y:=by
 have m0:=MJ x (Int.ne_of_gt w0);have m1:=MF x w0;have e:=Os x w;have q0:0<=x/w:=Int.ediv_nonneg x0 (Int.le_of_lt w0)
 have q1:x/w<h:=by
  refine Int.ediv_lt_of_lt_mul w0 ?_;exact x1
 rw[F5] at m ⊢;generalize x/w=q at*;generalize x%w=r at*;rcases m with ⟨c,rfl⟩ | ⟨c,rfl⟩ | ⟨c,rfl⟩ | ⟨c,rfl⟩
 . have u:=(N5 (a:=x-w) (q:=q-1) (r:=r) w0).mpr ⟨by rw[Int.mul_sub];omega,m0,m1⟩;exact .inr (.inr (.inr ⟨by rw[u.1];omega,by omega⟩))
 . have u:=(N5 (a:=x-1) (q:=q) (r:=r-1) w0).mpr ⟨by omega,by omega,by omega⟩;exact .inr (.inr (.inl ⟨by rw[u.2];omega,by omega⟩))
 . have u:=(N5 (a:=x+1) (q:=q) (r:=r+1) w0).mpr ⟨by omega,by omega,by omega⟩;exact .inr (.inl ⟨by rw[u.2];omega,by omega⟩)
 . have u:=(N5 (a:=x+w) (q:=q+1) (r:=r) w0).mpr ⟨by rw[Int.mul_add];omega,m0,m1⟩;exact .inl ⟨by rw[u.1];omega,by omega⟩
theorem RC.symm{a b:Int}(w0:0<w)(hcs:∀ x∈cs,0<=x/\x<h*w)(r:RC h w cs a b):RC h w cs b a:=by
 induction r with
 | start m=>exact .start m
 | step r hy hc ih=>
  have hx:=r.mem;exact RC.trans (.step (.start hc) (E2 w0 (hcs _ hx).1 (hcs _ hx).2 hy) hx) ih
end L2
namespace L2
open PySem PySem.Spec PyProof.Rows
def wk9(t:String):Lean.MacroM Lean.Syntax:=do
 let x<-(t.splitOn " ").toArray.mapM fun s=>`(Lean.Parser.Tactic.simpLemma|$(Lean.mkIdent s.toName):term)
 `(tactic|(first|simp only[$x,*]|dsimp only|skip))
def ws1:String:="aJ cH bW aY dg dh w_c gm cI di cJ dj w_b w_not ff jI dk dm fS fg cK jJ dn fU fh iL fV cL dq dr dt ck cm bQ bR bS bA fW fX fY f6 f7 f8 f9 ga gb gc gd ge jK du bT dv jL dw cp bU gf gg dz dA dB List.getElem?_cons_zero List.getElem?_cons_succ Option.some.injEq exists_eq_left' exists_eq_left List.set_cons_zero List.set_cons_succ bH V.int.injEq V.bl.injEq V.ref.injEq V.str.injEq List.nil_append List.cons_append"
local macro_rules|`(tactic|walk_at "w")=>wk9 ws1
local macro_rules|`(tactic|symm)=>`(tactic|walk_at "w")
theorem aN{n:Nat}(h:n<=1000):n<=sizeLine:=MS (aD h)
theorem lnR{n:Nat}(h:Nat.ble n 1000=true):n<=sizeLine:=aN (MY h)
def IsFl(H:Hp)(a:Addr)(h w g:Int):Prop:=H a=some (.tup [.int h,.int w,.int g])
variable{H:Hp}{p:Addr}
theorem Same.laid{H':Hp}{o:HO}(s:Same H H')(h:H' p=none):Same H (upd H' p o):=fun b u e=>by
 rw[ai (az (s b u e) h)];exact s b u e
theorem aS{U:Addr}(O:HO)(h:H U=none):∃ z,upd H U O=z/\Same H z/\z U=some O:=⟨_,rfl,(L3 H).laid h,ag⟩
theorem Same.own{H':Hp}{o:HO}(s:Same H H')(h:H p=none):Same H (upd H' p o):=fun b u e=>by
 rw[ai (az e h)];exact s b u e
variable{l:List Int}{i:Nat}
theorem eI{x:Int}(h:l[i]? =some x):l.getD i 0=x:=by
 rw[List.getD,h];rfl
variable{ns:List Int}
theorem pK{k:Int}(h0:0<=k)(h1:k<ns.length):atI (ns.map V.int) k=some (.int (ns.getD k.toNat 0)):=by
 have e:((k.toNat:Nat):Int)=k:=Int.toNat_of_nonneg h0;have hlt:k.toNat<ns.length:=by omega
 have:(ns.map V.int)[k.toNat]? =some (.int (ns.getD k.toNat 0)):=by
  rw[L9,LW hlt];simp[List.getD,hlt]
 have q:=d5 this;rw[e] at q;exact q
theorem a9{α:Type}(l:List α):l.filter (fun _=>true)=l:=OT.mpr fun _ _=>rfl
theorem aQ{y:V}(h:(l.map V.int)[i]? =some y):∃ z,l[i]? =some z/\y=.int z:=by
 rw[L9] at h
 cases e:l[i]? with
 | none=>rw[e] at h;cases h
 | some z=>rw[e] at h;cases h;exact⟨z,rfl,rfl⟩
theorem br{l:List Addr}{y:V}(h:(l.map V.ref)[i]? =some y):∃ z,l[i]? =some z/\y=.ref z:=by
 rw[L9] at h
 cases e:l[i]? with
 | none=>rw[e] at h;cases h
 | some z=>rw[e] at h;cases h;exact⟨z,rfl,rfl⟩
theorem qR{h w:Int}(h0:1<=h)(h1:h<=6):CMul h w:=.inl ⟨by omega,by omega⟩
theorem dJ{ps:List Addr}{k:Int}(h0:0<=k)(h:ps[k.toNat]? =some p):atI (ps.map V.ref) k=some (.ref p):=by
 have e:((k.toNat:Nat):Int)=k:=Int.toNat_of_nonneg h0;have q0:(ps.map V.ref)[k.toNat]? =some (.ref p):=by rw[L9,h];rfl
 have q:=d5 q0;rw[e] at q;exact q
section
variable{k:Nat}{lo:Int}{n:Nat}{tt:TT}{te:TE}{fin:Addr->Hp->Prop}{σ0:St}{H1:Hp}{K:Frag}{a:Addr}
theorem lI{n i:Nat}(b:Nat->Bool)(h:i<n)(hn:n<=900):((List.range i).filter b).length<=900:=by
 have:=Mh b (List.range i);rw[MR] at this;omega
theorem tI (b:Nat->Bool) (f:Nat->V) (hn:n<=900)
  (ht:∀ i H R,i<n->Same H1 H->(∀ H',Same H H'->R (b i) H')->tt (σ0.set k (some (.int (lo+i)))) H R)
  (he:∀ i H Q,i<n->b i=true->Same H1 H->(∀ H',Same H H'->Q (f i) H')->te (σ0.set k (some (.int (lo+i)))) H Q)
  (hd:∀ l H,H1 l=none->Same H1 H->H l=some (.lst (((List.range n).filter b).map f))->fin l H):
  CompR (Itr lo n) (gName k) tt te fin σ0 H1:=by
 refine pI (fun l i σ H=>(σ=σ0\/∃ cv,σ=σ0.set k cv)/\Same H1 H/\H l=some (.lst (((List.range i).filter b).map f))) (fun l hl=>⟨.inl rfl,(L3 H1).laid hl,by rw[ag];rfl⟩) ?_ (fun l σ H hl p=>hd l H hl p.2.1 p.2.2);rintro l i σ H hl hi ⟨hσ,s1,el⟩;rw[aY]
 have e:σ.set k (some (.int (lo+i)))=σ0.set k (some (.int (lo+i))):=by
  rcases hσ with rfl | ⟨cv,rfl⟩
  . rfl
  . exact ND ..
 rw[e];refine ht i H _ hi s1 fun H2 s2=>?_;have el2:=s2 _ _ el
 cases hb:b i with
 | false=>
  rw[Md L7];refine⟨.inr ⟨_,rfl⟩,s1.trans s2,?_⟩;rw[MV,MP,MN,hb]
  simpa using el2
 | true=>
  rw[Mp rfl];refine he i H2 _ hi hb (s1.trans s2) fun H3 s3=>⟨_,s3 _ _ el2,by rw[LV];exact aD (Mi (lI b hi hn) (by decide)),.inr ⟨_,rfl⟩,((s1.trans s2).trans s3).own hl,?_⟩;rw[ag,MV,MP,MN,hb];simp
theorem bI {xs:List V} (b:Nat->Bool) (f:Nat->V) (hn:xs.length<=900) (hq:SqL K H1 a xs)
  (ht:∀ i x H R,xs[i]? =some x->Same H1 H->(∀ H',Same H H'->R (b i) H')->tt (σ0.set k (some x)) H R)
  (he:∀ i x H Q,xs[i]? =some x->b i=true->Same H1 H->(∀ H',Same H H'->Q (f i) H')->te (σ0.set k (some x)) H Q)
  (hd:∀ l H,H1 l=none->Same H1 H->H l=some (.lst (((List.range xs.length).filter b).map f))->fin l H):
  CompR (Itl K a) (gName k) tt te fin σ0 H1:=by
 refine qO (xs:=xs) (fun l i σ H=>(σ=σ0\/∃ cv,σ=σ0.set k cv)/\Same H1 H/\H l=some (.lst (((List.range i).filter b).map f))) (fun l hl=>⟨.inl rfl,(L3 H1).laid hl,by rw[ag];rfl⟩) (fun l i σ H _ _ p=>p.2.1.seq hq) ?_ (fun l σ H hl p=>hd l H hl p.2.1 p.2.2);rintro l i x σ H hl hx ⟨hσ,s1,el⟩;have hi:i<xs.length:=(L1.mp hx).1;rw[aY]
 have e:σ.set k (some x)=σ0.set k (some x):=by
  rcases hσ with rfl | ⟨cv,rfl⟩
  . rfl
  . exact ND ..
 rw[e];refine ht i x H _ hx s1 fun H2 s2=>?_;have el2:=s2 _ _ el
 cases hb:b i with
 | false=>
  rw[Md L7];refine⟨.inr ⟨_,rfl⟩,s1.trans s2,?_⟩;rw[MV,MP,MN,hb]
  simpa using el2
 | true=>
  rw[Mp rfl];refine he i x H2 _ hx hb (s1.trans s2) fun H3 s3=>⟨_,s3 _ _ el2,by rw[LV];exact aD (Mi (lI b hi hn) (by decide)),.inr ⟨_,rfl⟩,((s1.trans s2).trans s3).own hl,?_⟩;rw[ag,MV,MP,MN,hb];simp
theorem AQ (b:Nat->Bool) (f:Nat->Int) (hn:n<=900)
  (ht:∀ i H R,i<n->Same H1 H->(∀ H',Same H H'->R (b i) H')->tt (σ0.set k (some (.int (lo+i)))) H R)
  (he:∀ i H Q,i<n->b i=true->Same H1 H->(∀ H',Same H H'->Q (.int (f i)) H')->te (σ0.set k (some (.int (lo+i)))) H Q)
  (hd:∀ l H,H1 l=none->Same H1 H->H l=some (.lst ((((List.range n).filter b).map f).map V.int))->fin l H):
  CompR (Itr lo n) (gName k) tt te fin σ0 H1:=
 tI b (fun i=>.int (f i)) hn ht he fun l H hl s1 el=>hd l H hl s1 (by rw[MH];exact el)
theorem DD(b:Int->Bool)(f:Int->Int)(xs:List Int):((List.range xs.length).filter fun i=>b (xs.getD i 0)).map (fun i=>V.int (f (xs.getD i 0)))=((xs.filter b).map f).map V.int:=by
 have e:xs=(List.range xs.length).map fun i=>xs.getD i 0:=by
  refine No fun i=>?_;rw[L9];by_cases h:i<xs.length
  . rw[Nf h,LW h];simp[List.getD,h]
  . rw[Mt (by omega),Mt (by simpa using h)];rfl
 conv=>rhs;rw[e]
 rw[ON,MH,MH];rfl
theorem bf {xs:List Int} (b:Int->Bool) (f:Int->Int) (hn:xs.length<=900) (hq:SqL K H1 a (xs.map V.int))
  (ht:∀ x H R,x∈xs->Same H1 H->(∀ H',Same H H'->R (b x) H')->tt (σ0.set k (some (.int x))) H R)
  (he:∀ x H Q,x∈xs->b x=true->Same H1 H->(∀ H',Same H H'->Q (.int (f x)) H')->te (σ0.set k (some (.int x))) H Q)
  (hd:∀ l H,H1 l=none->Same H1 H->H l=some (.lst (((xs.filter b).map f).map V.int))->fin l H):
  CompR (Itl K a) (gName k) tt te fin σ0 H1:=by
 refine bI (xs:=xs.map V.int) (fun i=>b (xs.getD i 0)) (fun i=>.int (f (xs.getD i 0))) (by rw[LV];exact hn) hq ?_ ?_ ?_
 . intro i x H R hx s1 h;obtain⟨z,hz,rfl⟩:=aQ hx;rw[eI hz] at h;exact ht z H R (L5 hz) s1 h
 . intro i x H Q hx hb s1 h;obtain⟨z,hz,rfl⟩:=aQ hx;rw[eI hz] at h hb;exact he z H Q (L5 hz) hb s1 h
 . intro l H hl s1 el;refine hd l H hl s1 ?_;rw[LV] at el;rw[el,DD]
structure NewAt(H1 H:Hp)(l:Addr)(as:List Addr)(os:List HO):Prop where
 len:as.length=os.length
 nd:as.Nodup
 nl:l∉as
 fr:∀ a∈as,H1 a=none
 at_:∀(j:Nat) (a:Addr) (o:HO),as[j]? =some a->os[j]? =some o->H a=some o
theorem NewAt.nil{H1 H:Hp}{l:Addr}:NewAt H1 H l [] [] where
 len:=rfl
 nd:=On
 nl:=by simp
 fr:=fun a h=>nomatch h
 at_:=fun j a o h=>by simp at h
theorem NewAt.same{H1 H H':Hp}{l:Addr}{as:List Addr}{os:List HO}(x:NewAt H1 H l as os)(s:Same H H'):NewAt H1 H' l as os:=
 ⟨x.len,x.nd,x.nl,x.fr,fun j a o h1 h2=>s _ _ (x.at_ j a o h1 h2)⟩
theorem NewAt.mem{H1 H:Hp}{l:Addr}{as:List Addr}{os:List HO}(x:NewAt H1 H l as os){a:Addr}(h:a∈as):∃ o,H a=some o:=by
 obtain⟨j,hj,e⟩:=Nw.mp h;have hj2:j<os.length:=by rw[← x.len];exact hj
 exact⟨os[j],x.at_ j a os[j] (by rw[LW hj,e]) (LW hj2)⟩
theorem NewAt.more{H1 H H2:Hp}{l p:Addr}{as:List Addr}{os:List HO}{o u:HO}(x:NewAt H1 H l as os)(s1:Same H1 H)(s:Same H H2)(hp:H p=none)(e:H2 p=some o)(hl:H l=some u)(o':HO):NewAt H1 (upd H2 l o') l (as++[p]) (os++[o]):=by
 have npl:p≠l:=fun z=>by rw[z,hl] at hp;cases hp
 refine⟨by simp[x.len],?_,?_,?_,?_⟩
 . refine N0.mpr ⟨x.nd,by simp,fun a ha b hb z=>?_⟩;rw[Ma.mp hb] at z;obtain⟨o2,e2⟩:=x.mem ha;rw[z,hp] at e2;cases e2
 . intro hm;rcases Mj.mp hm with hm | hm
   . exact x.nl hm
   . exact npl (Ma.mp hm).symm
 . intro a ha;rcases Mj.mp ha with ha | ha
   . exact x.fr a ha
   . rw[Ma.mp ha]
     cases q:H1 p with
     | none=>rfl
     | some v=>rw[s1 _ _ q] at hp;cases hp
 . intro j a o2 h1 h2;have LS:=x.len;by_cases hj:j<as.length
   . rw[MG hj] at h1;rw[MG (by omega)] at h2;have nal:a≠l:=fun z=>x.nl (z ▸ L5 h1);rw[ai nal];exact s _ _ (x.at_ j a o2 h1 h2)
   . rw[MO (by omega)] at h1;rw[MO (by omega)] at h2
     have e0:j-as.length=0:=by
      have:=(L1.mp h1).1;simp at this;omega
     rw[e0] at h1;rw[show j-os.length=0 by omega] at h2;simp at h1 h2;subst h1 h2;rw[ai npl];exact e
theorem nK (b:Nat->Bool) (o:Nat->HO) (hn:n<=900)
  (ht:∀ i H R,i<n->Same H1 H->(∀ H',Same H H'->R (b i) H')->tt (σ0.set k (some (.int (lo+i)))) H R)
  (he:∀ i H Q,i<n->b i=true->Same H1 H->(∀ a H',Same H H'->H a=none->H' a=some (o i)->Q (.ref a) H')->te (σ0.set k (some (.int (lo+i)))) H Q)
  (hd:∀ l as H,H1 l=none->Same H1 H->H l=some (.lst (as.map V.ref))->NewAt H1 H l as (((List.range n).filter b).map o)->fin l H):
  CompR (Itr lo n) (gName k) tt te fin σ0 H1:=by
 refine pI (fun l i σ H=>(σ=σ0\/∃ cv,σ=σ0.set k cv)/\Same H1 H/\∃ as:List Addr,H l=some (.lst (as.map V.ref))/\NewAt H1 H l as (((List.range i).filter b).map o)) (fun l hl=>⟨.inl rfl,(L3 H1).laid hl,[],by rw[ag];rfl,NewAt.nil⟩) ?_ (fun l σ H hl ⟨_,s1,as,el,x⟩=>hd l as H hl s1 el x);rintro l i σ H hl hi ⟨hσ,s1,as,el,x⟩;rw[aY]
 have e:σ.set k (some (.int (lo+i)))=σ0.set k (some (.int (lo+i))):=by
  rcases hσ with rfl | ⟨cv,rfl⟩
  . rfl
  . exact ND ..
 rw[e];refine ht i H _ hi s1 fun H2 s2=>?_;have el2:=s2 _ _ el;have x2:=x.same s2;have s12:=s1.trans s2
 cases hb:b i with
 | false=>
  rw[Md L7];refine⟨.inr ⟨_,rfl⟩,s12,as,el2,?_⟩;rw[MV,MP,MN,hb]
  simpa using x2
 | true=>
  rw[Mp rfl];refine he i H2 _ hi hb s12 fun p H3 s3 hp ep=>⟨_,s3 _ _ el2,?_,.inr ⟨_,rfl⟩,(s12.trans s3).own hl,as++[p],?_,?_⟩
  . rw[LV,x2.len,LV];exact aD (Mi (lI b hi hn) (by decide))
  . rw[ag];simp
  . have y:=x2.more s12 s3 hp ep el2 (.lst (as.map V.ref++[V.ref p]));rw[MV,MP,MN,hb]
    simpa using y
theorem pL {xs:List V} (b:Nat->Bool) (o:Nat->HO) (hn:xs.length<=900) (hq:SqL K H1 a xs)
  (ht:∀ i x H R,xs[i]? =some x->Same H1 H->(∀ H',Same H H'->R (b i) H')->tt (σ0.set k (some x)) H R)
  (he:∀ i x H Q,xs[i]? =some x->b i=true->Same H1 H->(∀ a H',Same H H'->H a=none->H' a=some (o i)->Q (.ref a) H')->te (σ0.set k (some x)) H Q)
  (hd:∀ l as H,H1 l=none->Same H1 H->H l=some (.lst (as.map V.ref))->NewAt H1 H l as (((List.range xs.length).filter b).map o)->fin l H):
  CompR (Itl K a) (gName k) tt te fin σ0 H1:=by
 refine qO (xs:=xs) (fun l i σ H=>(σ=σ0\/∃ cv,σ=σ0.set k cv)/\Same H1 H/\∃ as:List Addr,H l=some (.lst (as.map V.ref))/\NewAt H1 H l as (((List.range i).filter b).map o)) (fun l hl=>⟨.inl rfl,(L3 H1).laid hl,[],by rw[ag];rfl,NewAt.nil⟩) (fun l i σ H _ _ p=>p.2.1.seq hq) ?_ (fun l σ H hl ⟨_,s1,as,el,x⟩=>hd l as H hl s1 el x);rintro l i y σ H hl hy ⟨hσ,s1,as,el,x⟩;have hi:i<xs.length:=(L1.mp hy).1;rw[aY]
 have e:σ.set k (some y)=σ0.set k (some y):=by
  rcases hσ with rfl | ⟨cv,rfl⟩
  . rfl
  . exact ND ..
 rw[e];refine ht i y H _ hy s1 fun H2 s2=>?_;have el2:=s2 _ _ el;have x2:=x.same s2;have s12:=s1.trans s2
 cases hb:b i with
 | false=>
  rw[Md L7];refine⟨.inr ⟨_,rfl⟩,s12,as,el2,?_⟩;rw[MV,MP,MN,hb]
  simpa using x2
 | true=>
  rw[Mp rfl];refine he i y H2 _ hy hb s12 fun p H3 s3 hp ep=>⟨_,s3 _ _ el2,?_,.inr ⟨_,rfl⟩,(s12.trans s3).own hl,as++[p],?_,?_⟩
  . rw[LV,x2.len,LV];exact aD (Mi (lI b hi hn) (by decide))
  . rw[ag];simp
  . have z:=x2.more s12 s3 hp ep el2 (.lst (as.map V.ref++[V.ref p]));rw[MV,MP,MN,hb]
    simpa using z
end
theorem DVs.of_get{K:Frag}{H:Hp}:∀{xs:List V} {ds:List PyData},xs.length=ds.length->(∀(i:Nat) x d,xs[i]? =some x->ds[i]? =some d->DV K H x d)->DVs K H xs ds
 | [],[],_,_=>.nil
 | [],_::_,h,_=>by simp at h
 | _::_,[],h,_=>by simp at h
 | x::xs,d::ds,h,f=>.cons (f 0 x d rfl rfl) (DVs.of_get (by simpa using h) fun i y e h1 h2=>f (i+1) y e (by simpa using h1) (by simpa using h2))
theorem wV:∀{ds:List PyData},(∀ d∈ds,PyData.canLay0 d=true)->PyData.canLayAll0 ds=true
 | [],_=>rfl
 | d::r,h=>by rw[PyData.canLayAll0,h d Mf,wV fun e he=>h e (Mc _ he)];rfl
theorem qS{n:Nat}:∀{ds:List PyData},(∀ d∈ds,PyData.depth d<=n)->PyData.depthAll ds<=n
 | [],_=>M2 _
 | d::r,h=>by rw[PyData.depthAll];exact Nat.max_le.mpr ⟨h d Mf,qS fun e he=>h e (Mc _ he)⟩
theorem wW{α:Type}[DecidableEq α](g:α->PyData)(hg:∀ a b,PyData.eqv (g a) (g b)=decide (a=b)):∀ xs ys:List α,PyData.eqvAll (xs.map g) (ys.map g)=decide (xs=ys)
 | [],[]=>rfl
 | [],_::_=>rfl
 | _::_,[]=>rfl
 | x::xs,y::ys=>by
  rw[Mx,Mx,PyData.eqvAll,hg,wW g hg xs ys,MA];simp
structure IsLL(H:Hp)(l:Addr)(as:List Addr)(LQ:List (List Int)):Prop where
 top:H l=some (.lst (as.map V.ref))
 len:as.length=LQ.length
 at_:∀(j:Nat) (a:Addr) (xs:List Int),as[j]? =some a->LQ[j]? =some xs->H a=some (.lst (xs.map V.int))
theorem IsLL.same{H':Hp}{l:Addr}{as:List Addr}{LQ:List (List Int)}(x:IsLL H l as LQ)(s:Same H H'):IsLL H' l as LQ:=
 ⟨s _ _ x.top,x.len,fun j a xs h1 h2=>s _ _ (x.at_ j a xs h1 h2)⟩
def lf(K:Frag):Sp:=fun vs H Q _=>∃(a:Addr) (h w g c:Int),vs=[.ref a,.int c]/\IsFl H a h w g/\0<w/\w<100/\∀ p,H p=none->Q (.ref p) (upd H p (.tup [.int (c/w),.int (c%w)]))
def pM(K:Frag):TS:=
 (tSeq (tAsg (tOp cIx (tVar 0) (tC (.int 1))) (gName 2))
  (tRet (tTup (tCons (tOp cDiv (tVar 1) (tVar 2)) (tCons (tOp cMod (tVar 1) (tVar 2)) tNil)))))
abbrev eD9(Q:VK):Ends:={nx:=fun _ H'=>Q .non H',rt:=Q}
variable{K:Frag}{vs:List V}
theorem Cd{Q:VK}{E:XK}(h:lf K vs H Q E):pM K (eD9 Q) (start ["floor","cell","wide"] vs) H:=by
 obtain⟨a,h,w,g,c,rfl,ha,w0,w1,k⟩:=h;show pM K _ [some (.ref a),some (.int c),none] H;unfold pM;symm;rw[gX ha];refine aV (a:=V.int w) rfl ?_;symm;refine⟨⟨w0,by omega⟩,w0,lnR rfl,k⟩
theorem uc(h w c:Int):(besL h w c).length<=4:=by
 unfold besL;simp only[Mz]
 split <;> split <;> split <;> split <;> simp
def dG(K:Frag):Sp:=fun vs H Q _=>∃(a:Addr) (h w g c:Int),vs=[.ref a,.int c]/\IsFl H a h w g/\0<w/\w<100/\∀ l H',Same H H'->H l=none->H' l=some (.lst ((besL h w c).map V.int))->Q (.ref l) H'
def qT(K:Frag):TS:=
 (tSeq (tAsg (tOp cIx (tVar 0) (tC (.int 0))) (gName 2))
  (tSeq (tAsg (tOp cIx (tVar 0) (tC (.int 1))) (gName 3))
  (tSeq (tAsg (tCall (lf K) [] E0 (tCons (tVar 0) (tCons (tVar 1) tNil))) (gName 4))
  (tSeq (tAsg (tLst tNil) (gName 5))
  (tSeq (tIfS (tTest (tOp (cCmp fun i j=>decide (j<i)) (tOp cIx (tVar 4) (tC (.int 0))) (tC (.int 0)))) (tDrop (tBM K "list" bm (tVar 5) (tCons (tOp cSub (tVar 1) (tVar 3)) tNil))) tNext)
  (tSeq (tIfS (tTest (tOp (cCmp fun i j=>decide (j<i)) (tOp cIx (tVar 4) (tC (.int 1))) (tC (.int 0)))) (tDrop (tBM K "list" bm (tVar 5) (tCons (tOp cSub (tVar 1) (tC (.int 1))) tNil))) tNext)
  (tSeq (tIfS (tTest (tOp (cCmp fun i j=>decide (i<j)) (tOp cIx (tVar 4) (tC (.int 1))) (tOp cSub (tVar 3) (tC (.int 1))))) (tDrop (tBM K "list" bm (tVar 5) (tCons (tOp cAdd (tVar 1) (tC (.int 1))) tNil))) tNext)
  (tSeq (tIfS (tTest (tOp (cCmp fun i j=>decide (i<j)) (tOp cIx (tVar 4) (tC (.int 0))) (tOp cSub (tVar 2) (tC (.int 1))))) (tDrop (tBM K "list" bm (tVar 5) (tCons (tOp cAdd (tVar 1) (tVar 3)) tNil))) tNext)
  (tRet (tVar 5))))))))))
theorem ve {D:Ends} {σ:St} {t:TT} {e:TE} {b:Bool} {v:Int} {l:Addr} (hσ:σ[i]? =some (some (.ref l))) (ht:∀ R,R b H->t σ H R) (hl:H l=some (.lst (ns.map V.int))) (hn:ns.length<=900)
  (he:∀ Q,Q (.int v) H->e σ H Q) (k:∀ H',(H' l=some (.lst ((ns++if b=true then [v] else []).map V.int)))->(∀ c,c≠l->H' c=H c)->D.nx σ H'):
  tIfS t (tDrop (tBM K "list" bm (tVar i) (tCons e tNil))) tNext D σ H:=by
 rw[ay];refine ht _ ?_
 cases b with
 | false=>
  refine iteF ?_;rw[cH];exact k H (by simpa using hl) fun _ _=>rfl
 | true=>
  refine iteT ?_;rw[cJ,iL,Io];refine⟨_,hσ,bb hl,?_⟩;rw[cK];refine he _ ?_;rw[fg,cP hl];refine⟨by rw[LV];exact aD (by omega),k _ ?_ fun c hc=>ai hc⟩;rw[ag];simp
theorem DE{Q:VK}{E:XK}(h:dG K vs H Q E):qT K (eD9 Q) (start ["floor","cell","high","wide","spot","found"] vs) H:=by
 obtain⟨a,h,w,g,c,rfl,ha,w0,w1,k⟩:=h;show qT K _ [some (.ref a),some (.int c),none,none,none,none] H;unfold qT;symm;rw[gX ha];refine aV (a:=V.int h) rfl ?_;symm;rw[gX ha];refine aV (a:=V.int w) rfl ?_;symm;refine⟨a,h,w,g,c,rfl,ha,w0,w1,fun p hp=>?_⟩;symm;refine⟨aN (by decide),fun l hl=>?_⟩;have npl:p≠l:=fun e=>by rw[e,ag] at hl;cases hl
 have hl0:H l=none:=by rw[ai npl.symm] at hl;exact hl
 have hpS:∀ H':Hp,(∀ d,d≠l->H' d=upd H p (.tup [.int (c/w),.int (c%w)]) d)->H' p=some (.tup [.int (c/w),.int (c%w)]):=fun H' e=>by rw[e p npl,ag]
 refine ve (ns:=[]) (l:=l) (i:=5) (b:=decide (0<c/w)) (v:=c-w) rfl (fun R q=>?_) ag (by decide) (fun Q q=>?_) fun H1 e1 f1=>?_
 . symm;rw[gX (hpS _ fun d hd=>ai hd)];refine aV rfl ?_;symm;exact q
 . symm;exact q
 symm;refine ve (l:=l) (i:=5) (b:=decide (0<c%w)) (v:=c-1) rfl (fun R q=>?_) e1 (by simp;split <;> simp) (fun Q q=>?_) fun H2 e2 f2=>?_
 . symm;rw[gX (hpS _ fun d hd=>by rw[f1 d hd,ai hd])];refine aV rfl ?_;symm;exact q
 . symm;exact q
 symm;refine ve (l:=l) (i:=5) (b:=decide (c%w<w-1)) (v:=c+1) rfl (fun R q=>?_) e2 (by simp;split <;> split <;> simp) (fun Q q=>?_) fun H3 e3 f3=>?_
 . symm;rw[gX (hpS _ fun d hd=>by rw[f2 d hd,f1 d hd,ai hd])];refine aV rfl ?_;symm;exact q
 . symm;exact q
 symm;refine ve (l:=l) (i:=5) (b:=decide (c/w<h-1)) (v:=c+w) rfl (fun R q=>?_) e3 (by simp;split <;> split <;> split <;> simp) (fun Q q=>?_) fun H4 e4 f4=>?_
 . symm;rw[gX (hpS _ fun d hd=>by rw[f3 d hd,f2 d hd,f1 d hd,ai hd])];refine aV rfl ?_;symm;exact q
 . symm;exact q
 symm;refine k l H4 (fun b o e=>?_) hl0 ?_
 . have nb:b≠l:=az e hl0;have nbp:b≠p:=az e hp;rw[f4 b nb,f3 b nb,f2 b nb,f1 b nb,ai nb,ai nbp];exact e
 . rw[e4];unfold besL;simp[LX]
structure FlOk(h w g:Int):Prop where
 h0:1<=h
 h1:h<=6
 w0:1<=w
 w1:w<=6
 m:h*w<=16
 g0:1<=g
 g1:g<=6
section
variable{K:Frag}{H:Hp}{Q:VK}
theorem zy{p:Addr}{xs:List V}(hp:H p=some (.lst xs))(h:Q (.bl true) H):kIsi [.ref p,.ty "list"] H Q:=by
 refine⟨by decide,aV (a:="list") (by unfold lH;dsimp only;rw[hp]) ?_⟩;rw[show isTy "list" "list"=true by decide];exact h
theorem DF{p:Addr}{xs:List V}(hp:H p=some (.tup xs))(h:Q (.bl true) H):kIsi [.ref p,.ty "tuple"] H Q:=by
 refine⟨by decide,aV (a:="tuple") (by unfold lH;dsimp only;rw[hp]) ?_⟩;rw[show isTy "tuple" "tuple"=true by decide];exact h
theorem E3{p q:Addr}{xs ys:List V}(hp:H p=some (.lst xs))(hq:H q=some (.lst ys))(hn:xs.length+ys.length<=1000)(h:Q .non (upd H p (.lst (xs++ys)))):lC (.ref p) [.ref q] H Q:=by
 show bnd (unM (H p)) _;rw[hp];show bnd (unM (H q)) _;rw[hq];exact⟨MS (aD hn),h⟩
theorem DG{n:Nat}{t:TGs}{σ:St}{k:St->Hp->Prop}{p:Addr}{xs:List V}(hp:H p=some (.tup xs))(hn:xs.length=n)(h:t xs σ H k):gTup K n t (.ref p) σ H k:=⟨p,xs,rfl,PQ hp,hn,h⟩
theorem zA{i j:Nat}{x y:V}{σ:St}{k:St->Hp->Prop}:gCons (gName i) (gCons (gName j) gNil) [x,y] σ H k=k ((σ.set i (some x)).set j (some y)) H:=by
 refine propext ⟨?_,fun h=>⟨x,[y],rfl,y,[],rfl,rfl,h⟩⟩;rintro⟨v,r,e,v2,r2,e2,e3,h⟩;cases e;cases e2;exact h
end
end L2
namespace L2
open PySem PySem.Builtin PySem.Builtin.Str
def tx(l:List Nat):Str:=⟨l.toArray⟩
theorem vf(l:List Nat):(tx l).cps.toList=l:=by simp[tx]
theorem Iu(x:Str):tx x.cps.toList=x:=by cases x;simp[tx]
theorem DH{a b:List Nat}(h:tx a=tx b):a=b:=by rw[← vf a,h,vf]
theorem fv(l:List Nat):(tx l).length=l.length:=by simp[tx,Str.length]
theorem vg(a b:List Nat):tx a++tx b=tx (a++b):=by
 refine Str.ext' ?_;rw[Str.cps_append];simp[tx]
theorem bg(a b:List Nat):decide (tx a=tx b)=decide (a=b):=by
 by_cases h:a=b
 . subst h;simp
 . have:¬ tx a=tx b:=fun e=>h (DH e);rw[L0 h,L0 this]
def catL(c:Nat):List (List Nat)->List Nat
 | []=>[]
 | [x]=>x
 | x::y::r=>x++c::catL c (y::r)
theorem wX(c:Nat):∀ ts:List (List Nat),Str.join (tx [c]) (ts.map tx)=tx (catL c ts)
 | []=>rfl
 | [x]=>rfl
 | x::y::r=>by
  show tx x++tx [c]++Str.join (tx [c]) ((y::r).map tx)=_;rw[wX c (y::r),vg,vg];show tx _=tx (x++c::catL c (y::r));rw[M3];rfl
theorem E4(sep:Str)(ts:List Str):Txt.join sep ts=Str.join sep ts:=StrLaws.glued_eq_join sep ts
theorem Bs{c:Nat}:∀{a b x y:List Nat},c∉a->c∉b->a++c::x=b++c::y->a=b/\x=y
 | [],[],_,_,_,_,h=>⟨rfl,by simpa using h⟩
 | [],b::bs,_,_,_,hb,h=>by
  simp at h;exact absurd (Mn.mpr (.inl h.1)) hb
 | a::as,[],_,_,ha,_,h=>by
  simp at h;exact absurd (Mn.mpr (.inl h.1.symm)) ha
 | a::as,b::bs,x,y,ha,hb,h=>by
  simp at h;have:=Bs (fun z=>ha (Mc _ z)) (fun z=>hb (Mc _ z)) h.2;exact⟨by rw[h.1,this.1],this.2⟩
theorem zB{c:Nat}:∀{x:List Nat} {r:List (List Nat)} {y:List Nat},c∈catL c (x::y::r):=by
 intro x r y;show c∈x++c::_;simp
theorem zC{c:Nat}:∀{xs ys:List (List Nat)},xs≠[]->ys≠[]->(∀ x∈xs,c∉x)->(∀ y∈ys,c∉y)->catL c xs=catL c ys->xs=ys
 | [],_,h,_,_,_,_=>absurd rfl h
 | _,[],_,h,_,_,_=>absurd rfl h
 | [x],[y],_,_,_,_,h=>by
  have h':x=y:=h;rw[h']
 | [x],y::z::r,_,_,hx,_,h=>by
  have h':x=catL c (y::z::r):=h;exact absurd (h' ▸ zB) (hx x Mf)
 | x::z::r,[y],_,_,_,hy,h=>by
  have h':catL c (x::z::r)=y:=h;exact absurd (h' ▸ zB) (hy y Mf)
 | x::z::r,y::u::s,_,_,hx,hy,h=>by
  obtain⟨e1,e2⟩:=Bs (hx x Mf) (hy y Mf) (show x++c::catL c (z::r)=y++c::catL c (u::s) from h);rw[e1,zC (by simp) (by simp) (fun w hw=>hx w (Mc _ hw)) (fun w hw=>hy w (Mc _ hw)) e2]
theorem E5(x y:Str):Txt.split x y≠[]:=by
 intro h;unfold Txt.split at h
 split at h
 . cases h
 . split at h
   . cases h
   . rw[StrLaws.partsBetween_eq] at h;obtain⟨p,r,e⟩:=StrLaws.partsFrom_ne x y.length 0 (occurrences x y 0 x.length (x.length+1));rw[e] at h;cases h
theorem E6{c:Nat}{LK:List (List Nat)}(hne:LK≠[])(hf:∀ r∈LK,c∉r):Txt.split (tx (catL c LK)) (tx [c])=LK.map tx:=by
 have h1:=StrLaws.join_split (tx (catL c LK)) (tx [c]);have h2:∀ p∈Txt.split (tx (catL c LK)) (tx [c]),c∉p.cps.toList:=StrLaws.split_free _ c;have h3:=E5 (tx (catL c LK)) (tx [c]);generalize Txt.split (tx (catL c LK)) (tx [c])=S at*
 have e:S=(S.map (·.cps.toList)).map tx:=by
  rw[MH]
  conv=>lhs;rw[← List.map_id S]
  exact OU fun x _=>(Iu x).symm
 rw[e,wX] at h1;have h4:=DH h1;have h5:=zC (c:=c) (xs:=S.map (·.cps.toList)) (ys:=LK) (by simpa using h3) hne (fun x hx=>by obtain⟨p,hp,rfl⟩:=Mg.mp hx;exact h2 p hp) hf h4;rw[e,h5]
end L2
namespace L2
end L2
namespace L2
open PySem PySem.Spec PyProof.Rows
local macro_rules|`(tactic|walk_at "w")=>wk9 ws1
local macro_rules|`(tactic|symm)=>`(tactic|walk_at "w")
section
variable{k:Nat}{tt:TT}{te:TE}{fin:Addr->Hp->Prop}{σ0:St}{H1:Hp}
theorem DI {cs:List Nat} (b:Nat->Bool) (f:Nat->V) (hn:cs.length<=900)
  (ht:∀ i c H R,cs[i]? =some c->Same H1 H->(∀ H',Same H H'->R (b i) H')->tt (σ0.set k (some (.str (tx [c])))) H R)
  (he:∀ i c H Q,cs[i]? =some c->b i=true->Same H1 H->(∀ H',Same H H'->Q (f i) H')->te (σ0.set k (some (.str (tx [c])))) H Q)
  (hd:∀ l H,H1 l=none->Same H1 H->H l=some (.lst (((List.range cs.length).filter b).map f))->fin l H):
  CompR (Its (tx cs)) (gName k) tt te fin σ0 H1:=by
 intro l hl;have hsz:(tx cs).cps.size=cs.length:=by simp[tx]
 refine⟨fun i m σ H=>m=cs.length-i/\i<=cs.length/\(σ=σ0\/∃ cv,σ=σ0.set k cv)/\Same H1 H/\H l=some (.lst (((List.range i).filter b).map f)),⟨cs.length,by simp,M2 _,.inl rfl,(L3 H1).laid hl,by rw[ag];rfl⟩,?_⟩;rintro i m σ H ⟨rfl,hi,hσ,s1,el⟩;by_cases hlt:i<cs.length
 . refine .inr ⟨by show i < (tx cs).cps.size;rw[hsz];exact hlt,fun σ H=>(σ=σ0\/∃ cv,σ=σ0.set k cv)/\Same H1 H/\H l=some (.lst (((List.range (i+1)).filter b).map f)),fun σ' H' p'=>⟨cs.length - (i+1),by omega,rfl,hlt,p'⟩,?_⟩;rintro x H' ⟨rfl,c,hc,rfl⟩;have hc':cs[i]? =some c:=by simpa [tx] using hc
   show gName k (.str (tx [c])) σ H' _;rw[aY]
   have e:σ.set k (some (.str (tx [c])))=σ0.set k (some (.str (tx [c]))):=by
    rcases hσ with rfl | ⟨cv,rfl⟩
    . rfl
    . exact ND ..
   rw[e];refine ht i c H' _ hc' s1 fun H2 s2=>?_;have el2:=s2 _ _ el
   cases hb:b i with
   | false=>
    rw[Md L7];refine⟨.inr ⟨_,rfl⟩,s1.trans s2,?_⟩;rw[MV,MP,MN,hb]
    simpa using el2
   | true=>
    rw[Mp rfl];refine he i c H2 _ hc' hb (s1.trans s2) fun H3 s3=>⟨_,s3 _ _ el2,by rw[LV];exact aD (Mi (lI b hlt hn) (by decide)),.inr ⟨_,rfl⟩,((s1.trans s2).trans s3).own hl,?_⟩;rw[ag,MV,MP,MN,hb];simp
 . have e:i=cs.length:=by omega
   subst e;exact .inl ⟨by show(tx cs).cps.size<=_;rw[hsz];exact Mu _,hd l H hl s1 el⟩
end
theorem qe{α:Type}(xs:List Int)(g:Int->α):(List.range xs.length).map (fun i=>g (xs.getD i 0))=xs.map g:=by
 have e:xs=(List.range xs.length).map fun i=>xs.getD i 0:=by
  refine No fun i=>?_;rw[L9];by_cases h:i<xs.length
  . rw[Nf h,LW h];simp[List.getD,h]
  . rw[Mt (by omega),Mt (by simpa using h)];rfl
 conv=>rhs;rw[e]
 rw[MH];rfl
theorem zD{sep:Str}{ts:List Str}(h1:ts.length<=1000)(h2:∀ t∈ts,t.length<=1000)(h3:sep.length<=10):JoinOk sep ts=true:=by
 unfold JoinOk;rw[M7];refine StrLaws.joinFits (B:=1000) h2 ?_;have a1:ts.length*1000<=1000*1000:=OF _ h1;have a2:ts.length*sep.length<=1000*10:=N6 h1 h3;omega
abbrev rIsN:R2:=fun x y H Q=>y=.non/\Q (.bl (decide (x=.non))) H
abbrev rNotN:R2:=fun x y H Q=>y=.non/\Q (.bl (!decide (x=.non))) H
def kStr:List V->Hp->VK->Prop
 | [.int i],H,Q=>i.natAbs.log2<1920/\Q (.str (Str.ofString (toString i))) H
 | _,_,_=>False
section
variable{X:Cx}
theorem xP:CallR X (.type "str") kStr:=by
 intro LJ s σ H xs us Q I r h;unfold kStr at h
 split at h
 . obtain⟨hi,q⟩:=h
   cases r with
   | cons r0 rr=>
    cases rr;obtain⟨t,rfl⟩:=r0;exact PySem.P.str_of_int hi ⟨.str _,H,I.tok _,⟨_,rfl⟩,q⟩
 . exact h.elim
end
section
variable{K:Frag}{H:Hp}{Q:VK}
theorem lg{x:V}:rIsN x .non H Q=Q (.bl (decide (x=.non))) H:=by simp[rIsN]
theorem iO{x:V}:rNotN x .non H Q=Q (.bl (!decide (x=.non))) H:=by simp[rNotN]
theorem j8{i:Int}:kStr [.int i] H Q=(i.natAbs.log2<1920/\Q (.str (Str.ofString (toString i))) H):=rfl
end
structure Bt2(mg:Str->Option Value):Prop extends Bt mg where
 all_:mg "all"=none
 sum_:mg "sum"=none
 enumerate_:mg "enumerate"=none
section
variable{K:Frag}{H:Hp}{Q:VK}{D:Ends}{σ:St}{g:TG}{tb:TS}{ta:TA}{ix:List (Option Nat)}{tt:TT}{te tf:TE}{k:Nat}
theorem j9:tIf tt te tf σ H Q=tt σ H fun c H1=>if c=true then te σ H1 Q else tf σ H1 Q:=rfl
theorem cS:tComp ix (pD ta) g tt te σ H Q=ta σ H fun vs H1=>∃ i j:Int,vs=[.int i,.int j]/\(-(2^62)<=i/\i<2^62/\ -(2^62)<=j/\j<2^62)/\CompR (Itr i (j-i).toNat) g tt te (fun l H'=>Q (.ref l) H') (subσ ix σ) H1:=rfl
theorem cc:sComp k ix (pD ta) g tt te D σ H=ta σ H fun vs H1=>∃ i j:Int,vs=[.int i,.int j]/\(-(2^62)<=i/\i<2^62/\ -(2^62)<=j/\j<2^62)/\CompR (Itr i (j-i).toNat) g tt te (fun l H'=>D.nx (σ.set k (some (.ref l))) H') (subσ ix σ) H1:=rfl
theorem isiE{x:V}{n t:String}{b:Bool}(hx:lH H x=some t)(hn:sG n=true)(hb:isTy t n=b):kIsi [x,.ty n] H Q=Q (.bl b) H:=by
 subst hb;show(sG n=true/\bnd (lH H x) fun t=>Q (.bl (isTy t n)) H)=_;rw[hx];simp only[hn,true_and,bH]
theorem cT{i:Int}:kIsi [.int i,.ty "int"] H Q=Q (.bl true) H:=isiE (t:="int") rfl (by decide) (by decide)
theorem cU{i:Int}:kIsi [.int i,.ty "bool"] H Q=Q (.bl false) H:=isiE (t:="int") rfl (by decide) (by decide)
theorem cV{i:Int}:kIsi [.int i,.ty "str"] H Q=Q (.bl false) H:=isiE (t:="int") rfl (by decide) (by decide)
theorem cW{i:Bool}:kIsi [.bl i,.ty "bool"] H Q=Q (.bl true) H:=isiE (t:="bool") rfl (by decide) (by decide)
theorem cX{i:Bool}:kIsi [.bl i,.ty "int"] H Q=Q (.bl true) H:=isiE (t:="bool") rfl (by decide) (by decide)
theorem cY{i:Str}:kIsi [.str i,.ty "str"] H Q=Q (.bl true) H:=isiE (t:="str") rfl (by decide) (by decide)
theorem cZ{i:Bool}:kIsi [.bl i,.ty "str"] H Q=Q (.bl false) H:=isiE (t:="bool") rfl (by decide) (by decide)
theorem gK{A B:Prop}:(if true=true then A else B)=A:=Mp rfl
theorem gL{A B:Prop}:(if false=true then A else B)=B:=Md L7
theorem gM{i:Int}:rU (fun i=>.int (-i)) (.int i) H Q=Q (.int (-i)) H:=by
 refine propext ⟨?_,fun h=>⟨i,rfl,h⟩⟩;rintro⟨j,e,h⟩;cases e;exact h
theorem ixT{p:Addr}{i:Int}{xs:List V}{v:V}(h:H p=some (.tup xs))(e:atI xs i=some v)(q:Q v H):cIx (.ref p) (.int i) H Q:=by
 rw[gX h];exact aV e q
theorem ixL{p:Addr}{i:Int}{xs:List V}{v:V}(h:H p=some (.lst xs))(e:atI xs i=some v)(q:Q v H):cIx (.ref p) (.int i) H Q:=by
 rw[Cb h];exact aV e q
theorem ixI{p:Addr}{i:Int}{ns:List Int}(h:H p=some (.lst (ns.map V.int)))(h0:0<=i)(h1:i<ns.length)(q:Q (.int (ns.getD i.toNat 0)) H):cIx (.ref p) (.int i) H Q:=ixL h (pK h0 h1) q
end
def cMulB:R2
 | .int i,.int j,H,Q=>IntMulOk i j/\Q (.int (i*j)) H
 | _,_,_,_=>False
end L2
namespace Att
open PySem PySem.W PySem.Calls PyProof.Rows
end Att
namespace L2
open PySem PySem.Spec PyProof.Rows
section
variable{K:Frag}{H:Hp}{Q:VK}{D:Ends}{σ:St}
theorem IO{i j:Int}:cMulB (.int i) (.int j) H Q=(IntMulOk i j/\Q (.int (i*j)) H):=rfl
theorem li{i j:Int}:cPow (.int i) (.int j) H Q=(CPow i j/\Q (.int (i^j.toNat)) H):=rfl
theorem wY{ix:List (Option Nat)}{tl:TE}{g:TG}{tt:TT}{te:TE}:tComp ix (iTup K tl) g tt te σ H Q=tl σ H fun x H1=>∃ a,x=.ref a/\(∃ xs,SqT K H1 a xs)/\CompR (Itt K a) g tt te (fun l H'=>Q (.ref l) H') (subσ ix σ) H1:=rfl
theorem Ce{p:Addr}{bs:List Bool}(hp:H p=some (.lst (bs.map V.bl)))(h:Q (.bl (bs.any id)) H):kAny [.ref p] H Q:=by
 show bnd (unL (H p)) _;rw[hp];exact aV (a:=bs.map V.bl) rfl ⟨bs,rfl,h⟩
theorem qU{p q:Addr}{xs ys:List V}(hp:H p=some (.lst xs))(hq:H q=some (.lst ys))(hn:xs.length+ys.length<=1000)(h:∀ r,H r=none->Q (.ref r) (upd H r (.lst (xs++ys)))):cAdd (.ref p) (.ref q) H Q:=by
 show bnd (unM (H p)) _;rw[hp];refine aV (a:=xs) rfl ?_;rw[hq];exact aV (a:=ys) rfl ⟨MS (aD hn),h⟩
theorem zE {g:TG} {tt:TT} {te:TE} {a:Addr} {xs:List V} {fin:Addr->Hp->Prop} {σ0:St} {H1:Hp} (Pv:Addr->Nat->St->Hp->Prop) (h0:∀ l,H1 l=none->Pv l 0 σ0 (upd H1 l (.lst []))) (hq:∀ l i σ H,H1 l=none->i<=xs.length->Pv l i σ H->SqT K H a xs)
  (hs:∀ l i x σ H,H1 l=none->xs[i]? =some x->Pv l i σ H->g x σ H fun σ2 H3=>tt σ2 H3 fun b H4=>if b=true then te σ2 H4 fun y H5=>∃ ys,H5 l=some (.lst ys)/\ys.length<sizeLine/\Pv l (i+1) σ2 (upd H5 l (.lst (ys++[y]))) else Pv l (i+1) σ2 H4)
  (hd:∀ l σ H,H1 l=none->Pv l xs.length σ H->fin l H):CompR (Itt K a) g tt te fin σ0 H1:=by
 intro l hl0;refine⟨fun i m σ H=>m=xs.length-i/\i<=xs.length/\Pv l i σ H,⟨xs.length,by simp,M2 _,h0 l hl0⟩,?_⟩;rintro i m σ H ⟨rfl,hi,p⟩;have q:=hq l i σ H hl0 hi p;by_cases hlt:i<xs.length
 . refine .inr ⟨⟨xs,xs[i],q,by simp[hlt]⟩,Pv l (i+1),fun σ' H' p'=>⟨xs.length - (i+1),by omega,rfl,hlt,p'⟩,fun x H' y=>?_⟩;obtain⟨e,y⟩:=y;subst e;exact hs l i x σ _ hl0 (y xs q) p
 . have e:i=xs.length:=by omega
   subst e;exact .inl ⟨⟨xs,q,Mu _⟩,hd l σ H hl0 p⟩
end
inductive RK where
 | Rule | Unlike | Sum | Rising | Seen | Count | Joined | NoSquare | Ring
 deriving DecidableEq
structure RCl (ι:Type) where
 A:ι->Addr
 ok:ι->Bool
section
variable{ι:Type}
def tFldK(c:RCl ι)(ta:TE)(f:Str):TE:=fun σ H Q=>ta σ H fun x H1=>∃ a k dx fs v,x=.ref a/\c.ok k=true/\H1 a=some (.ins (c.A k) dx fs)/\fs.lookup f=some v/\Q v H1
def sFldK(c:RCl ι)(ta tv:TE)(f:Str):TS:=fun D σ H=>tv σ H fun y H1=>ta σ H1 fun x H2=>∃ a k dx fs,x=.ref a/\c.ok k=true/\H2 a=some (.ins (c.A k) dx fs)/\fs.length<1000/\
 D.nx σ (upd H2 a (.ins (c.A k) dx (putF f y fs)))
def aF(c:RCl ι)(okm:ι->Bool)(m:Str)(sp:ι->Sp)(ta:TE)(t:TA):TE:=fun σ H Q=>ta σ H fun x H1=>∃ a k dx fs,x=.ref a/\okm k=true/\H1 a=some (.ins (c.A k) dx fs)/\fs.lookup m=none/\
 t σ H1 fun vs H2=>sp k (x::vs) H2 Q E0
structure FldK(K:Frag)(c:RCl ι)(f:Str):Prop where
 ex:∀ k,c.ok k=true->Cls K (c.A k)/\NoAttr K (c.A k) f
structure MCal(P:Program)(w:World)(K:Frag)(mg:Str->Option Value)(base:Heap)(c:RCl ι)(okm:ι->Bool)(k:Nat)(m:Str)(ps:List Str)(sp:ι->Sp):Prop where
 ex:∀ i,okm i=true->∃(f:Addr) (fd:FuncData),Cls K (c.A i)/\Meth K (c.A i) m f/\FnOk P w K mg base CX0 k f fd ps (sp i)/\Binds K fd ps []
structure KCal(P:Program)(w:World)(K:Frag)(mg:Str->Option Value)(base:Heap)(k:Nat)(x:Str)(C:Addr)(ps:List Str)(sp:Sp):Prop where
 ex:∃(f:Addr) (fd:FuncData),Mk K C f/\FnOk P w K mg base CX0 k f fd ps sp/\mg x=some (.ref C)/\Binds K fd ps []
end
section
variable{ι:Type}{X:Cx}{c:RCl ι}{o e value:Expr}{es:List Expr}{f x m:Str}{p pos pos' apos:Pos}{ta tv:TE}{t:TA}{okm:ι->Bool}{k n:Nat}{ps:List Str}{sp:ι->Sp}{sp1:Sp}{C:Addr}
theorem bn(he:PE X e ta)(F:FldK X.K c f)(hb:attributeBase e f X.env (eval e X.env)=eval e X.env:=by rfl):PE X (.Attribute e f pos) (tFldK c ta f):=by
 intro LJ s σ H Q I h;refine FS hb (thn (he LJ s σ H _ I h) fun u s1 ⟨x,H1,I1,rx,a,k,dx,fs,v,ex,hk,ea,l,q⟩=>?_);subst ex;obtain rfl:u=Value.ref a:=rx;obtain⟨cl,na⟩:=F.ex k hk;exact B5 I1 ea cl na l fun u' s2 I2 ru=>⟨v,H1,I2,ru,q⟩
theorem iB(ha:PE X o ta)(hv:PE X value tv)(F:FldK X.K c f)(hs:swapsWith value (some (.Attribute o f pos')) pos.line X.env=pure false:=by rfl):PS X (.Assign [.Attribute o f pos'] value pos) (sFldK c ta tv f):=by
 intro LJ s σ H D I h;refine plainObj_wpAny_Assign_Attribute (thn (hv LJ s σ H _ I h) fun u s1 ⟨y,H1,I1,ry,q⟩=>thn (ha LJ s1 σ H1 _ I1 q) fun ov s2 ⟨x,H2,I2,rx,a,k,dx,fs,ex,hk,ea,l,q2⟩=>?_) hs;subst ex;obtain rfl:ov=Value.ref a:=rx;obtain⟨cl,na⟩:=F.ex k hk;exact B6 I2 ea cl na l ry fun s3 I3=>⟨σ,_,I3,q2⟩
theorem b4 {pl:Sem Bool} (M:MCal X.prog X.w X.K X.mg X.base c okm k m ps sp) (hr:Room n X.A) (hk:k<=n) (he:PE X o ta) (ha:PA X (e::es) t)
  (hst:starEach (e::es) X.env=(false,eval e X.env)::starEach es X.env:=by rfl) (hpl:(backTo pos (starEach es X.env)).any (·.1)=false:=by rfl)
  (ht:eval (.Call (.Attribute o m apos) (e::es) [] pos) X.env=(do
   let ov ← eval o X.env
   standAt apos.atName
   let (f,first) ← holding [ov] (getMethod ov m pl)
   callWith pos f first (backTo pos (starEach (e::es) X.env)) (backToKw pos (keywordEach [] X.env))):=by rfl):
  PE X (.Call (.Attribute o m apos) (e::es) [] pos) (aF c okm m sp ta t):=by
 intro LJ s σ H Q I h;refine PF (pl:=pl) (thn (he LJ s σ H _ I h) fun u s1 ⟨x,H1,I1,rx,a,i,dx,fs,ex,hi,ea,l,q⟩=>?_) ht;subst ex;obtain rfl:u=Value.ref a:=rx;obtain⟨f,fd,cl,hm,F,hb⟩:=M.ex i hi;refine uU I1 ea cl hm l ?_;refine O1 (first:=[.ref a]) (h₀:=X.base) I.ok.mod.kin hm.kp (thn (ha pos LJ s1 σ H1 _ I1 q) fun us s2 ⟨vs,H2,I2,r,q2⟩=>⟨I2.kIn,?_⟩) hst hpl;exact zg (us:=.ref a::us) (vs:=.ref a::vs) F (hr.mono hk) hb .nil y4 I2 (.cons rfl r) (by rw[OK];exact q2)
theorem aH {pl:Sem Bool} (M:MCal X.prog X.w X.K X.mg X.base c okm k m ps sp) (hr:Room n X.A) (hk:k<=n) (he:PE X o ta)
  (ht:eval (.Call (.Attribute o m apos) [] [] pos) X.env=(do
   let ov ← eval o X.env
   standAt apos.atName
   let (f,first) ← holding [ov] (getMethod ov m pl)
   callWith pos f first (backTo pos (starEach [] X.env)) (backToKw pos (keywordEach [] X.env))):=by rfl):
  PE X (.Call (.Attribute o m apos) [] [] pos) (aF c okm m sp ta tNil):=by
 intro LJ s σ H Q I h;refine PF (pl:=pl) (thn (he LJ s σ H _ I h) fun u s1 ⟨x,H1,I1,rx,a,i,dx,fs,ex,hi,ea,l,q⟩=>?_) ht;subst ex;obtain rfl:u=Value.ref a:=rx;obtain⟨f,fd,cl,hm,F,hb⟩:=M.ex i hi;refine uU I1 ea cl hm l ?_;exact PySem.W.callWith_K0 (first:=[.ref a]) I1.kIn hm.kp (zg (us:=[.ref a]) (vs:=[.ref a]) F (hr.mono hk) hb .nil y4 I1 (.cons rfl .nil) q)
theorem lj (M:KCal X.prog X.w X.K X.mg X.base k x C ps sp1) (hr:Room n X.A) (hk:k+1<=n) (hg:Gl X x) (ha:PA X (e::es) t)
  (hdb:(x==("__debug__":Str))=false:=by decide) (he:starEach (e::es) X.env=(false,eval e X.env)::starEach es X.env:=by rfl) (hpl:(backTo pos (starEach es X.env)).any (·.1)=false:=by rfl):
  PE X (.Call (.Name x p) (e::es) [] pos) (tMake C sp1 [] E0 t):=by
 obtain⟨f,fd,mk,F,hm,hb⟩:=M.ex;exact FU mk F (hr.mono hk) hg hm hb .nil y4 ha hdb he hpl
end
def lJ(K:Frag):List V->Hp->VK->Prop
 | [.ref p],H,Q=>bnd (unM (H p)) fun ys=>∀ l,H l=none->Q (.ref l) (upd H l (.tup ys))
 | _,_,_=>False
def tInG(ws:List Str)(neg:Bool)(te:TE):TE:=fun σ H Q=>te σ H fun x H1=>∃ z,x=.str z/\Q (.bl (if neg then !decide (z∈ws) else decide (z∈ws))) H1
structure GTup(K:Frag)(mg:Str->Option Value)(x:Str)(ws:List Str):Prop where
 ex:∃(p:Addr) (o:Obj) (LO:Array Value) (n:Nat),mg x=some (.ref p)/\K.lookup p=some o/\o.cls=.type "tuple"/\o.data=.seq LO n/\LO.size<=sizeLine/\Vals (ws.map V.str) LO.toList
theorem iC:∀ ns:List Str,(ns.map V.str).all flatV=true
 | []=>rfl
 | n::r=>by rw[Mx,OC,iC r];rfl
theorem jN(i:Str):∀ ns:List Str,inV (.str i) (ns.map V.str)=decide (i∈ns)
 | []=>by simp[inV]
 | n::r=>by
  have ih:=jN i r;unfold inV at ih ⊢;rw[Mx,NY,ih];show((n==i)||decide (i∈r))=decide (i∈n::r);rw[MA,Nk,NO,LX,LX,Mn];exact⟨fun h=>h.elim (fun e=>.inl e.symm) .inr,fun h=>h.elim (fun e=>.inl e.symm) .inr⟩
section
variable{X:Cx}{a:Expr}{ta:TE}{pos p:Pos}{x:Str}{ws:List Str}
theorem tJ:CallR X (.type "tuple") (lJ X.K):=by
 intro LJ s σ H xs us Q I r h;unfold lJ at h
 split at h
 . obtain⟨ys,e,q⟩:=aZ h;exact yw LJ s σ H _ us Q I r ⟨_,ys,rfl,.inl ⟨Ml (gE e),q⟩⟩
 . exact h.elim
theorem Hf{ws:List Str}{q:Addr}(hq:∃(o:Obj) (LO:Array Value) (n:Nat),X.K.lookup q=some o/\o.cls=.type "tuple"/\o.data=.seq LO n/\LO.size<=sizeLine/\Vals (ws.map V.str) LO.toList):
  OpR X (compareOp .In) (fun x y H Q=>∃ z,x=.str z/\y=.ref q/\Q (.bl (decide (z∈ws))) H):=by
 intro LJ s σ H x y v u Q I rx ry h;obtain⟨z,rfl,rfl,h⟩:=h;refine mE LJ s σ H _ _ v u Q I rx ry ⟨q,ws.map V.str,rfl,.inr (.inr hq),rfl,iC ws,?_⟩;rw[jN];exact h
theorem F6{ws:List Str}{q:Addr}(hq:∃(o:Obj) (LO:Array Value) (n:Nat),X.K.lookup q=some o/\o.cls=.type "tuple"/\o.data=.seq LO n/\LO.size<=sizeLine/\Vals (ws.map V.str) LO.toList):
  OpR X (compareOp .NotIn) (fun x y H Q=>∃ z,x=.str z/\y=.ref q/\Q (.bl (!decide (z∈ws))) H):=by
 intro LJ s σ H x y v u Q I rx ry h;obtain⟨z,rfl,rfl,h⟩:=h;refine qI LJ s σ H _ _ v u Q I rx ry ⟨q,ws.map V.str,rfl,.inr (.inr hq),rfl,iC ws,?_⟩;rw[jN];exact h
end
section
variable{ι:Type}{c:RCl ι}{ta tv:TE}{t:TA}{f m:Str}{σ:St}{H:Hp}{Q:VK}{D:Ends}{okm:ι->Bool}{sp:ι->Sp}{sp1:Sp}{C:Addr}{K:Frag}
theorem iP:tMake C sp1 [] E0 t σ H Q=t σ H fun vs H1=>∀ x dx,H1 x=none->H1 dx=none->dx≠x->sp1 (.ref x::(vs++[])) (upd (upd H1 dx (.own x)) x (.ins C dx [])) (fun v H2=>v=.non/\Q (.ref x) H2) E0:=rfl
theorem lm{ws:List Str}{neg:Bool}{te:TE}:tInG ws neg te σ H Q=te σ H fun x H1=>∃ z,x=.str z/\Q (.bl (if neg then !decide (z∈ws) else decide (z∈ws))) H1:=rfl
theorem F7{p:Addr}{xs:List V}(hp:H p=some (.lst xs))(h:∀ l,H l=none->Q (.ref l) (upd H l (.tup xs))):lJ K [.ref p] H Q:=by
 unfold lJ;dsimp only;rw[hp];exact h
end
def cntD(ns:List Int):Nat:=(firstMet (fun i=>ns.getD i 0) ns.length).length
def sK(te:TE):TE:=fun σ H Q=>te σ H fun x H1=>∃ p ns,x=.ref p/\H1 p=some (.lst (ns.map V.int))/\ns.length<=900/\Q (.int (cntD ns:Nat)) H1
theorem dL{te:TE}{σ:St}{H:Hp}{Q:VK}:sK te σ H Q=te σ H fun x H1=>∃ p ns,x=.ref p/\H1 p=some (.lst (ns.map V.int))/\ns.length<=900/\Q (.int (cntD ns:Nat)) H1:=rfl
theorem F8:bootBuiltins "set"=some (.type "set"):=by decide+kernel
theorem xQ {X:Cx} {e:Expr} {te:TE} {p p2 pos pos2:Pos} (hc:X.calm=true) (hgl:Gl X "len") (hgs:Gl X "set") (hl:X.mg "len"=none) (hs:X.mg "set"=none) (he:PE X e te)
  (hs1:starEach [.Call (.Name "set" p2) [e] [] pos2] X.env=[(false,eval (.Call (.Name "set" p2) [e] [] pos2) X.env)]:=by rfl) (hs2:starEach [e] X.env=[(false,eval e X.env)]:=by rfl):
  PE X (.Call (.Name "len" p) [.Call (.Name "set" p2) [e] [] pos2] [] pos) (sK te):=by
 intro LJ s σ H Q I h;refine Nt (gD I hgl hl aP ?_ (by decide) (by decide));refine Ov ?_ hs1 rfl;rw[hs1];show wpAny _ _ (spliced [(false,eval (.Call (.Name "set" p2) [e] [] pos2) X.env)]) _ _ s;refine Od ?_;refine Nt (gD I hgs hs F8 ?_ (by decide) (by decide));refine M5 ?_ hs2 rfl;rw[hs2];show wpAny _ _ (spliced [(false,eval e X.env)]) _ _ s;refine Od (thn (he LJ s σ H _ I h) fun u s1 ⟨x,H1,I1,r1,q1⟩=>?_);refine Oi ?_;obtain⟨l,ns,rfl,hys,hn,q⟩:=q1;cases r1;obtain⟨LO,n,rv,ho,hz⟩:=I1.lst hys;have hL:s1.heap.IsList l LO.toArray:=⟨_,ho,rfl,n,rfl⟩;have hI:IntsAre LO ns:=uV rv;have LS:=rv.length;rw[LV] at LS;refine call_set_list (ns:=ns) (I.ok.hd hc) hL (by simpa using hI) (by rw[Mw,← LS];exact Na (Nat.succ_le_succ hn) (by decide)) fun h' tk hS old=>?_;refine Oi ?_;obtain⟨o,es,ep,t,h1,h2,h3,h4,h5,h6,h7,h8⟩:=hS;have hb:(firstMet (fun i=>ns.getD i 0) LO.toArray.size).length<=900:=Mi (firstMet_length_le _ _) (by rw[Mw,← LS];exact hn);refine call_len_set h1 h2 h3 h7 (by omega) ?_;have I2:Inv X LJ σ H1 {s1 with heap:=h',toks:=tk}:=I1.kept fun b o' e=>old b o' (MC e) e;refine⟨.int _,H1,I2.tok _,⟨_,rfl⟩,?_⟩;rw[h8,Mw,← LS];exact q
def qV:V->List V->Hp->VK->Prop
 | .str sep,[.ref p],H,Q=>bnd (unS (H p)) fun ys=>∃ ts:List Str,ys=ts.map V.str/\JoinOk sep ts=true/\Q (.str (Txt.join sep ts)) H
 | _,_,_,_=>False
theorem DJ{X:Cx}:MtR X "str.join" qV:=by
 intro LJ s σ H x vs v us Q I rx rv h;unfold qV at h
 split at h
 . rename_i sep p
   obtain⟨ys,e,ts,rfl,hok,q⟩:=aZ h;rcases oy (K:=X.K) e with hq | hq
   . obtain⟨t,rfl⟩:=rx;obtain⟨u,rfl,ru⟩:=cG rv;cases ru;obtain⟨LO,rvv,pl,hz⟩:=I.list hq;obtain⟨l,rfl,hl⟩:=wT rvv;exact SC.join pl.isList hl hok fun t' k=>⟨.str _,H,I.tok k,⟨t',rfl⟩,q⟩
   . obtain⟨t,rfl⟩:=rx;obtain⟨u,rfl,ru⟩:=cG rv;cases ru;obtain⟨LO,rvv,pl,hz⟩:=I.tuple hq;obtain⟨l,rfl,hl⟩:=wT rvv;subst hl;obtain⟨o,h1,h2,n,h3⟩:=pl;have hok':=hok;unfold JoinOk at hok';rw[M7] at hok';exact NV F.slot_str_join (Ow _ _ _) F.entry_str_join (F.args_str_join_2 _ _) (meets_str_join_tuple sep t p l hok') ⟨⟨o,n,h1,h2,h3⟩,post_join l ⟨joinFit_length hok',fun t' k=>⟨.str _,H,I.tok k,⟨t',rfl⟩,q⟩⟩⟩
 . exact h.elim
section
variable{X:Cx}{e:Expr}{te:TE}{p2 p3 p4 pos:Pos}{z0:Nat}
def vh:V->List V->Hp->VK->Prop
 | .ref l,[.int i],H,Q=>bnd (unM (H l)) fun xs=>0<=i/\i<xs.length/\bnd (xs[i.toNat]?) fun y=>Q y (upd H l (.lst (xs.eraseIdx i.toNat)))
 | _,_,_,_=>False
theorem seqIx{i:Int}{n:Nat}(h0:0<=i)(h1:i<n):seqIndex? i n=some i.toNat:=by
 obtain⟨k,rfl⟩:=NT h0;have hk:k<n:=by omega
 unfold seqIndex?;have hn:¬ ((k:Int)<0):=by omega
 simp[hk,hn]
theorem DK:MtR X "list.pop" vh:=by
 intro LJ s σ H x vs v us Q I rx rv h;unfold vh at h
 split at h
 . obtain⟨xs,e,h0,h1,h⟩:=aZ h;obtain⟨y,ey,q⟩:=aZ h;have hz:xs.length<=sizeLine:=(I.lstM (gE e)).1;have hs:(sizeLine:Int)<2^63:=by decide
   exact ES LJ s σ H _ _ v us Q I rx rv ⟨_,xs,_,_,y,rfl,rfl,gE e,by omega,by omega,seqIx h0 h1,ey,q⟩
 . exact h.elim
def tRevL(te:TE):TE:=fun σ H Q=>te σ H fun x H1=>∃ p xs,x=.ref p/\H1 p=some (.lst xs)/\∀ l,H1 l=none->Q (.ref l) (upd H1 l (.lst xs.reverse))
end
section
variable{σ:St}{H:Hp}{Q:VK}{te:TE}
theorem ln{i j:Int}{H:Hp}{Q:VK}:kMax [.int i,.int j] H Q=Q (.int (if j>i then j else i)) H:=rfl
theorem iQ:tRevL te σ H Q=te σ H fun x H1=>∃ p xs,x=.ref p/\H1 p=some (.lst xs)/\∀ l,H1 l=none->Q (.ref l) (upd H1 l (.lst xs.reverse)):=rfl
theorem F9{l:Addr}{i:Int}{xs:List V}{y:V}(hl:H l=some (.lst xs))(h0:0<=i)(h1:i<xs.length)(ey:xs[i.toNat]? =some y)(q:Q y (upd H l (.lst (xs.eraseIdx i.toNat)))):vh (.ref l) [.int i] H Q:=by
 show bnd (unM (H l)) _;rw[hl];exact aV (a:=xs) rfl ⟨h0,h1,aV ey q⟩
end
theorem Cf:typeLookup (.type "str") (Str.ofString "__int__")=pure none:=by rw[Py,Ot];kernel_rfl
theorem zF:typeLookup (.type "str") (Str.ofString "__index__")=pure none:=by rw[Py,Ot];kernel_rfl
theorem zG:typeLookup (.type "str") (Str.ofString "__trunc__")=pure none:=by rw[Py,Ot];kernel_rfl
def numC(n:Nat):List Nat:=if n<10 then [48+n] else [48+n/10,48+n%10]
variable{n:Nat}
theorem DL(h:n<100):((tx (numC n)).cps.all fun x=>decide (x<128))=true:=by
 have t:((List.range 100).all fun n=>(tx (numC n)).cps.all fun x=>decide (x<128))=true:=by decide+kernel
 exact L6.mp t n (Mb.mpr h)
theorem DM{α:Type}{M:Model}{A:Around}{E:Value->Shared->Prop}{s:Shared}{Q:α->Shared->Prop}{m m':Sem α}(e:m=m')(h:wpAny M A m' Q E s):wpAny M A m Q E s:=e ▸ h
theorem gis(n:Nat)(hn:n<100)(u:Tok):Gives (Builtin.«int.__new__» ⟨[.type "int",.str (tx (numC n)) u],[]⟩) (.int n):=
 .of_wp fun M A E s Q h=>by
  obtain⟨hp,g,d,tk,os⟩:=s;have f1:=PySem.F.conv_sub_int;have f2:=PySem.F.madeHere_int;have f3:=Cf;have f4:=zF;have f5:=zG
  iterate 44 (any_goals (first | assumption | wp_step))
  refine MM (wpAny_of_eq (a:=some (tx (numC n))) rfl ?_);refine wpAny_of_eq (a:=some (numC n)) ?e1 ?_
  case e1=>
   show(pure (some (if ((tx (numC n)).cps.all fun x=>decide (x<128))=true then(tx (numC n)).cps.toList else _)):Sem _)=_;rw[Mp (DL hn),vf]
  refine DM (m':=mkInt (n:Int)) ?e2 ?_
  case e2=>
   clear h f1 f2 f3 f4 f5
   match n,hn with | 0,_=>kernel_rfl | 1,_=>kernel_rfl | 2,_=>kernel_rfl | 3,_=>kernel_rfl | 4,_=>kernel_rfl | 5,_=>kernel_rfl | 6,_=>kernel_rfl | 7,_=>kernel_rfl | 8,_=>kernel_rfl | 9,_=>kernel_rfl | 10,_=>kernel_rfl | 11,_=>kernel_rfl | 12,_=>kernel_rfl | 13,_=>kernel_rfl | 14,_=>kernel_rfl | 15,_=>kernel_rfl | 16,_=>kernel_rfl | 17,_=>kernel_rfl | 18,_=>kernel_rfl | 19,_=>kernel_rfl | 20,_=>kernel_rfl | 21,_=>kernel_rfl | 22,_=>kernel_rfl | 23,_=>kernel_rfl | 24,_=>kernel_rfl | 25,_=>kernel_rfl | 26,_=>kernel_rfl | 27,_=>kernel_rfl | 28,_=>kernel_rfl | 29,_=>kernel_rfl | 30,_=>kernel_rfl | 31,_=>kernel_rfl | 32,_=>kernel_rfl | 33,_=>kernel_rfl | 34,_=>kernel_rfl | 35,_=>kernel_rfl | 36,_=>kernel_rfl | 37,_=>kernel_rfl | 38,_=>kernel_rfl | 39,_=>kernel_rfl | 40,_=>kernel_rfl | 41,_=>kernel_rfl | 42,_=>kernel_rfl | 43,_=>kernel_rfl | 44,_=>kernel_rfl | 45,_=>kernel_rfl | 46,_=>kernel_rfl | 47,_=>kernel_rfl | 48,_=>kernel_rfl | 49,_=>kernel_rfl | 50,_=>kernel_rfl | 51,_=>kernel_rfl | 52,_=>kernel_rfl | 53,_=>kernel_rfl | 54,_=>kernel_rfl | 55,_=>kernel_rfl | 56,_=>kernel_rfl | 57,_=>kernel_rfl | 58,_=>kernel_rfl | 59,_=>kernel_rfl | 60,_=>kernel_rfl | 61,_=>kernel_rfl | 62,_=>kernel_rfl | 63,_=>kernel_rfl | 64,_=>kernel_rfl | 65,_=>kernel_rfl | 66,_=>kernel_rfl | 67,_=>kernel_rfl | 68,_=>kernel_rfl | 69,_=>kernel_rfl | 70,_=>kernel_rfl | 71,_=>kernel_rfl | 72,_=>kernel_rfl | 73,_=>kernel_rfl | 74,_=>kernel_rfl | 75,_=>kernel_rfl | 76,_=>kernel_rfl | 77,_=>kernel_rfl | 78,_=>kernel_rfl | 79,_=>kernel_rfl | 80,_=>kernel_rfl | 81,_=>kernel_rfl | 82,_=>kernel_rfl | 83,_=>kernel_rfl | 84,_=>kernel_rfl | 85,_=>kernel_rfl | 86,_=>kernel_rfl | 87,_=>kernel_rfl | 88,_=>kernel_rfl | 89,_=>kernel_rfl | 90,_=>kernel_rfl | 91,_=>kernel_rfl | 92,_=>kernel_rfl | 93,_=>kernel_rfl | 94,_=>kernel_rfl | 95,_=>kernel_rfl | 96,_=>kernel_rfl | 97,_=>kernel_rfl | 98,_=>kernel_rfl | 99,_=>kernel_rfl | (m+100),hm=>exact absurd hm (by omega)
  repeat (any_goals (first | assumption | wp_step))
  all_goals first | exact⟨_,rfl,h⟩ | skip
def mH:List V->Hp->VK->Prop
 | [.int i],H,Q=>Q (.int i) H
 | [.bl k],H,Q=>Q (.int (if k then 1 else 0)) H
 | [.str z],H,Q=>∃ n:Nat,n<100/\z=tx (numC n)/\Q (.int n) H
 | _,_,_=>False
theorem pN{X:Cx}:CallR X (.type "int") mH:=by
 intro LJ s σ H xs us Q I r h;unfold mH at h
 split at h
 . exact xD LJ s σ H _ us Q I r (.inl ⟨_,rfl,h⟩)
 . exact xD LJ s σ H _ us Q I r (.inr ⟨_,rfl,h⟩)
 . obtain⟨n,hn,rfl,q⟩:=h;obtain⟨u,rfl,ru⟩:=cG r;obtain⟨t,rfl⟩:=ru;exact call_int_1 (gis n hn t).meets (show(Made.int (n:Int)).post _ s from⟨rfl,⟨.int n,H,I.tok _,⟨_,rfl⟩,q⟩⟩)
 . exact h.elim
theorem gh{k:Bool}{H:Hp}{Q:VK}:mH [.bl k] H Q=Q (.int (if k then 1 else 0)) H:=rfl
theorem gi{i:Int}{H:Hp}{Q:VK}:mH [.int i] H Q=Q (.int i) H:=rfl
theorem Bu(h:n<100):Str.ofString (toString (n:Int))=tx (numC n):=by
 have t:((List.range 100).all fun(n:Nat)=>decide (Str.ofString (toString (n:Int))=tx (numC n)))=true:=by decide+kernel
 simpa using L6.mp t n (Mb.mpr h)
theorem ud(h:n<100):32∉numC n:=by
 have t:((List.range 100).all fun(n:Nat)=>decide (32∉numC n))=true:=by decide+kernel
 simpa using L6.mp t n (Mb.mpr h)
theorem Hg(h:n<100):numC n≠[]:=by unfold numC;split <;> simp
theorem sL:(numC n).length<=2:=by unfold numC;split <;> simp
theorem E7(h:n<100):((numC n).head? =some 48->n=0)/\numC 0=[48]:=by
 have t:((List.range 100).all fun(n:Nat)=>decide ((numC n).head? =some 48->n=0))=true:=by decide+kernel
 exact⟨L4 (L6.mp t n (Mb.mpr h)),rfl⟩
theorem Bv(h:n<100):∀ c∈numC n,48<=c/\c<=57:=by
 have t:((List.range 100).all fun(n:Nat)=>(numC n).all fun c=>decide (48<=c/\c<=57))=true:=by decide+kernel
 intro c hc
 simpa using L6.mp (L6.mp t n (Mb.mpr h)) c hc
local macro_rules|`(tactic|walk_at "w")=>wk9 ws1
local macro_rules|`(tactic|symm)=>`(tactic|walk_at "w")
def bM(K:Frag):Sp:=fun vs H Q _=>∃(a:Addr) (h w g:Int),vs=[.ref a]/\IsFl H a h w g/\1<=h/\h<=6/\Q (.int (h*w)) H
def kt(K:Frag):TS:=
 (tRet (tOp cMul (tOp cIx (tVar 0) (tC (.int 0))) (tOp cIx (tVar 0) (tC (.int 1)))))
variable{K:Frag}{vs:List V}{H:Hp}{Q:VK}{E:XK}
theorem yx(h:bM K vs H Q E):kt K (eD9 Q) (start ["floor"] vs) H:=by
 obtain⟨a,h,w,g,rfl,ha,h0,h1,q⟩:=h;show kt K _ [some (.ref a)] H;unfold kt;symm;rw[gX ha];refine aV (a:=V.int h) rfl ?_;symm;rw[gX ha];refine aV (a:=V.int w) rfl ?_;symm;exact⟨qR h0 h1,q⟩
def cornB(h w c:Int):Bool:=decide (c/w<h-1)&&decide (c%w<w-1)
def lK(K:Frag):Sp:=fun vs H Q _=>∃(a:Addr) (h w g c:Int),vs=[.ref a,.int c]/\IsFl H a h w g/\0<w/\w<100/\∀ H',Same H H'->Q (.bl (cornB h w c)) H'
def lL(K:Frag):TS:=
 (tSeq (tAsg (tCall (lf K) [] E0 (tCons (tVar 0) (tCons (tVar 1) tNil))) (gName 2))
  (tRet (tAndV (tOp (cCmp fun i j=>decide (i<j)) (tOp cIx (tVar 2) (tC (.int 0))) (tOp cSub (tOp cIx (tVar 0) (tC (.int 0))) (tC (.int 1)))) (tOp (cCmp fun i j=>decide (i<j)) (tOp cIx (tVar 2) (tC (.int 1))) (tOp cSub (tOp cIx (tVar 0) (tC (.int 1))) (tC (.int 1)))))))
theorem zH(h:lK K vs H Q E):lL K (eD9 Q) (start ["floor","cell","spot"] vs) H:=by
 obtain⟨a,h,w,g,c,rfl,ha,w0,w1,k⟩:=h;show lL K _ [some (.ref a),some (.int c),none] H;unfold lL;symm;refine⟨a,h,w,g,c,rfl,ha,w0,w1,fun p hp=>?_⟩;have s1:Same H (upd H p (.tup [.int (c/w),.int (c%w)])):=(L3 H).laid hp;have k1:=k _ s1;have ha1:=s1 _ _ ha;have hp1:(upd H p (.tup [.int (c/w),.int (c%w)])) p=some (.tup [.int (c/w),.int (c%w)]):=ag;generalize upd H p (.tup [.int (c/w),.int (c%w)])=H1 at*;symm;rw[gX hp1];refine aV (a:=V.int (c/w)) rfl ?_;symm;rw[gX ha1];refine aV (a:=V.int h) rfl ?_;symm;unfold cornB at k1
 cases hb:decide (c/w<h-1) with
 | false=>
  rw[hb,Mm] at k1;exact iteF k1
 | true=>
  rw[hb,Mq] at k1;refine iteT ?_;rw[gX hp1];refine aV (a:=V.int (c%w)) rfl ?_;symm;rw[gX ha1];refine aV (a:=V.int w) rfl ?_;symm;exact k1
def sqL(w c:Int):List Int:=[c,c+1,c+w,c+w+1]
def lM(K:Frag):Sp:=fun vs H Q _=>∃(a:Addr) (h w g c:Int),vs=[.ref a,.int c]/\IsFl H a h w g/\∀ p,H p=none->Q (.ref p) (upd H p (.lst ((sqL w c).map V.int)))
def lN(K:Frag):TS:=
 (tSeq (tAsg (tOp cAdd (tVar 1) (tOp cIx (tVar 0) (tC (.int 1)))) (gName 2))
  (tRet (tLst (tCons (tVar 1) (tCons (tOp cAdd (tVar 1) (tC (.int 1))) (tCons (tVar 2) (tCons (tOp cAdd (tVar 2) (tC (.int 1))) tNil)))))))
theorem zI(h:lM K vs H Q E):lN K (eD9 Q) (start ["floor","corner","below"] vs) H:=by
 obtain⟨a,h,w,g,c,rfl,ha,k⟩:=h;show lN K _ [some (.ref a),some (.int c),none] H;unfold lN;symm;rw[gX ha];refine aV (a:=V.int w) rfl ?_;symm;exact⟨lnR rfl,k⟩
def squL(h w:Int):List (List Int):=((List.range (h*w).toNat).filter fun(i:Nat)=>cornB h w i).map fun(i:Nat)=>sqL w i
def iR(K:Frag):Sp:=fun vs H Q _=>∃(a:Addr) (h w g:Int),vs=[.ref a]/\IsFl H a h w g/\FlOk h w g/\
 ∀ l as H',Same H H'->H l=none->IsLL H' l as (squL h w)->as.Nodup->l∉as->(∀ a∈as,H a=none)->Q (.ref l) H'
def pO(K:Frag):TS:=
 (tRet (tComp [none,none,some 0] (de (tCons (tCall (bM K) [] E0 (tCons (tVar 0) tNil)) tNil)) (gName 1) (tB (tCall (lK K) [] E0 (tCons (tVar 2) (tCons (tVar 1) tNil)))) (tCall (lM K) [] E0 (tCons (tVar 2) (tCons (tVar 1) tNil)))))
theorem NewAt.ll{H1:Hp}{l:Addr}{as:List Addr}{LQ:List (List Int)}(x:NewAt H1 H l as (LQ.map fun xs=>.lst (xs.map V.int)))(e:H l=some (.lst (as.map V.ref))):IsLL H l as LQ:=
 ⟨e,by rw[x.len,LV],fun j a xs h1 h2=>x.at_ j a _ h1 (by rw[L9,h2];rfl)⟩
theorem Cg(h:iR K vs H Q E):pO K (eD9 Q) (start ["floor"] vs) H:=by
 obtain⟨a,h,w,g,rfl,ha,F,k⟩:=h;obtain⟨h0,h1,w0,w1,m16,g0,g1⟩:=F;have mpos:0<=h*w:=NJ (by omega) (by omega);show pO K _ [some (.ref a)] H;unfold pO;symm;refine⟨a,h,w,g,rfl,ha,h0,h1,?_⟩;symm;refine⟨h*w,rfl,by omega,by omega,?_⟩;refine nK (fun(i:Nat)=>cornB h w i) (fun(i:Nat)=>.lst ((sqL w i).map V.int)) (by omega) ?_ ?_ ?_
 . intro i H1 R hi s1 k1;show tB _ [none,some (.int (0+(i:Int))),some (.ref a)] H1 R;symm;rw[NE];exact⟨a,h,w,g,_,rfl,s1 _ _ ha,by omega,by omega,fun H2 s2=>⟨_,rfl,k1 H2 s2⟩⟩
 . intro i H1 Q1 hi hb s1 k1;show tCall _ _ _ _ [none,some (.int (0+(i:Int))),some (.ref a)] H1 Q1;symm;rw[NE];exact⟨a,h,w,g,_,rfl,s1 _ _ ha,fun p hp=>k1 p _ ((L3 H1).laid hp) hp ag⟩
 . intro l as H2 hl s2 el x
   have x':NewAt H H2 l as ((squL h w).map fun xs=>.lst (xs.map V.int)):=by
    unfold squL;rw[MH];exact x
   exact k l as H2 s2 hl (x'.ll el) x.nd x.nl x.fr
def ws4:String:="aJ iP lm dL iQ gh gi ln lg iO li if_true if_false Bool.false_eq_true decide_true decide_false d9 eh j9 cS cc d7 gJ d8 cR gH gI cQ j7 cT cU cW cX cY cZ cV gK gL gM gG j8 Bool.not_true Bool.not_false aJ "++ws1
local macro_rules|`(tactic|walk_at "w")=>wk9 ws4
def nmC:RK->List Nat
 | .Rule=>[]
 | .Unlike=>[117,110,108,105,107,101]
 | .Sum=>[115,117,109]
 | .Rising=>[114,105,115,105,110,103]
 | .Seen=>[115,101,101,110]
 | .Count=>[99,111,117,110,116]
 | .Joined=>[106,111,105,110,101,100]
 | .NoSquare=>[110,111,115,113,117,97,114,101]
 | .Ring=>[114,105,110,103]
def gj:List Str:=[tx [115,117,109],tx [115,101,101,110],tx [99,111,117,110,116]]
def fw:List Str:=[tx [99,111,117,110,116],tx [106,111,105,110,101,100],tx [110,111,115,113,117,97,114,101],tx [114,105,110,103]]
def fj:List Str:=[tx [106,111,105,110,101,100],tx [110,111,115,113,117,97,114,101],tx [114,105,110,103]]
def rFs(p W C:Addr)(n m:Int):List (Str × V):=[("floor",.ref p),("words",.ref W),("cells",.ref C),("amount",.int n),("mark",.int m)]
structure IsRule(H:Hp)(c:RCl RK)(k:RK)(r p:Addr)(ws:List (List Nat))(cs:List Int)(n m:Int):Prop where
 ok:c.ok k=true
 ex:∃ dx W C,H r=some (.ins (c.A k) dx (rFs p W C n m))/\H W=some (.tup ((ws.map tx).map V.str))/\H C=some (.tup (cs.map V.int))
variable{H:Hp}{c:RCl RK}{p:Addr}{cs:List Int}
theorem IsRule.same{H':Hp}{k:RK}{r:Addr}{ws:List (List Nat)}{n m:Int}(x:IsRule H c k r p ws cs n m)(s:Same H H'):IsRule H' c k r p ws cs n m:=by
 obtain⟨dx,W,C,h1,h2,h3⟩:=x.ex;exact⟨x.ok,dx,W,C,s _ _ h1,s _ _ h2,s _ _ h3⟩
section
variable{ι:Type}{c:RCl ι}{σ:St}{H:Hp}{Q:VK}{i:Nat}{r dx:Addr}{k:ι}{fs:List (Str × V)}{f m:Str}{v:V}{okm:ι->Bool}{sp:ι->Sp}{t:TA}{D:Ends}{tv:TE}{y:V}{H1:Hp}
theorem fldE(hσ:σ[i]? =some (some (.ref r)))(ok:c.ok k=true)(hr:H r=some (.ins (c.A k) dx fs))(hl:fs.lookup f=some v)(q:Q v H):tFldK c (tVar i) f σ H Q:=pC hσ ⟨r,k,dx,fs,v,rfl,ok,hr,hl,q⟩
theorem methE(hσ:σ[i]? =some (some (.ref r)))(ok:okm k=true)(hr:H r=some (.ins (c.A k) dx fs))(hl:fs.lookup m=none)(q:t σ H fun vs H2=>sp k (.ref r::vs) H2 Q E0):aF c okm m sp (tVar i) t σ H Q:=pC hσ ⟨r,k,dx,fs,rfl,ok,hr,hl,q⟩
theorem sfldV{j:Nat}{x:V}(hj:σ[j]? =some (some x))(hσ:σ[i]? =some (some (.ref r)))(ok:c.ok k=true)(hr:H r=some (.ins (c.A k) dx fs))(hn:fs.length<1000)(q:D.nx σ (upd H r (.ins (c.A k) dx (putF f x fs)))):sFldK c (tVar i) (tVar j) f D σ H:=
 pC hj (pC hσ ⟨r,k,dx,fs,rfl,ok,hr,hn,q⟩)
theorem sfldT {K:Frag} {j:Nat} {p:Addr} {xs:List V} (hj:σ[j]? =some (some (.ref p))) (hp:H p=some (.lst xs)) (hσ:σ[i]? =some (some (.ref r))) (ok:c.ok k=true) (hr:H r=some (.ins (c.A k) dx fs)) (hn:fs.length<1000)
  (q:∀ l,H l=none->D.nx σ (upd (upd H l (.tup xs)) r (.ins (c.A k) dx (putF f (.ref l) fs)))):sFldK c (tVar i) (tCB (lJ K) (tCons (tVar j) tNil)) f D σ H:=by
 unfold sFldK;symm;refine pC hj (F7 hp fun l hl=>?_);exact pC hσ ⟨r,k,dx,fs,rfl,ok,by rw[ai (az hr hl)];exact hr,hn,q l hl⟩
end
variable{Q:VK}
theorem Ga{xs:List V}(hp:H p=some (.tup xs))(h:∀ l,H l=none->Q (.ref l) (upd H l (.lst xs))):kList [.ref p] H Q:=by
 unfold kList;dsimp only;rw[hp];exact h
theorem Gb{sep:Str}{ts:List Str}(hp:H p=some (.lst (ts.map V.str)))(hok:JoinOk sep ts=true)(h:Q (.str (Txt.join sep ts)) H):qV (.str sep) [.ref p] H Q:=by
 unfold qV;dsimp only;rw[hp];exact⟨ts,rfl,hok,h⟩
variable{K:Frag}
theorem xR {a:Addr} {k:Nat} {tt:TT} {te:TE} {fin:Addr->Hp->Prop} {σ0:St} {H1:Hp} {xs:List Int} (b:Int->Bool) (f:Int->Int) (hn:xs.length<=900) (hq:H1 a=some (.tup (xs.map V.int)))
  (ht:∀ x H R,x∈xs->Same H1 H->(∀ H',Same H H'->R (b x) H')->tt (σ0.set k (some (.int x))) H R)
  (he:∀ x H Q,x∈xs->b x=true->Same H1 H->(∀ H',Same H H'->Q (.int (f x)) H')->te (σ0.set k (some (.int x))) H Q)
  (hd:∀ l H,H1 l=none->Same H1 H->H l=some (.lst (((xs.filter b).map f).map V.int))->fin l H):CompR (Itt K a) (gName k) tt te fin σ0 H1:=by
 refine zE (xs:=xs.map V.int) (fun l i σ H=>(σ=σ0\/∃ cv,σ=σ0.set k cv)/\Same H1 H/\H l=some (.lst ((((xs.take i).filter b).map f).map V.int))) (fun l hl=>⟨.inl rfl,(L3 H1).laid hl,by rw[ag];rfl⟩) (fun l i σ H _ _ p=>PQ (p.2.1 _ _ hq)) ?_ (fun l σ H hl p=>hd l H hl p.2.1 (by have:=p.2.2;rw[LV,M0] at this;exact this));rintro l i x σ H hl hx ⟨hσ,s1,el⟩;obtain⟨z,hz,rfl⟩:=aQ hx;have hi:i<xs.length:=(L1.mp hz).1;have et:xs.take (i+1)=xs.take i++[z]:=by rw[O6,hz];rfl
 rw[aY]
 have e:σ.set k (some (.int z))=σ0.set k (some (.int z)):=by
  rcases hσ with rfl | ⟨cv,rfl⟩
  . rfl
  . exact ND ..
 rw[e];refine ht z H _ (L5 hz) s1 fun H2 s2=>?_;have el2:=s2 _ _ el
 have LS:((((xs.take i).filter b).map f).map V.int).length<sizeLine:=by
  rw[LV,LV];refine aD (Mi (Mh b _) ?_);rw[Nb];omega
 cases hb:b z with
 | false=>
  rw[Md L7];refine⟨.inr ⟨_,rfl⟩,s1.trans s2,?_⟩;rw[et,MP,MN,hb]
  simpa using el2
 | true=>
  rw[Mp rfl];refine he z H2 _ (L5 hz) hb (s1.trans s2) fun H3 s3=>⟨_,s3 _ _ el2,LS,.inr ⟨_,rfl⟩,((s1.trans s2).trans s3).own hl,?_⟩;rw[ag,et,MP,MN,hb];simp
def wZ(K:Frag)(c:RCl RK)(k:RK):Sp:=fun vs H Q _=>∃(r p:Addr) (w:List Nat) (ws:List (List Nat)) (cs:List Int) (n m:Int),vs=[.ref r]/\IsRule H c k r p (w::ws) cs n m/\Q (.str (tx w)) H
def dM(K:Frag)(c:RCl RK)(k:RK):Sp:=fun vs H Q _=>∃(r p:Addr) (ws:List (List Nat)) (cs:List Int) (n m:Int),vs=[.ref r]/\IsRule H c k r p ws cs n m/\∀ l,H l=none->Q (.ref l) (upd H l (.lst (cs.map V.int)))
def iD(K:Frag)(c:RCl RK)(k:RK):Sp:=fun vs H Q _=>∃(r p:Addr) (ws:List (List Nat)) (cs:List Int) (n m:Int),vs=[.ref r]/\IsRule H c k r p ws cs n m/\Q (.int n) H
def iE(K:Frag)(c:RCl RK)(k:RK):Sp:=fun vs H Q _=>∃(r p:Addr) (ws:List (List Nat)) (cs:List Int) (n m:Int),vs=[.ref r]/\IsRule H c k r p ws cs n m/\Q (.int m) H
def sgAt(xs cs:List Int):List Int:=cs.map fun c=>xs.getD c.toNat 0
def mkAt(xs cs:List Int)(m:Int):List Int:=cs.filter fun c=>decide (xs.getD c.toNat 0=m)
def aK(cs:List Int)(n:Nat):Prop:=cs.length<=63/\∀ c∈cs,0<=c/\c<n
def eJ(K:Frag)(c:RCl RK)(k:RK):Sp:=fun vs H Q _=>∃(r p f:Addr) (ws:List (List Nat)) (cs xs:List Int) (n m:Int),vs=[.ref r,.ref f]/\IsRule H c k r p ws cs n m/\H f=some (.lst (xs.map V.int))/\aK cs xs.length/\
 ∀ l H',Same H H'->H l=none->H' l=some (.lst ((sgAt xs cs).map V.int))->Q (.ref l) H'
def iF(K:Frag)(c:RCl RK)(k:RK):Sp:=fun vs H Q _=>∃(r p f:Addr) (ws:List (List Nat)) (cs xs:List Int) (n m:Int),vs=[.ref r,.ref f]/\IsRule H c k r p ws cs n m/\H f=some (.lst (xs.map V.int))/\aK cs xs.length/\
 ∀ l H',Same H H'->H l=none->H' l=some (.lst ((mkAt xs cs m).map V.int))->Q (.ref l) H'
def risB:List Int->Bool
 | x::y::r=>decide (x<y)&&risB (y::r)
 | _=>true
def seenN(xs:List Int):Int × Int:=xs.foldl (fun a x=>if a.1<x then(x,a.2+1) else a) (0,0)
noncomputable def joinB (h w:Int) (ms:List Int):Bool:=@decide (ms=[]\/(ms.Pairwise (· < ·)/\∀ x∈ms,RC h w ms (ms.headD 0) x)) (Classical.propDecidable _)
def twoB(h w:Int)(ms:List Int)(c:Int):Bool:=decide (((besL h w c).filter fun y=>decide (y∈ms)).length=2)
noncomputable def hoB (k:RK) (h w:Int) (cs:List Int) (n m:Int) (xs:List Int):Bool:=match k with
 | .Unlike=>decide (cntD (sgAt xs cs)=(sgAt xs cs).length)
 | .Sum=>decide ((sgAt xs cs).sum=n)
 | .Rising=>risB (sgAt xs cs)
 | .Seen=>decide ((seenN (sgAt xs cs)).2=n)
 | .Count=>decide (((mkAt xs cs m).length:Int)=n)
 | .NoSquare=>!((squL h w).any fun sq=>sq.all fun c=>decide (c∈mkAt xs cs m))
 | .Joined=>joinB h w (mkAt xs cs m)
 | .Ring=>joinB h w (mkAt xs cs m)&&(mkAt xs cs m).all (twoB h w (mkAt xs cs m))
 | _=>true
def c5(K:Frag)(c:RCl RK)(k:RK):Sp:=fun vs H Q _=>∃(r p f:Addr) (ws:List (List Nat)) (cs xs:List Int) (n m h w g:Int),vs=[.ref r,.ref f]/\IsRule H c k r p ws cs n m/\IsFl H p h w g/\FlOk h w g/\H f=some (.lst (xs.map V.int))/\aK cs xs.length/\(∀ x∈xs,0<=x/\x<=1000)/\
 ∀ H',Same H H'->Q (.bl (hoB k h w cs n m xs)) H'
def iS(K:Frag)(c:RCl RK)(k:RK):Sp:=fun vs H Q _=>∃(r p C:Addr) (ws:List (List Nat)) (cs ms:List Int) (n m h w g:Int),vs=[.ref r,.ref C]/\IsRule H c k r p ws cs n m/\IsFl H p h w g/\FlOk h w g/\H C=some (.lst (ms.map V.int))/\ms.length<=63/\
 ∀ H',Same H H'->Q (.bl (joinB h w ms)) H'
def gn(K:Frag)(c:RCl RK)(k:RK):Sp:=fun vs H Q _=>∃(r p C:Addr) (ws:List (List Nat)) (cs ms:List Int) (n m h w g z:Int),vs=[.ref r,.ref C,.int z]/\IsRule H c k r p ws cs n m/\IsFl H p h w g/\FlOk h w g/\H C=some (.lst (ms.map V.int))/\ms.length<=63/\
 ∀ H',Same H H'->Q (.bl (twoB h w ms z)) H'
def aM(K:Frag)(c:RCl RK):Sp:=fun vs H Q _=>∃(k:RK) (x dx p W C:Addr) (ws:List (List Nat)) (cs:List Int) (n m:Int),vs=[.ref x,.ref p,.ref W,.ref C,.int n,.int m]/\c.ok k=true/\H x=some (.ins (c.A k) dx [])/\W≠x/\C≠x/\
 H W=some (.lst ((ws.map tx).map V.str))/\H C=some (.lst (cs.map V.int))/\∀ H',(∀ b o,b≠x->H b=some o->H' b=some o)->IsRule H' c k x p ws cs n m->Q .non H'
def gY(K:Frag)(c:RCl RK):TS:=
 (tSeq (sFldK c (tVar 0) (tVar 1) "floor")
  (tSeq (sFldK c (tVar 0) (tCB (lJ K) (tCons (tVar 2) tNil)) "words")
  (tSeq (sFldK c (tVar 0) (tCB (lJ K) (tCons (tVar 3) tNil)) "cells")
  (tSeq (sFldK c (tVar 0) (tVar 4) "amount")
  (sFldK c (tVar 0) (tVar 5) "mark")))))
variable{vs:List V}{E:XK}
theorem ue(h:aM K c vs H Q E):gY K c (eD9 Q) (start ["self","floor","words","cells","amount","mark"] vs) H:=by
 obtain⟨k,x,dx,p,W,C,ws,cs,n,m,rfl,ok,hx,nW,nC,hW,hC,q⟩:=h;show gY K c _ [some (.ref x),some (.ref p),some (.ref W),some (.ref C),some (.int n),some (.int m)] H;unfold gY;symm;refine sfldV (k:=k) (j:=1) rfl rfl ok hx (by decide) ?_;symm;refine sfldT (k:=k) (j:=2) (p:=W) rfl (by rw[ai nW];exact hW) rfl ok ag (by show(1:Nat)<1000;decide) fun l1 h1=>?_;have n1:l1≠x:=fun e=>by rw[e,ag] at h1;cases h1
 have g1:H l1=none:=by rw[ai n1] at h1;exact h1
 symm;refine sfldT (k:=k) (j:=3) (p:=C) rfl (by rw[ai nC,ai (az hC g1),ai nC];exact hC) rfl ok ag (by show(2:Nat)<1000;decide) fun l2 h2=>?_;have n2:l2≠x:=fun e=>by rw[e,ag] at h2;cases h2
 have n21:l2≠l1:=fun e=>by rw[e,ai n1,ag] at h2;cases h2
 have g2:H l2=none:=by rw[ai n2,ai n21,ai n2] at h2;exact h2
 symm;refine sfldV (k:=k) (j:=4) rfl rfl ok ag (by show(3:Nat)<1000;decide) ?_;symm;refine sfldV (k:=k) (j:=5) rfl rfl ok ag (by show(4:Nat)<1000;decide) ?_;refine q _ (fun b o hb e=>?_) ⟨ok,dx,l1,l2,by rw[ag];rfl,?_,?_⟩
 . rw[ai hb,ai hb,ai hb,ai (az e g2),ai hb,ai (az e g1),ai hb];exact e
 . rw[ai n1,ai n1,ai n1,ai n21.symm,ai n1,ag]
 . rw[ai n2,ai n2,ai n2,ag]
def qW(K:Frag)(c:RCl RK):Sp:=fun vs H Q E=>∃ k,wZ K c k vs H Q E
def lO(K:Frag)(c:RCl RK):TS:=
 (tRet (tOp cIx (tFldK c (tVar 0) "words") (tC (.int 0))))
theorem zJ(h:qW K c vs H Q E):lO K c (eD9 Q) (start ["self"] vs) H:=by
 obtain⟨k,r,p,w,ws,cs,n,m,rfl,x,q⟩:=h;obtain⟨dx,W,C,h1,h2,h3⟩:=x.ex;show lO K c _ [some (.ref r)] H;unfold lO;symm;refine fldE rfl x.ok h1 (v:=.ref W) (by rfl) ?_;symm;have e0:atI (((w::ws).map tx).map V.str) 0=some (V.str (tx w)):=d5 (j:=0) rfl;exact ixT h2 e0 q
def qf(K:Frag)(c:RCl RK):Sp:=fun vs H Q E=>∃ k,dM K c k vs H Q E
def ku(K:Frag)(c:RCl RK):TS:=
 (tRet (tCB kList (tCons (tFldK c (tVar 0) "cells") tNil)))
theorem yy(h:qf K c vs H Q E):ku K c (eD9 Q) (start ["self"] vs) H:=by
 obtain⟨k,r,p,ws,cs,n,m,rfl,x,q⟩:=h;obtain⟨dx,W,C,h1,h2,h3⟩:=x.ex;show ku K c _ [some (.ref r)] H;unfold ku;symm;refine fldE rfl x.ok h1 (v:=.ref C) (by rfl) ?_;symm;exact Ga h3 q
def oC(K:Frag)(c:RCl RK):Sp:=fun vs H Q E=>∃ k,iD K c k vs H Q E
def jO(K:Frag)(c:RCl RK):TS:=
 (tRet (tFldK c (tVar 0) "amount"))
theorem w5(h:oC K c vs H Q E):jO K c (eD9 Q) (start ["self"] vs) H:=by
 obtain⟨k,r,p,ws,cs,n,m,rfl,x,q⟩:=h;obtain⟨dx,W,C,h1,h2,h3⟩:=x.ex;show jO K c _ [some (.ref r)] H;unfold jO;symm;exact fldE rfl x.ok h1 (v:=.int n) (by rfl) q
def qX(K:Frag)(c:RCl RK):Sp:=fun vs H Q E=>∃ k,iE K c k vs H Q E
def lP(K:Frag)(c:RCl RK):TS:=
 (tRet (tFldK c (tVar 0) "mark"))
theorem zK(h:qX K c vs H Q E):lP K c (eD9 Q) (start ["self"] vs) H:=by
 obtain⟨k,r,p,ws,cs,n,m,rfl,x,q⟩:=h;obtain⟨dx,W,C,h1,h2,h3⟩:=x.ex;show lP K c _ [some (.ref r)] H;unfold lP;symm;exact fldE rfl x.ok h1 (v:=.int m) (by rfl) q
def lQ(K:Frag)(c:RCl RK):Sp:=fun vs H Q E=>∃ k,eJ K c k vs H Q E
def gZ(K:Frag)(c:RCl RK):TS:=
 (tRet (tComp [none,none,some 1] (iTup K (tFldK c (tVar 0) "cells")) (gName 1) tTrue (tOp cIx (tVar 2) (tVar 1))))
theorem uf(h:lQ K c vs H Q E):gZ K c (eD9 Q) (start ["self","filling"] vs) H:=by
 obtain⟨k,r,p,f,ws,cs,xs,n,m,rfl,x,hf,⟨hn,hc⟩,q⟩:=h;obtain⟨dx,W,C,h1,h2,h3⟩:=x.ex;show gZ K c _ [some (.ref r),some (.ref f)] H;unfold gZ;rw[cI,wY];refine fldE rfl x.ok h1 (v:=.ref C) (by rfl) ?_;refine⟨C,rfl,⟨_,PQ h3⟩,?_⟩;refine xR (xs:=cs) (fun _=>true) (fun c=>xs.getD c.toNat 0) (by omega) h3 ?_ ?_ ?_
 . intro x H1 R hx s1 k1;exact k1 _ (L3 _)
 . intro z H1 Q1 hz hb s1 k1;show tOp cIx _ _ [none,some (.int z),some (.ref f)] H1 Q1;symm;have:=hc z hz;exact ixI (s1 _ _ hf) this.1 (by omega) (k1 _ (L3 _))
 . intro l H1 hl s1 el;rw[a9] at el;exact q l H1 s1 hl el
def lR(K:Frag):Sp:=fun vs H Q _=>∃ n:Nat,vs=[.str (tx (numC n))]/\n<100/\∀ H',Same H H'->Q (.int n) H'
def lS(K:Frag):TS:=
 (tSeq (tIfS (tOr (tTest (tOp (cEq K) (tVar 0) (tC (.str (tx []))))) (tOr (tTest (tOp (cCmp fun i j=>decide (j<i)) (tCB kLen (tCons (tVar 0) tNil)) (tC (.int 9)))) (tAnd (tTest (tOp (cEq K) (tOp cIx (tVar 0) (tC (.int 0))) (tC (.str (tx [48]))))) (tTest (tOp (cNe K) (tVar 0) (tC (.str (tx [48])))))))) (tRet (tC .non)) tNext)
  (tSeq (tIfS (tNot (tB (tCB kAll (tCons (tComp [none,none] (iStr (tVar 0)) (gName 1) tTrue (tOp (cIn K false) (tVar 1) (tC (.str (tx [48,49,50,51,52,53,54,55,56,57]))))) tNil)))) (tRet (tC .non)) tNext)
  (tRet (tCB mH (tCons (tVar 0) tNil)))))
theorem Hh{c:Nat}(h0:48<=c)(h1:c<=57):(!(Builtin.Str.occurrences (tx [48,49,50,51,52,53,54,55,56,57]) ⟨#[c]⟩ 0 (tx [48,49,50,51,52,53,54,55,56,57]).length 1).isEmpty)=true:=by
 have t:((List.range 58).all fun c=>!decide (48<=c)||!(Builtin.Str.occurrences (tx [48,49,50,51,52,53,54,55,56,57]) ⟨#[c]⟩ 0 (tx [48,49,50,51,52,53,54,55,56,57]).length 1).isEmpty)=true:=by decide+kernel
 have:=L6.mp t c (Mb.mpr (by omega))
 simpa [h0] using this
theorem zL(h:lR K vs H Q E):lS K (eD9 Q) (start ["word"] vs) H:=by
 obtain⟨n,rfl,hn,q⟩:=h;have hne:=Hg hn;have hl:=sL (n:=n);show lS K _ [some (.str (tx (numC n)))] H;unfold lS;rw[aJ,ay];symm;rw[bg,L0 hne];refine iteF ⟨by rw[fv];exact aN (by omega),?_⟩;symm;rw[fv,L0 (show ¬ (9:Int) < ((numC n).length:Nat) by omega)];refine iteF ?_;rw[Iq,fv,vf]
 obtain⟨c,r,ec⟩:∃ c r,numC n=c::r:=by
  cases e:numC n with
  | nil=>exact absurd e hne
  | cons c r=>exact⟨c,r,rfl⟩
 refine⟨aN (by omega),aV (a:=c) (by rw[ec];exact d5 (j:=0) rfl) ?_⟩;symm
 have e1:decide ((⟨#[c]⟩:Str)=tx [48])=decide (c=48):=by
  have:(⟨#[c]⟩:Str)=tx [c]:=rfl;rw[this,bg];simp
 rw[e1,bg]
 have e2:(decide (c=48)=true->decide (numC n=[48])=true):=by
  intro h;rw[LX] at h;have:=(E7 hn).1 (by rw[ec,h];rfl);subst this;decide
 have goal2:tSeq (tIfS (tNot (tB (tCB kAll (tCons (tComp [none,none] (iStr (tVar 0)) (gName 1) tTrue (tOp (cIn K false) (tVar 1) (tC (.str (tx [48,49,50,51,52,53,54,55,56,57]))))) tNil)))) (tRet (tC .non)) tNext) (tRet (tCB mH (tCons (tVar 0) tNil)))
   (eD9 Q) [some (.str (tx (numC n)))] H:=by
  rw[aJ,ay];symm;refine DI (cs:=numC n) (fun _=>true) (fun _=>.bl true) (by omega) ?_ ?_ ?_
  . intro i c H1 R hc s1 k1;exact k1 _ (L3 _)
  . intro i c H1 Q1 hc hb s1 k1;have hd:=Bv hn c (L5 hc);show tOp (cIn K false) _ _ [none,some (.str (tx [c]))] H1 Q1;symm;have q1:=k1 _ (L3 H1);show Q1 (.bl (if false=true then _ else !(Builtin.Str.occurrences (tx [48,49,50,51,52,53,54,55,56,57]) (tx [c]) 0 (tx [48,49,50,51,52,53,54,55,56,57]).length 1).isEmpty)) H1;rw[Md L7,show tx [c]=⟨#[c]⟩ from rfl,Hh hd.1 hd.2];exact q1
  . intro l H1 hl1 s1 el
    have eb:((List.range (numC n).length).filter fun _=>true).map (fun _=>V.bl true)=(List.replicate (numC n).length true).map V.bl:=by
     rw[a9,List.map_const',MR,O7]
    rw[eb] at el;refine ld el ?_
    have ea:(List.replicate (numC n).length true).all id=true:=by
     rw[L6];intro b hb;exact(O8.mp hb).2
    rw[ea];symm;exact⟨n,hn,rfl,q _ s1⟩
 cases hc:decide (c=48) with
 | false=>
  refine iteF ?_;exact goal2
 | true=>
  refine iteT ?_;rw[e2 hc];exact goal2
def dN(K:Frag):Sp:=fun vs H Q _=>∃(n:Nat) (lo hi:Int),vs=[.str (tx (numC n)),.int lo,.int hi]/\n<100/\lo<=n/\n<=hi/\∀ H',Same H H'->Q (.int n) H'
def g7(K:Frag):TS:=
 (tSeq (tAsg (tCall (lR K) [] E0 (tCons (tVar 0) tNil)) (gName 3))
  (tSeq (tIfS (tOr (tTest (tOp rIsN (tVar 3) (tC .non))) (tOr (tTest (tOp (cCmp fun i j=>decide (i<j)) (tVar 3) (tVar 1))) (tTest (tOp (cCmp fun i j=>decide (j<i)) (tVar 3) (tVar 2))))) cq tNext)
  (tRet (tVar 3))))
theorem ug(h:dN K vs H Q E):g7 K (eD9 Q) (start ["word","least","most","number"] vs) H:=by
 obtain⟨n,lo,hi,rfl,hn,h0,h1,q⟩:=h;show g7 K _ [some (.str (tx (numC n))),some (.int lo),some (.int hi),none] H;unfold g7;symm;refine⟨n,rfl,hn,fun H1 s1=>?_⟩;symm;rw[ay];symm;rw[L0 (show ¬ V.int n=V.non from fun e=>nomatch e)];refine iteF ?_;rw[L0 (show ¬ (n:Int)<lo by omega)];refine iteF ?_;rw[L0 (show ¬ hi < (n:Int) by omega)];refine iteF ?_;symm;exact q _ s1
def WOk(ws:List (List Nat)):Prop:=∀ w∈ws,∀ c∈w,c<128
variable{w:List Nat}
theorem WOk.cons{ws:List (List Nat)}(h:∀ c∈w,c<128)(hs:WOk ws):WOk (w::ws):=fun v hv=>by
 rcases Mn.mp hv with rfl | hv
 . exact h
 . exact hs v hv
variable{n:Nat}
theorem w9(h:n<100):∀ c∈numC n,c<128:=fun c hc=>by have:=Bv h c hc;omega
theorem FE(h:∀ c∈w,c<128):PyData.strOk (tx w)=true:=by
 unfold PyData.strOk;simp[tx];intro c hc;have:=h c hc;omega
theorem WOk.strs{ws:List (List Nat)}(h:WOk ws):∀ x∈ws.map tx,PyData.strOk x=true:=fun x hx=>by
 obtain⟨w,hw,rfl⟩:=Mg.mp hx;exact FE (h w hw)
def cN(K:Frag):Sp:=fun vs H Q _=>∃(p:Addr) (n:Nat) (ws:List (List Nat)) (lo hi:Int),vs=[.ref p,.int lo,.int hi]/\H p=some (.lst (((numC n::ws).map tx).map V.str))/\n<100/\WOk ws/\lo<=n/\n<=hi/\∀ H',Same H H'->Q (.int n) H'
def iU(K:Frag):TS:=
 (tSeq (tIfS (tTest (tOp (cEq K) (tVar 0) (tLst tNil))) cq tNext)
  (tRet (tCall (dN K) [] E0 (tCons (tOp cIx (tVar 0) (tC (.int 0))) (tCons (tVar 1) (tCons (tVar 2) tNil))))))
theorem DVs.strs{K:Frag}{H:Hp}:∀ ns:List Str,DVs K H (ns.map V.str) (ns.map PyData.str)
 | []=>.nil
 | n::r=>.cons (.str n) (DVs.strs r)
theorem xS(a b:Str):PyData.eqv (.str a) (.str b)=decide (a=b):=by
 rw[PyData.eqv];by_cases h:a=b
 . subst h;simp
 . simp[h]
theorem kc(ns:List Str)(hs:∀ x∈ns,PyData.strOk x=true):SeqAt.shaped (.list (ns.map PyData.str))=true:=by
 have h1:PyData.canLayAll0 (ns.map PyData.str)=true:=wV fun d hd=>by obtain⟨x,hx,rfl⟩:=Mg.mp hd;rw[PyData.canLay0];exact hs x hx
 have h2:PyData.depthAll (ns.map PyData.str)<=0:=qS fun d hd=>by obtain⟨x,_,rfl⟩:=Mg.mp hd;exact Mu _
 simp[SeqAt.shaped,PyData.canLay0,h1,PyData.depth];omega
variable{xs:List Str}
theorem Hi{q:Addr}{ys:List Str}(hp:H p=some (.lst (xs.map V.str)))(hq:H q=some (.lst (ys.map V.str)))(h1:∀ x∈xs,PyData.strOk x=true)(h2:∀ x∈ys,PyData.strOk x=true)(h:Q (.bl (decide (xs=ys))) H):cEq K (.ref p) (.ref q) H Q:=by
 show rEqD K (.ref p) (.ref q) H Q;refine⟨.list (xs.map PyData.str),.list (ys.map PyData.str),.lst (Ml hp) (.strs xs),.lst (Ml hq) (.strs ys),kc xs h1,kc ys h2,?_⟩;rw[PyData.eqv,wW PyData.str xS];exact h
theorem Hj{q:Addr}{ys:List Str}(hp:H p=some (.lst (xs.map V.str)))(hq:H q=some (.lst (ys.map V.str)))(h1:∀ x∈xs,PyData.strOk x=true)(h2:∀ x∈ys,PyData.strOk x=true)(h:Q (.bl (!decide (xs=ys))) H):cNe K (.ref p) (.ref q) H Q:=by
 show rNeD K (.ref p) (.ref q) H Q;refine⟨.list (xs.map PyData.str),.list (ys.map PyData.str),.lst (Ml hp) (.strs xs),.lst (Ml hq) (.strs ys),kc xs h1,kc ys h2,?_⟩;rw[PyData.eqv,wW PyData.str xS];exact h
theorem vi(h:cN K vs H Q E):iU K (eD9 Q) (start ["words","least","most"] vs) H:=by
 obtain⟨p,n,ws,lo,hi,rfl,hp,hn,hw,h0,h1,q⟩:=h;show iU K _ [some (.ref p),some (.int lo),some (.int hi)] H;unfold iU;rw[aJ,ay];symm;refine⟨aN (by decide),fun l hl=>?_⟩;have s1:Same H (upd H l (.lst [])):=(L3 H).laid hl;refine Hi (s1 _ _ hp) (ys:=[]) ag (WOk.strs (WOk.cons (w9 hn) hw)) (fun x hx=>nomatch hx) ?_;generalize upd H l (.lst [])=H1 at*;symm;rw[L0 (by simp)];refine iteF ?_;symm;have e0:atI (((numC n::ws).map tx).map V.str) 0=some (V.str (tx (numC n))):=d5 (j:=0) rfl;refine ixL (s1 _ _ hp) e0 ?_;symm;exact⟨n,lo,hi,rfl,hn,h0,h1,fun H2 s2=>q _ (s1.trans s2)⟩
theorem E8(acc:List Int)(v:Int):(step_dedup acc v).length<=acc.length+1:=by
 unfold step_dedup
 split <;> simp
theorem zM:∀(l acc:List Int),(l.foldl step_dedup acc).length<=acc.length+l.length
 | [],acc=>by simp
 | x::r,acc=>by
  have h1:=zM r (step_dedup acc x);have h2:=E8 acc x;rw[Nj,My];omega
theorem tK:∀(l acc:List Int),acc.Nodup->((l.foldl step_dedup acc).length=acc.length+l.length↔(acc++l).Nodup)
 | [],acc,h=>by simpa using h
 | x::r,acc,h=>by
  rw[Nj];by_cases hx:x∈acc
  . have e:step_dedup acc x=acc:=by
     unfold step_dedup;rw[Mp (by simpa using hx)]
    rw[e];have:=zM r acc;constructor
    . intro z;rw[My] at z;omega
    . intro z;have:=(N0.mp z).2.2 x hx x Mf;exact absurd rfl this
  . have e:step_dedup acc x=acc++[x]:=by
     unfold step_dedup;rw[Md (by simpa using hx)]
    rw[e];have hn:(acc++[x]).Nodup:=N0.mpr ⟨h,by simp,fun a ha b hb z=>hx (by rw[Ma.mp hb] at z;exact z ▸ ha)⟩;have ih:=tK r (acc++[x]) hn;rw[Mz,PC] at ih;rw[My,show acc.length+(r.length+1)=acc.length+1+r.length by omega,show acc++x::r=acc++[x]++r by simp];exact ih
theorem xa(ns:List Int):(List.range ns.length).map (fun i=>ns.getD i 0)=ns:=by
 have:=qe ns (fun x=>x)
 simpa using this
theorem E9(ns:List Int):cntD ns=ns.length↔ns.Nodup:=by
 unfold cntD firstMet;rw[xa];have:=tK ns [] On
 simpa using this
def kx(K:Frag):Sp:=fun vs H Q _=>∃(a p:Addr) (h w g:Int) (ns:List Nat),vs=[.ref a,.ref p]/\IsFl H a h w g/\FlOk h w g/\H p=some (.lst (((ns.map numC).map tx).map V.str))/\ns≠[]/\ns.length<=16/\(∀ n∈ns,(n:Int)<h*w)/\ns.Nodup/\
 ∀ l H',Same H H'->H l=none->H' l=some (.lst ((ns.map fun(n:Nat)=>(n:Int)).map V.int))->Q (.ref l) H'
def ky(K:Frag):TS:=
 (tSeq (sComp 2 [none,none,some 0] (iList K (tVar 1)) (gName 1) tTrue (tCall (dN K) [] E0 (tCons (tVar 1) (tCons (tC (.int 0)) (tCons (tOp cSub (tCall (bM K) [] E0 (tCons (tVar 2) tNil)) (tC (.int 1))) tNil)))))
  (tSeq (tIfS (tTest (tOp (cEq K) (tVar 2) (tLst tNil))) cq tNext)
  (tSeq (tIfS (tTest (tOp (cNe K) (sK (tVar 2)) (tCB kLen (tCons (tVar 2) tNil)))) cq tNext)
  (tRet (tVar 2)))))
variable{ns:List Nat}
theorem vj(h:ns.Nodup):(ns.map fun(n:Nat)=>(n:Int)).Nodup:=by
 induction ns with
 | nil=>exact On
 | cons a r ih=>
  rw[M6] at h;rw[Mx,M6];refine⟨fun z=>?_,ih h.2⟩;obtain⟨b,hb,e⟩:=Mg.mp z
  exact h.1 (by have:b=a:=by omega
                exact this ▸ hb)
theorem yz(h:kx K vs H Q E):ky K (eD9 Q) (start ["floor","words","cells"] vs) H:=by
 obtain⟨a,p,h,w,g,ns,rfl,ha,F,hp,hne,hn16,hlt,hnd,q⟩:=h;obtain⟨h0,h1,w0,w1,m16,g0,g1⟩:=F;show ky K _ [some (.ref a),some (.ref p),none] H;unfold ky;symm;refine⟨⟨_,Ml hp⟩,?_⟩;refine bI (xs:=((ns.map numC).map tx).map V.str) (fun _=>true) (fun i=>.int (ns.getD i 0:Nat)) (by simp;omega) (Ml hp) ?_ ?_ ?_
 . intro i x H1 R hx s1 k1;exact k1 _ (L3 _)
 . intro i x H1 Q1 hx hb s1 k1;rw[L9,L9,L9] at hx
   cases e:ns[i]? with
   | none=>rw[e] at hx;cases hx
   | some n=>
    rw[e] at hx;cases hx;have hm:=hlt n (L5 e);show tCall _ _ _ _ [none,some (.str (tx (numC n))),some (.ref a)] H1 Q1;symm;refine⟨a,h,w,g,rfl,s1 _ _ ha,h0,h1,?_⟩;symm;refine⟨n,0,_,rfl,by omega,by omega,by omega,fun H2 s2=>?_⟩;have q1:=k1 _ s2;have eg:ns.getD i 0=n:=by rw[List.getD,e];rfl
    rw[eg] at q1;exact q1
 . intro l H1 hl s1 el
   have ec:((List.range (((ns.map numC).map tx).map V.str).length).filter fun _=>true).map (fun i=>V.int (ns.getD i 0:Nat))=(ns.map fun(n:Nat)=>(n:Int)).map V.int:=by
    rw[a9,LV,LV,LV,MH];refine No fun i=>?_;rw[L9,L9];by_cases h:i<ns.length
    . rw[Nf h,LW h];simp[List.getD,h]
    . rw[Mt (by simpa using h),Mt (by omega)];rfl
   rw[ec] at el;symm;rw[ay];symm;refine⟨aN (by decide),fun z hz=>?_⟩;have s2:Same H1 (upd H1 z (.lst [])):=(L3 H1).laid hz;refine sH (s2 _ _ el) (ys:=[]) ag ?_;generalize upd H1 z (.lst [])=H2 at*;symm;rw[L0 (by simpa using hne)];refine iteF ?_;symm;rw[ay];symm;refine⟨l,_,rfl,s2 _ _ el,by rw[LV];omega,?_⟩;rw[bd (s2 _ _ el),LV];symm;rw[LY (by rw[(E9 _).mpr (vj hnd)])];refine iteF ?_;symm;exact q l _ (s1.trans s2) hl (s2 _ _ el)
def allK:RK->Bool
 | .Joined=>true
 | .NoSquare=>true
 | .Ring=>true
 | _=>false
def numK:RK->Bool
 | .Sum=>true
 | .Seen=>true
 | .Count=>true
 | _=>false
def sgnK:RK->Bool
 | .Count=>true
 | .Joined=>true
 | .NoSquare=>true
 | .Ring=>true
 | _=>false
theorem Hk(k:RK):decide (tx (nmC k)∈fj)=allK k:=by cases k <;> decide+kernel
theorem Hl(k:RK):decide (tx (nmC k)∈gj)=numK k:=by cases k <;> decide+kernel
theorem Hm(k:RK):decide (tx (nmC k)∈fw)=sgnK k:=by cases k <;> decide+kernel
structure xb(k:RK)(h w:Int)(ns:List Nat)(cs:List Int):Prop where
 told:allK k=false->ns≠[]/\ns.length<=16/\(∀ n∈ns,(n:Int)<h*w)/\ns.Nodup/\cs=ns.map fun(n:Nat)=>(n:Int)
 all:allK k=true->ns=[]/\cs=rngL 0 (h*w)
def nO(K:Frag):Sp:=fun vs H Q _=>∃(k:RK) (a p:Addr) (h w g:Int) (ns:List Nat) (cs:List Int),vs=[.ref a,.str (tx (nmC k)),.ref p]/\IsFl H a h w g/\FlOk h w g/\H p=some (.lst (((ns.map numC).map tx).map V.str))/\xb k h w ns cs/\(∀ n∈ns,n<100)/\
 ∀ l H',Same H H'->H l=none->H' l=some (.lst (cs.map V.int))->Q (.ref l) H'
def nP(K:Frag):TS:=
 (tSeq (tIfS (tB (tInG fj true (tVar 1))) (tRet (tCall (kx K) [] E0 (tCons (tVar 0) (tCons (tVar 2) tNil)))) tNext)
  (tSeq (tIfS (tTest (tOp (cNe K) (tVar 2) (tLst tNil))) cq tNext)
  (tRet (kj (tCons (tCall (bM K) [] E0 (tCons (tVar 0) tNil)) tNil)))))
theorem AR(h:nO K vs H Q E):nP K (eD9 Q) (start ["floor","name","words"] vs) H:=by
 obtain⟨k,a,p,h,w,g,ns,cs,rfl,ha,F,hp,hc,hn,q⟩:=h;obtain⟨h0,h1,w0,w1,m16,g0,g1⟩:=id F;have mpos:0<=h*w:=NJ (by omega) (by omega);show nP K _ [some (.ref a),some (.str (tx (nmC k))),some (.ref p)] H;unfold nP;rw[aJ,ay];symm;rw[Hk]
 cases hk:allK k with
 | false=>
  obtain⟨c1,c2,c3,c4,rfl⟩:=hc.told hk;symm;exact⟨a,p,h,w,g,ns,rfl,ha,F,hp,c1,c2,c3,c4,q⟩
 | true=>
  obtain⟨rfl,rfl⟩:=hc.all hk;symm;rw[ay];symm;refine⟨aN (by decide),fun z hz=>?_⟩;have s1:Same H (upd H z (.lst [])):=(L3 H).laid hz;refine Hj (xs:=[]) (ys:=[]) (s1 _ _ hp) ag (fun x hx=>nomatch hx) (fun x hx=>nomatch hx) ?_;generalize upd H z (.lst [])=H1 at*;symm;refine⟨a,h,w,g,rfl,s1 _ _ ha,h0,h1,?_⟩;symm;refine⟨h*w,rfl,by omega,by omega,fun l hl=>?_⟩;exact q l _ (s1.laid hl) (s1.free hl) ag
def pP(K:Frag)(c:RCl RK):Sp:=fun vs H Q _=>∃(k:RK) (p W C:Addr) (ws:List (List Nat)) (cs:List Int) (n m:Int),vs=[.ref p,.ref W,.ref C,.int n,.int m]/\k≠.Rule/\c.ok k=true/\H W=some (.lst (((nmC k::ws).map tx).map V.str))/\H C=some (.lst (cs.map V.int))/\
 ∀ r H',Same H H'->H r=none->IsRule H' c k r p (nmC k::ws) cs n m->Q (.ref r) H'
def pQ(K:Frag)(c:RCl RK):TS:=
 (tSeq (tAsg (tOp cIx (tVar 1) (tC (.int 0))) (gName 5))
  (tSeq (tIfS (tTest (tOp (cEq K) (tVar 5) (tC (.str (tx [117,110,108,105,107,101]))))) (tRet (tMake (c.A .Unlike) (aM K c) [] E0 (tCons (tVar 0) (tCons (tVar 1) (tCons (tVar 2) (tCons (tVar 3) (tCons (tVar 4) tNil))))))) tNext)
  (tSeq (tIfS (tTest (tOp (cEq K) (tVar 5) (tC (.str (tx [115,117,109]))))) (tRet (tMake (c.A .Sum) (aM K c) [] E0 (tCons (tVar 0) (tCons (tVar 1) (tCons (tVar 2) (tCons (tVar 3) (tCons (tVar 4) tNil))))))) tNext)
  (tSeq (tIfS (tTest (tOp (cEq K) (tVar 5) (tC (.str (tx [114,105,115,105,110,103]))))) (tRet (tMake (c.A .Rising) (aM K c) [] E0 (tCons (tVar 0) (tCons (tVar 1) (tCons (tVar 2) (tCons (tVar 3) (tCons (tVar 4) tNil))))))) tNext)
  (tSeq (tIfS (tTest (tOp (cEq K) (tVar 5) (tC (.str (tx [115,101,101,110]))))) (tRet (tMake (c.A .Seen) (aM K c) [] E0 (tCons (tVar 0) (tCons (tVar 1) (tCons (tVar 2) (tCons (tVar 3) (tCons (tVar 4) tNil))))))) tNext)
  (tSeq (tIfS (tTest (tOp (cEq K) (tVar 5) (tC (.str (tx [99,111,117,110,116]))))) (tRet (tMake (c.A .Count) (aM K c) [] E0 (tCons (tVar 0) (tCons (tVar 1) (tCons (tVar 2) (tCons (tVar 3) (tCons (tVar 4) tNil))))))) tNext)
  (tSeq (tIfS (tTest (tOp (cEq K) (tVar 5) (tC (.str (tx [106,111,105,110,101,100]))))) (tRet (tMake (c.A .Joined) (aM K c) [] E0 (tCons (tVar 0) (tCons (tVar 1) (tCons (tVar 2) (tCons (tVar 3) (tCons (tVar 4) tNil))))))) tNext)
  (tSeq (tIfS (tTest (tOp (cEq K) (tVar 5) (tC (.str (tx [110,111,115,113,117,97,114,101]))))) (tRet (tMake (c.A .NoSquare) (aM K c) [] E0 (tCons (tVar 0) (tCons (tVar 1) (tCons (tVar 2) (tCons (tVar 3) (tCons (tVar 4) tNil))))))) tNext)
  (tSeq (tIfS (tTest (tOp (cEq K) (tVar 5) (tC (.str (tx [114,105,110,103]))))) (tRet (tMake (c.A .Ring) (aM K c) [] E0 (tCons (tVar 0) (tCons (tVar 1) (tCons (tVar 2) (tCons (tVar 3) (tCons (tVar 4) tNil))))))) tNext)
  cq)))))))))
theorem Gc{k:RK}{W C:Addr}{ws:List (List Nat)}{n m:Int}(ok:c.ok k=true)(hW:H W=some (.lst ((ws.map tx).map V.str)))(hC:H C=some (.lst (cs.map V.int)))(q:∀ r H',Same H H'->H r=none->IsRule H' c k r p ws cs n m->Q (.ref r) H'):
  ∀ x dx,H x=none->H dx=none->dx≠x->aM K c (.ref x::([.ref p,.ref W,.ref C,.int n,.int m]++[])) (upd (upd H dx (.own x)) x (.ins (c.A k) dx [])) (fun v H2=>v=.non/\Q (.ref x) H2) E0:=by
 intro x dx hx hd ne;refine⟨k,x,dx,p,W,C,ws,cs,n,m,rfl,ok,ag,az hW hx,az hC hx,?_,?_,fun H' hs hr=>⟨rfl,q x H' (fun b o e=>hs b o (az e hx) ?_) hx hr⟩⟩
 . rw[ai (az hW hx),ai (az hW hd)];exact hW
 . rw[ai (az hC hx),ai (az hC hd)];exact hC
 . rw[ai (az e hx),ai (az e hd)];exact e
theorem Ch(h:pP K c vs H Q E):pQ K c (eD9 Q) (start ["floor","words","cells","amount","mark","name"] vs) H:=by
 obtain⟨k,p,W,C,ws,cs,n,m,rfl,hk,ok,hW,hC,q⟩:=h;have mk:=Gc (K:=K) ok hW hC q;have e0:atI (((nmC k::ws).map tx).map V.str) 0=some (V.str (tx (nmC k))):=d5 (j:=0) rfl;show pQ K c _ [some (.ref p),some (.ref W),some (.ref C),some (.int n),some (.int m),none] H;unfold pQ;symm;refine ixL hW e0 ?_
 have D:∀(l:List Nat) (t:TS) (u:TS) (D:Ends) (b:Bool),decide (nmC k=l)=b->(if b=true then t D [some (.ref p),some (.ref W),some (.ref C),some (.int n),some (.int m),some (.str (tx (nmC k)))] H else u D [some (.ref p),some (.ref W),some (.ref C),some (.int n),some (.int m),some (.str (tx (nmC k)))] H)->
   tIfS (tTest (tOp (cEq K) (tVar 5) (tC (.str (tx l))))) t u D [some (.ref p),some (.ref W),some (.ref C),some (.int n),some (.int m),some (.str (tx (nmC k)))] H:=fun l t u D b hb hq=>by
  rw[ay];symm;rw[bg,hb];exact hq
 have R:∀(D:Ends),D.rt=Q->tRet (tMake (c.A k) (aM K c) [] E0 (tCons (tVar 0) (tCons (tVar 1) (tCons (tVar 2) (tCons (tVar 3) (tCons (tVar 4) tNil)))))) D [some (.ref p),some (.ref W),some (.ref C),some (.int n),some (.int m),some (.str (tx (nmC k)))] H:=fun D hD=>by
  symm;rw[hD];exact mk
 cases k with
 | Rule=>exact absurd rfl hk
 | Unlike=>exact D _ _ _ _ true (by decide) (iteT (R _ rfl))
 | Sum=>exact D _ _ _ _ false (by decide) (iteF (D _ _ _ _ true (by decide) (iteT (R _ rfl))))
 | Rising=>exact D _ _ _ _ false (by decide) (iteF (D _ _ _ _ false (by decide) (iteF (D _ _ _ _ true (by decide) (iteT (R _ rfl))))))
 | Seen=>exact D _ _ _ _ false (by decide) (iteF (D _ _ _ _ false (by decide) (iteF (D _ _ _ _ false (by decide) (iteF (D _ _ _ _ true (by decide) (iteT (R _ rfl))))))))
 | Count=>exact D _ _ _ _ false (by decide) (iteF (D _ _ _ _ false (by decide) (iteF (D _ _ _ _ false (by decide) (iteF (D _ _ _ _ false (by decide) (iteF (D _ _ _ _ true (by decide) (iteT (R _ rfl))))))))))
 | Joined=>exact D _ _ _ _ false (by decide) (iteF (D _ _ _ _ false (by decide) (iteF (D _ _ _ _ false (by decide) (iteF (D _ _ _ _ false (by decide) (iteF (D _ _ _ _ false (by decide) (iteF (D _ _ _ _ true (by decide) (iteT (R _ rfl))))))))))))
 | NoSquare=>exact D _ _ _ _ false (by decide) (iteF (D _ _ _ _ false (by decide) (iteF (D _ _ _ _ false (by decide) (iteF (D _ _ _ _ false (by decide) (iteF (D _ _ _ _ false (by decide) (iteF (D _ _ _ _ false (by decide) (iteF (D _ _ _ _ true (by decide) (iteT (R _ rfl))))))))))))))
 | Ring=>exact D _ _ _ _ false (by decide) (iteF (D _ _ _ _ false (by decide) (iteF (D _ _ _ _ false (by decide) (iteF (D _ _ _ _ false (by decide) (iteF (D _ _ _ _ false (by decide) (iteF (D _ _ _ _ false (by decide) (iteF (D _ _ _ _ false (by decide) (iteF (D _ _ _ _ true (by decide) (iteT (R _ rfl))))))))))))))))
def rowW(k:RK)(n m:Nat)(ns:List Nat):List (List Nat):=nmC k::((if numK k then [numC n] else [])++(if sgnK k then [numC m] else [])++ns.map numC)
structure zN(k:RK)(h w g:Int)(n m:Nat)(ns:List Nat)(cs:List Int):Prop where
 k0:k≠.Rule
 n0:n<=99
 nz:numK k=false->n=0
 m0:sgnK k=true->1<=(m:Int)/\(m:Int)<=g
 mz:sgnK k=false->m=0
 cl:xb k h w ns cs
 ns0:∀ x∈ns,x<100
 len:ns.length<=16
def lT(K:Frag)(c:RCl RK):Sp:=fun vs H Q _=>∃(k:RK) (p:Addr) (h w g:Int) (n m:Nat) (ns:List Nat) (cs:List Int),vs=[.ref p,.str (tx (catL 32 (rowW k n m ns)))]/\IsFl H p h w g/\FlOk h w g/\zN k h w g n m ns cs/\c.ok k=true/\
 ∀ r H',Same H H'->H r=none->IsRule H' c k r p (rowW k n m ns) cs n m->Q (.ref r) H'
def fk(K:Frag)(c:RCl RK):TS:=
 (tRet (tCall (pP K c) [] E0 (tCons (tVar 0) (tCons (tVar 2) (tCons (tCall (nO K) [] E0 (tCons (tVar 0) (tCons (tVar 3) (tCons (tVar 4) tNil)))) (tCons (tVar 5) (tCons (tVar 6) tNil)))))))
def iV(K:Frag)(c:RCl RK):TS:=
 (tSeq (tAsg (tOp cIx (tVar 2) (tC (.int 0))) (gName 3))
  (tSeq (tAsg (tSl kr (tVar 2) (tPart (tC (.int 1))) fR) (gName 4))
  (tSeq (tAsg (tC (.int 0)) (gName 5))
  (tSeq (tAsg (tC (.int 0)) (gName 6))
  (tSeq (tIfS (tB (tInG gj false (tVar 3))) (tSeq (tAsg (tCall (cN K) [] E0 (tCons (tVar 4) (tCons (tC (.int 0)) (tCons (tC (.int 99)) tNil)))) (gName 5))
  (tAsg (tSl kr (tVar 4) (tPart (tC (.int 1))) fR) (gName 4))) tNext)
  (tSeq (tIfS (tB (tInG fw false (tVar 3))) (tSeq (tAsg (tCall (cN K) [] E0 (tCons (tVar 4) (tCons (tC (.int 1)) (tCons (tOp cIx (tVar 0) (tC (.int 2))) tNil)))) (gName 6))
  (tAsg (tSl kr (tVar 4) (tPart (tC (.int 1))) fR) (gName 4))) tNext)
  (fk K c)))))))
def lU(K:Frag)(c:RCl RK):TS:=
 (tSeq (tIfS (tNot (tB (tCB kIsi (tCons (tVar 1) (tCons (tC (.ty "str")) tNil))))) cq tNext)
  (tSeq (tAsg (tBM K "str" va (tVar 1) (tCons (tC (.str (tx [32]))) tNil)) (gName 2))
  (iV K c)))
theorem Gd(k:RK):32∉nmC k:=by cases k <;> decide
variable{m:Nat}
theorem DN{k:RK}(hn:n<100)(hm:m<100)(hs:∀ x∈ns,x<100):∀ r∈rowW k n m ns,32∉r:=by
 intro r hr;unfold rowW at hr;rcases Mn.mp hr with rfl | hr
 . exact Gd k
 rcases Mj.mp hr with hr | hr
 . rcases Mj.mp hr with hr | hr
   . split at hr
     . rw[Ma.mp hr];exact ud hn
     . cases hr
   . split at hr
     . rw[Ma.mp hr];exact ud hm
     . cases hr
 . obtain⟨x,hx,rfl⟩:=Mg.mp hr;exact ud (hs x hx)
theorem Fa(xs:List V):cutV xs (some 1) none=xs.drop 1:=by
 unfold cutV;have h1:HT.sIx xs.length 0 (some 1)=min 1 xs.length:=HT.sIx_nat ..;have h2:HT.sIx xs.length xs.length none=xs.length:=rfl;rw[h1,h2]
 cases xs with
 | nil=>rfl
 | cons x r=>
  have:min 1 (x::r).length=1:=by simp
  rw[this];show(r).take _=r;rw[M4 (by simp)]
theorem mI {k:RK} {W R:Addr} {h w g:Int} {ws:List (List Nat)} {lv:V} (F:FlOk h w g) (ha:IsFl H p h w g) (hW:H W=some (.lst (((nmC k::ws).map tx).map V.str))) (hR:H R=some (.lst (((ns.map numC).map tx).map V.str))) (hc:xb k h w ns cs) (hn:∀ x∈ns,x<100) (k0:k≠.Rule) (ok:c.ok k=true)
  (q:∀ r H',Same H H'->H r=none->IsRule H' c k r p (nmC k::ws) cs n m->Q (.ref r) H'):
  fk K c (eD9 Q) [some (.ref p),some lv,some (.ref W),some (.str (tx (nmC k))),some (.ref R),some (.int n),some (.int m)] H:=by
 unfold fk;symm;refine⟨k,p,R,h,w,g,ns,cs,rfl,ha,F,hR,hc,hn,fun l H1 s1 hl el=>?_⟩;symm;exact⟨k,p,W,l,ws,cs,n,m,rfl,k0,ok,s1 _ _ hW,el,fun r H2 s2 hr x=>q r H2 (s1.trans s2) (s1.free hr) x⟩
theorem AS{k:RK}(h:ns.length<=16):(rowW k n m ns).length<=100/\∀ w∈rowW k n m ns,w.length<=100:=by
 unfold rowW;refine⟨?_,fun w hw=>?_⟩
 . simp only[My,Mz,LV]
   split <;> split <;> simp <;> omega
 . rcases Mn.mp hw with rfl | hw
   . cases k <;> decide
   have h2:∀ x,(numC x).length<=100:=fun x=>Mi sL (by decide);rcases Mj.mp hw with hw | hw
   . rcases Mj.mp hw with hw | hw
     . split at hw
       . rw[Ma.mp hw];exact h2 _
       . cases hw
     . split at hw
       . rw[Ma.mp hw];exact h2 _
       . cases hw
   . obtain⟨x,hx,rfl⟩:=Mg.mp hw;exact h2 _
theorem vk:∀(LK:List (List Nat)),(∀ r∈LK,r.length<=100)->(catL 32 LK).length<=101*LK.length
 | [],_=>M2 _
 | [x],h=>by
  have:=h x Mf;show x.length<=101*1;omega
 | x::y::r,h=>by
  have h1:=h x Mf;have ih:=vk (y::r) fun z hz=>h z (Mc _ hz);have e:catL 32 (x::y::r)=x++32::catL 32 (y::r):=by first | rfl | simp[catL]
  rw[e,Mz,My,My];omega
theorem xc{x:Str}(hp:H p=some (.lst ((x::xs).map V.str)))(q:∀ l,H l=none->Q (.ref l) (upd H l (.lst (xs.map V.str)))):kr (.ref p) (some 1) none H Q:=by
 refine sJ hp fun l hl=>?_;rw[Fa];exact q l hl
theorem vm {k:RK} {W:Addr} {h w g:Int} {lv:V} (F:FlOk h w g) (ha:IsFl H p h w g) (hW:H W=some (.lst (((rowW k n m ns).map tx).map V.str))) (O:zN k h w g n m ns cs) (ok:c.ok k=true)
  (q:∀ r H',Same H H'->H r=none->IsRule H' c k r p (rowW k n m ns) cs n m->Q (.ref r) H'):
  iV K c (eD9 Q) [some (.ref p),some lv,some (.ref W),none,none,none,none] H:=by
 obtain⟨k0,n0,nz,m0,mz,cl,ns0,len⟩:=O;obtain⟨h0,h1,w0,w1,m16,g0,g1⟩:=id F;have e0:atI (((rowW k n m ns).map tx).map V.str) 0=some (V.str (tx (nmC k))):=d5 (j:=0) rfl;have hns:WOk (ns.map numC):=fun v hv=>by obtain⟨x,hx,rfl⟩:=Mg.mp hv;exact w9 (ns0 x hx)
 unfold iV;symm;refine ixL hW e0 ?_;symm;refine xc hW fun R hR=>?_;obtain⟨H1,z9,s1,eR⟩:=aS (.lst ((((if numK k then [numC n] else [])++(if sgnK k then [numC m] else [])++ns.map numC).map tx).map V.str)) hR;rw[z9];symm
 have two:∀{H2:Hp} {R2:Addr},Same H H2->H2 R2=some (.lst ((((if sgnK k then [numC m] else [])++ns.map numC).map tx).map V.str))->
   tSeq (tIfS (tB (tInG fw false (tVar 3))) (tSeq (tAsg (tCall (cN K) [] E0 (tCons (tVar 4) (tCons (tC (.int 1)) (tCons (tOp cIx (tVar 0) (tC (.int 2))) tNil)))) (gName 6)) (tAsg (tSl kr (tVar 4) (tPart (tC (.int 1))) fR) (gName 4))) tNext) (fk K c) (eD9 Q)
    [some (.ref p),some lv,some (.ref W),some (.str (tx (nmC k))),some (.ref R2),some (.int n),some (.int 0)] H2:=by
  intro H2 R2 s2 eR2;rw[aJ,ay];symm;rw[Hm]
  cases hs:sgnK k with
  | false=>
   rw[hs] at eR2;have:=mz hs;subst this;symm;exact mI F (s2 _ _ ha) (s2 _ _ hW) eR2 cl ns0 k0 ok fun r H3 s3 hr x=>q r H3 (s2.trans s3) (s2.free hr) x
  | true=>
   rw[hs] at eR2;have hm:=m0 hs;symm;refine ixT (s2 _ _ ha) (v:=V.int g) rfl ?_;symm;refine⟨R2,m,ns.map numC,1,g,rfl,eR2,by omega,hns,hm.1,hm.2,fun H3 s3=>?_⟩;symm;refine xc (s3 _ _ eR2) fun R3 hR3=>?_;have s4:Same H3 (upd H3 R3 (.lst (((ns.map numC).map tx).map V.str))):=(L3 H3).laid hR3;have s24:=(s2.trans s3).trans s4;exact mI F (s24 _ _ ha) (s24 _ _ hW) ag cl ns0 k0 ok fun r H5 s5 hr x=>q r H5 (s24.trans s5) (s24.free hr) x
 rw[ay];symm;rw[Hl]
 cases hn:numK k with
 | false=>
  rw[hn] at eR;have:=nz hn;subst this;symm;exact two s1 eR
 | true=>
  rw[hn] at eR;symm;refine⟨R,n,(if sgnK k then [numC m] else [])++ns.map numC,0,99,rfl,eR,by omega,?_,by omega,by omega,fun H3 s3=>?_⟩
  . intro v hv;rcases Mj.mp hv with hv | hv
    . split at hv
      . rename_i hs
        have:=m0 hs;rw[Ma.mp hv];exact w9 (by omega)
      . cases hv
    . exact hns v hv
  symm;refine xc (s3 _ _ eR) fun R3 hR3=>?_;have s4:Same H3 (upd H3 R3 (.lst ((((if sgnK k then [numC m] else [])++ns.map numC).map tx).map V.str))):=(L3 H3).laid hR3;symm;exact two ((s1.trans s3).trans s4) ag
theorem zO(h:lT K c vs H Q E):lU K c (eD9 Q) (start ["floor","line","words","name","rest","amount","mark"] vs) H:=by
 obtain⟨k,p,h,w,g,n,m,ns,cs,rfl,ha,F,O,ok,q⟩:=h
 have hm:m<100:=by
  by_cases hs:sgnK k=true
  . have:=(O.m0 hs).2;have:=F.g1;omega
  . have:=O.mz (by simpa using hs);omega
 have hsp:Txt.split (tx (catL 32 (rowW k n m ns))) (tx [32])=(rowW k n m ns).map tx:=E6 (by simp[rowW]) (DN (by have:=O.n0;omega) hm O.ns0);have hl:=AS (k:=k) (n:=n) (m:=m) O.len;have hl2:=vk _ hl.2;show lU K c _ [some (.ref p),some (.str (tx (catL 32 (rowW k n m ns)))),none,none,none,none,none] H;unfold lU;rw[aJ,ay];symm;refine⟨FD,?_⟩;rw[F3,hsp];refine⟨by rw[fv];decide,by rw[fv];exact MS (Na hl2 (Na (Nat.mul_le_mul_left 101 hl.1) (by decide))),by rw[LV];exact aN (by omega),fun W hW=>?_⟩;have s1:Same H (upd H W (.lst (((rowW k n m ns).map tx).map V.str))):=(L3 H).laid hW;exact vm F (s1 _ _ ha) ag O ok fun r H2 s2 hr x=>q r H2 (s1.trans s2) (s1.free hr) x
theorem xT{α β:Type}(f:α->β):∀(l:List α) (j:Nat),(l.map f).eraseIdx j=(l.eraseIdx j).map f
 | [],_=>rfl
 | _::_,0=>rfl
 | x::r,j+1=>by
  show f x::(r.map f).eraseIdx j=f x::(r.eraseIdx j).map f;rw[xT f r j]
theorem vn{α:Type}:∀(l:List α) (j:Nat) (h:j<l.length),(l[j]::l.eraseIdx j).Perm l
 | [],_,h=>absurd h (by simp)
 | x::r,0,_=>List.Perm.refl _
 | x::r,j+1,h=>by
  have hj:j<r.length:=by simpa using h
  have ih:=vn r j hj;show(r[j]::x::r.eraseIdx j).Perm (x::r);exact(List.Perm.swap x r[j] (r.eraseIdx j)).trans (List.Perm.cons x ih)
theorem qY{α β:Type}(f:α->β):∀{l:List α},(l.map f).Nodup->l.Nodup
 | [],_=>On
 | a::r,h=>by
  rw[Mx,M6] at h;rw[M6];exact⟨fun z=>h.1 (Mg.mpr ⟨a,z,rfl⟩),qY f h.2⟩
theorem DO(n:Int):(rngL 0 n).Nodup:=by
 unfold rngL;have e:(List.range (n-0).toNat).map (fun(k:Nat)=>0+(k:Int))=(List.range (n-0).toNat).map fun(k:Nat)=>(k:Int):=OU fun k _=>by omega
 rw[e];exact vj List.nodup_range
theorem xf{n x:Int}(h:x∈rngL 0 n):0<=x/\x<n:=by
 unfold rngL at h;obtain⟨k,hk,rfl⟩:=Mg.mp h;have:=Mb.mp hk;omega
def mJ(K:Frag)(c:RCl RK):Sp:=c5 K c .Unlike
def iW(K:Frag)(c:RCl RK):TS:=
 (tSeq (tAsg (aF c c.ok "signs_at" (eJ K c) (tVar 0) (tCons (tVar 1) tNil)) (gName 2))
  (tRet (tOp (cEq K) (sK (tVar 2)) (tCB kLen (tCons (tVar 2) tNil)))))
theorem vo(h:mJ K c vs H Q E):iW K c (eD9 Q) (start ["self","filling","signs"] vs) H:=by
 obtain⟨r,p,f,ws,cs,xs,n,m,h,w,g,rfl,x,ha,F,hf,hC,hx,q⟩:=h;obtain⟨dx,W,C,h1,h2,h3⟩:=x.ex;show iW K c _ [some (.ref r),some (.ref f),none] H;unfold iW;symm;refine methE rfl x.ok h1 (by rfl) ?_;symm;refine⟨r,p,f,ws,cs,xs,n,m,rfl,x,hf,hC,fun l H1 s1 hl el=>?_⟩;have LS:(sgAt xs cs).length<=100:=by unfold sgAt;rw[LV];exact Mi hC.1 (by decide)
 symm;refine⟨l,_,rfl,el,by omega,?_⟩;symm;rw[bd el,LV];symm;have q1:=q _ s1;unfold hoB at q1;dsimp only at q1
 have e:decide (((cntD (sgAt xs cs):Nat):Int)=((sgAt xs cs).length:Nat))=decide (cntD (sgAt xs cs)=(sgAt xs cs).length):=by
  rw[MA,LX,LX];omega
 rw[e];exact q1
theorem AT(xs:List Int)(i:Nat)(y:Int):(xs.map V.int).set i (.int y)=(xs.set i y).map V.int:=by rw[List.map_set]
theorem Bw(h:n<100):((n:Int)).natAbs.log2<1920:=by
 have t:((List.range 100).all fun n=>decide (n.log2<1920))=true:=by decide+kernel
 have:=L6.mp t n (Mb.mpr h)
 simpa using this
theorem Ge(h:n<100)(q:Q (.str (tx (numC n))) H):kStr [.int (n:Int)] H Q:=by
 refine⟨Bw h,?_⟩;rw[Bu h];exact q
theorem DP {C:Addr} {cs:List Nat} {fin:Addr->Hp->Prop} (hC:H C=some (.lst ((cs.map fun(n:Nat)=>(n:Int)).map V.int))) (hl:cs.length<=100) (hc:∀ c∈cs,c<100)
  (hd:∀ l H',H l=none->Same H H'->H' l=some (.lst (((cs.map numC).map tx).map V.str))->fin l H'):CompR (Itl K C) (gName 1) tTrue (tCB kStr (tCons (tVar 1) tNil)) fin [none,none] H:=by
 refine bI (xs:=(cs.map fun(n:Nat)=>(n:Int)).map V.int) (fun _=>true) (fun i=>.str (tx (numC (cs.getD i 0)))) (by simp;omega) (Ml hC) ?_ ?_ ?_
 . intro i x H1 R hx s1 k1;exact k1 _ (L3 _)
 . intro i x H1 Q1 hx hb s1 k1;rw[L9,L9] at hx
   cases e:cs[i]? with
   | none=>rw[e] at hx;cases hx
   | some n=>
    rw[e] at hx;cases hx;show tCB kStr _ [none,some (.int (n:Int))] H1 Q1;symm;have q1:=k1 _ (L3 H1);have eg:cs.getD i 0=n:=by rw[List.getD,e];rfl
    rw[eg] at q1;have:=Ge (H:=H1) (Q:=Q1) (hc n (L5 e)) q1;exact this
 . intro l H1 hl1 s1 el;refine hd l H1 hl1 s1 ?_;rw[el,a9,LV,LV,MH,MH]
   congr 2
   refine No fun i=>?_;rw[L9,L9];by_cases h:i<cs.length
   . rw[Nf h,LW h];simp[List.getD,h]
   . rw[Mt (by simpa using h),Mt (by omega)];rfl
section
variable{X:Cx}{a:Expr}{ta:TE}{pos p:Pos}{x:Str}{ws:List Str}
theorem vp(G:GTup X.K X.mg x ws)(ha:PE X a ta)(hg:Gl X x)(hdb:(x==("__debug__":Str))=false:=by decide)(hm:behindInMarks .In (.Name x p)=false:=by with_unfolding_all rfl):PT X (.Compare a [.In] [.Name x p] pos) (tB (tInG ws false ta)):=by
 obtain⟨q,o,LO,n,h1,h2⟩:=G.ex;have h0:=aj (pos:=pos) (Hf ⟨o,LO,n,h2⟩) ha (cg (v:=V.ref q) hg h1 rfl hdb) hm;intro LJ s σ H Q I h;refine h0 LJ s σ H Q I ?_
 have e:(fun(x:V) (H1:Hp)=>∃ z,x=.str z/\∃ k,V.bl (if false=true then !decide (z∈ws) else decide (z∈ws))=.bl k/\Q k H1)=fun x H1=>∃ z,x=.str z/\(V.ref q=V.ref q)/\∃ k,V.bl (decide (z∈ws))=.bl k/\Q k H1:=by
  funext x H1;simp
 have h':ta σ H (fun(x:V) (H1:Hp)=>∃ z,x=.str z/\∃ k,V.bl (if false=true then !decide (z∈ws) else decide (z∈ws))=.bl k/\Q k H1):=h;rw[e] at h';exact h'
theorem Bx(G:GTup X.K X.mg x ws)(ha:PE X a ta)(hg:Gl X x)(hdb:(x==("__debug__":Str))=false:=by decide)(hm:behindInMarks .NotIn (.Name x p)=false:=by with_unfolding_all rfl):PT X (.Compare a [.NotIn] [.Name x p] pos) (tB (tInG ws true ta)):=by
 obtain⟨q,o,LO,n,h1,h2⟩:=G.ex;have h0:=aj (pos:=pos) (F6 ⟨o,LO,n,h2⟩) ha (cg (v:=V.ref q) hg h1 rfl hdb) hm;intro LJ s σ H Q I h;refine h0 LJ s σ H Q I ?_
 have e:(fun(x:V) (H1:Hp)=>∃ z,x=.str z/\∃ k,V.bl (if true=true then !decide (z∈ws) else decide (z∈ws))=.bl k/\Q k H1)=fun x H1=>∃ z,x=.str z/\(V.ref q=V.ref q)/\∃ k,V.bl (!decide (z∈ws))=.bl k/\Q k H1:=by
  funext x H1;simp
 have h':ta σ H (fun(x:V) (H1:Hp)=>∃ z,x=.str z/\∃ k,V.bl (if true=true then !decide (z∈ws) else decide (z∈ws))=.bl k/\Q k H1):=h;rw[e] at h';exact h'
end
inductive PzK where
 | Puzzle
 deriving DecidableEq
structure RR where
 k:RK
 n:Nat
 m:Nat
 ns:List Nat
 cs:List Int
def RR.ws(r:RR):List (List Nat):=rowW r.k r.n r.m r.ns
def RR.txt(r:RR):Str:=tx (catL 32 r.ws)
def RR.Ok(r:RR)(h w g:Int):Prop:=zN r.k h w g r.n r.m r.ns r.cs
structure IsRules(H:Hp)(c:RCl RK)(p L:Addr)(rs:List Addr)(LK:List RR):Prop where
 top:H L=some (.lst (rs.map V.ref))
 len:rs.length=LK.length
 at_:∀(i:Nat) (r:Addr) (x:RR),rs[i]? =some r->LK[i]? =some x->IsRule H c x.k r p x.ws x.cs x.n x.m
variable{H:Hp}{c:RCl RK}{p:Addr}{rs:List Addr}{LK:List RR}
theorem IsRules.same{H':Hp}{L:Addr}(x:IsRules H c p L rs LK)(s:Same H H'):IsRules H' c p L rs LK:=
 ⟨s _ _ x.top,x.len,fun i r y h1 h2=>(x.at_ i r y h1 h2).same s⟩
variable{a:Addr}{cs:List Int}{xs:List V}{o:HO}
theorem IsRule.lst{k:RK}{r:Addr}{ws:List (List Nat)}{n m:Int}(x:IsRule H c k r p ws cs n m)(ha:H a=some (.lst xs)):IsRule (upd H a o) c k r p ws cs n m:=by
 obtain⟨dx,W,C,h1,h2,h3⟩:=x.ex;refine⟨x.ok,dx,W,C,?_,?_,?_⟩
 . rw[ai (fun e=>by rw[e,ha] at h1;cases h1)];exact h1
 . rw[ai (fun e=>by rw[e,ha] at h2;cases h2)];exact h2
 . rw[ai (fun e=>by rw[e,ha] at h3;cases h3)];exact h3
def pFs(p L G:Addr):List (Str × V):=[("floor",.ref p),("laws",.ref L),("given",.ref G)]
structure bB(c:RCl RK)(h w g:Int)(LK:List RR):Prop where
 F:FlOk h w g
 n:LK.length<=12
 ok:∀ r∈LK,r.Ok h w g
 c:∀ r∈LK,c.ok r.k=true
structure CluesOk(h w g:Int)(cl:List Int):Prop where
 len:cl.length=(h*w).toNat
 ok:∀ x∈cl,0<=x/\x<=g
structure IsPz(H:Hp)(c:RCl RK)(d:RCl PzK)(P L G:Addr)(h w g:Int)(LK:List RR)(cl:List Int):Prop where
 ok:d.ok .Puzzle=true
 R:bB c h w g LK
 C:CluesOk h w g cl
 gv:H G=some (.lst (cl.map V.int))
 ex:∃ dx p rs,H P=some (.ins (d.A .Puzzle) dx (pFs p L G))/\IsFl H p h w g/\IsRules H c p L rs LK
variable{d:RCl PzK}{cl:List Int}
theorem IsPz.same{H':Hp}{P L G:Addr}{h w g:Int}(x:IsPz H c d P L G h w g LK cl)(s:Same H H'):IsPz H' c d P L G h w g LK cl:=by
 obtain⟨dx,p,rs,h1,h2,h3⟩:=x.ex;exact⟨x.ok,x.R,x.C,s _ _ x.gv,dx,p,rs,s _ _ h1,s _ _ h2,h3.same s⟩
theorem IsPz.lst{P L G:Addr}{h w g:Int}(x:IsPz H c d P L G h w g LK cl)(ha:H a=some (.lst xs))(nL:a≠L)(nG:a≠G):IsPz (upd H a o) c d P L G h w g LK cl:=by
 obtain⟨dx,p,rs,h1,h2,h3⟩:=x.ex;refine⟨x.ok,x.R,x.C,by rw[ai nG.symm];exact x.gv,dx,p,rs,?_,?_,⟨by rw[ai nL.symm];exact h3.top,h3.len,fun i r y e1 e2=>(h3.at_ i r y e1 e2).lst ha⟩⟩
 . rw[ai (fun e=>by rw[e,ha] at h1;cases h1)];exact h1
 . show(upd H a o) p=_;rw[ai (fun e=>by rw[e] at h2;rw[show H a=_ from h2] at ha;cases ha)];exact h2
def c6(K:Frag):Sp:=fun vs H Q _=>∃ i:Int,vs=[.int i]/\Q (.bl true) H
def nQ(K:Frag):TS:=
 (tRet (tAndV (tCB kIsi (tCons (tVar 0) (tCons (tC (.ty "int")) tNil))) (tNotV (tCB kIsi (tCons (tVar 0) (tCons (tC (.ty "bool")) tNil))))))
variable{K:Frag}{vs:List V}{Q:VK}{E:XK}
theorem AU(h:c6 K vs H Q E):nQ K (eD9 Q) (start ["value"] vs) H:=by
 obtain⟨i,rfl,q⟩:=h;show nQ K _ [some (.int i)] H;unfold nQ;symm;exact q
def bJ(K:Frag):Sp:=fun vs H Q _=>∃ i m:Int,vs=[.int i,.int m]/\Q (.bl (decide (1<=i)&&decide (i<=m))) H
def gp(K:Frag):TS:=
 (tRet (tAndV (tCall (c6 K) [] E0 (tCons (tVar 0) tNil)) (tAndV (tOp (cCmp fun i j=>decide (i<=j)) (tC (.int 1)) (tVar 0)) (tOp (cCmp fun i j=>decide (i<=j)) (tVar 0) (tVar 1)))))
theorem sQ(h:bJ K vs H Q E):gp K (eD9 Q) (start ["value","most"] vs) H:=by
 obtain⟨i,m,rfl,q⟩:=h;show gp K _ [some (.int i),some (.int m)] H;unfold gp;symm;refine⟨i,rfl,⟨true,rfl,iteT ?_⟩⟩;symm
 cases hb:decide (1<=i) with
 | false=>
  rw[hb,Mm] at q;exact iteF q
 | true=>
  rw[hb,Mq] at q;exact iteT q
def nR(K:Frag):Sp:=fun vs H Q _=>∃ h w g:Int,vs=[.int h,.int w,.int g]/\FlOk h w g/\∀ p,H p=none->Q (.ref p) (upd H p (.tup [.int h,.int w,.int g]))
def nS(K:Frag):TS:=
 (tSeq (tIfS (tNot (tB (tCall (bJ K) [] E0 (tCons (tVar 0) (tCons (tC (.int 6)) tNil))))) cq tNext)
  (tSeq (tIfS (tNot (tB (tCall (bJ K) [] E0 (tCons (tVar 1) (tCons (tC (.int 6)) tNil))))) cq tNext)
  (tSeq (tIfS (tTest (tOp (cCmp fun i j=>decide (j<i)) (tOp cMul (tVar 0) (tVar 1)) (tC (.int 16)))) cq tNext)
  (tSeq (tIfS (tNot (tB (tCall (bJ K) [] E0 (tCons (tVar 2) (tCons (tC (.int 6)) tNil))))) cq tNext)
  (tRet (tTup (tCons (tVar 0) (tCons (tVar 1) (tCons (tVar 2) tNil)))))))))
theorem AV(h:nR K vs H Q E):nS K (eD9 Q) (start ["high","wide","signs"] vs) H:=by
 obtain⟨h,w,g,rfl,F,q⟩:=h;obtain⟨h0,h1,w0,w1,m16,g0,g1⟩:=id F;show nS K _ [some (.int h),some (.int w),some (.int g)] H;unfold nS;rw[aJ,ay];symm;refine⟨h,6,rfl,⟨_,rfl,?_⟩⟩;rw[LY h0,LY h1,PL];refine iteF ?_;rw[ay];symm;refine⟨w,6,rfl,⟨_,rfl,?_⟩⟩;rw[LY w0,LY w1,PL];refine iteF ?_;rw[ay];symm;refine⟨qR h0 h1,?_⟩;rw[L0 (show ¬ (16:Int)<h*w by omega)];refine iteF ?_;rw[ay];symm;refine⟨g,6,rfl,⟨_,rfl,?_⟩⟩;rw[LY g0,LY g1,PL];refine iteF ?_;symm;exact⟨lnR rfl,q⟩
def g8(K:Frag):Sp:=fun vs H Q _=>∃(p:Addr) (h w g:Int),vs=[.ref p]/\IsFl H p h w g/\FlOk h w g/\∀ p,H p=none->Q (.ref p) (upd H p (.tup [.int h,.int w,.int g]))
def g9(K:Frag):TS:=
 (tSeq (tIfS (tOr (tNot (tB (tCB kIsi (tCons (tVar 0) (tCons (tC (.ty "tuple")) tNil))))) (tTest (tOp (cNe K) (tCB kLen (tCons (tVar 0) tNil)) (tC (.int 3))))) cq tNext)
  (tRet (tCall (nR K) [] E0 (tCons (tOp cIx (tVar 0) (tC (.int 0))) (tCons (tOp cIx (tVar 0) (tC (.int 1))) (tCons (tOp cIx (tVar 0) (tC (.int 2))) tNil))))))
theorem uh(h:g8 K vs H Q E):g9 K (eD9 Q) (start ["floor"] vs) H:=by
 obtain⟨p,h,w,g,rfl,hp,F,q⟩:=h;show g9 K _ [some (.ref p)] H;unfold g9;rw[aJ,ay];symm;refine DF hp ?_;symm;rw[Du hp,show(([V.int h,V.int w,V.int g]:List V).length:Int)=3 from rfl];symm;refine ixT hp (v:=V.int h) rfl ?_;symm;refine ixT hp (v:=V.int w) rfl ?_;symm;refine ixT hp (v:=V.int g) rfl ?_;symm;exact⟨h,w,g,rfl,F,q⟩
def kA(K:Frag)(c:RCl RK):Sp:=fun vs H Q _=>∃(p a:Addr) (h w g:Int) (LK:List RR),vs=[.ref p,.ref a]/\IsFl H p h w g/\H a=some (.lst ((LK.map RR.txt).map V.str))/\bB c h w g LK/\
 ∀ l rs H',Same H H'->H l=none->IsRules H' c p l rs LK->Q (.ref l) H'
def kB(K:Frag)(c:RCl RK):TS:=
 (tSeq (tIfS (tTest (tOp (cCmp fun i j=>decide (j<i)) (tCB kLen (tCons (tVar 1) tNil)) (tC (.int 12)))) cq tNext)
  (tRet (tComp [none,none,some 0] (iList K (tVar 1)) (gName 1) tTrue (tCall (lT K c) [] E0 (tCons (tVar 2) (tCons (tVar 1) tNil))))))
theorem yA(h:kA K c vs H Q E):kB K c (eD9 Q) (start ["floor","lines"] vs) H:=by
 obtain⟨p,a,h,w,g,LK,rfl,hp,ha,O,q⟩:=h;have hn:=O.n;show kB K c _ [some (.ref p),some (.ref a)] H;unfold kB;rw[aJ,ay];symm;rw[bd ha,LV,LV];symm;rw[L0 (show ¬ (12:Int) < (LK.length:Nat) by omega)];refine iteF ?_;symm;refine⟨⟨_,Ml ha⟩,?_⟩
 refine qO (xs:=(LK.map RR.txt).map V.str) (fun l i σ H'=>(∃ cv,σ=[none,cv,some (.ref p)])/\Same H H'/\∃ rs:List Addr,H' l=some (.lst (rs.map V.ref))/\rs.length=i/\∀(j:Nat) (r:Addr) (x:RR),rs[j]? =some r->LK[j]? =some x->IsRule H' c x.k r p x.ws x.cs x.n x.m)
  (fun l hl=>⟨⟨none,rfl⟩,(L3 H).laid hl,[],by rw[ag];rfl,rfl,fun j r x e=>by simp at e⟩) (fun l i σ H' _ _ x=>x.2.1.seq (Ml ha)) ?_ ?_
 . rintro l i x σ H1 hl hx ⟨⟨cv,rfl⟩,s1,rs,el,LS,hat⟩;rw[L9,L9] at hx
   cases e:LK[i]? with
   | none=>rw[e] at hx;cases hx
   | some y=>
    rw[e] at hx;cases hx;have hi:=(L1.mp e).1;have hm:=L5 e;rw[aY];show tTrue [none,some (.str y.txt),some (.ref p)] H1 _;symm;refine⟨y.k,p,h,w,g,y.n,y.m,y.ns,y.cs,rfl,s1 _ _ hp,O.F,O.ok y hm,O.c y hm,fun r H2 s2 hr xr=>?_⟩;have nrl:r≠l:=fun z=>by rw[z,el] at hr;cases hr
    refine⟨_,s2 _ _ el,by rw[LV];exact aD (by omega),⟨_,rfl⟩,(s1.trans s2).own hl,rs++[r],by rw[ag];simp,by simp[LS],fun j r' x' h1 h2=>?_⟩;by_cases hj:j<rs.length
    . rw[MG hj] at h1;exact((hat j r' x' h1 h2).same s2).lst (s2 _ _ el)
    . rw[MO (by omega)] at h1
      have hj0:j-rs.length=0:=by
       have:=(L1.mp h1).1;simp at this;omega
      rw[hj0] at h1;have:j=i:=by omega
      subst this;rw[e] at h2;simp at h1;cases h2;subst h1;exact xr.lst (s2 _ _ el)
 . rintro l σ H1 hl ⟨_,s1,rs,el,LS,hat⟩;exact q l rs H1 s1 hl ⟨el,by rw[LS];simp,hat⟩
def filB(least g:Int)(n:Nat)(xs:List Int):Bool:=decide (xs.length=n)&&xs.all fun x=>decide (least<=x)&&decide (x<=g)
def kC(K:Frag):Sp:=fun vs H Q _=>∃(p a:Addr) (h w g least:Int) (xs:List Int),vs=[.ref p,.ref a,.int least]/\IsFl H p h w g/\FlOk h w g/\H a=some (.lst (xs.map V.int))/\xs.length<=100/\∀ H',Same H H'->Q (.bl (filB least g (h*w).toNat xs)) H'
def kD(K:Frag):TS:=
 (tSeq (tIfS (tOr (tNot (tB (tCB kIsi (tCons (tVar 1) (tCons (tC (.ty "list")) tNil))))) (tTest (tOp (cNe K) (tCB kLen (tCons (tVar 1) tNil)) (tCall (bM K) [] E0 (tCons (tVar 0) tNil))))) (tRet (tC (.bl false))) tNext)
  (tRet (tCB kAll (tCons (tComp [none,none,some 0,some 2] (iList K (tVar 1)) (gName 1) tTrue (tAndV (tCall (c6 K) [] E0 (tCons (tVar 1) tNil)) (tAndV (tOp (cCmp fun i j=>decide (i<=j)) (tVar 3) (tVar 1)) (tOp (cCmp fun i j=>decide (i<=j)) (tVar 1) (tOp cIx (tVar 2) (tC (.int 2))))))) tNil))))
theorem yB(h:kC K vs H Q E):kD K (eD9 Q) (start ["floor","filling","least"] vs) H:=by
 obtain⟨p,a,h,w,g,least,xs,rfl,hp,F,ha,hn,q⟩:=h;obtain⟨h0,h1,w0,w1,m16,g0,g1⟩:=id F;have mpos:0<=h*w:=NJ (by omega) (by omega);show kD K _ [some (.ref p),some (.ref a),some (.int least)] H;unfold kD;rw[aJ,ay];symm;refine zy ha ?_;symm;rw[bd ha,LV];symm;refine⟨p,h,w,g,rfl,hp,h0,h1,?_⟩;symm;unfold filB at q;by_cases hl:xs.length=(h*w).toNat
 . rw[LY (show(xs.length:Int)=h*w by omega)];rw[LY hl] at q;symm;refine⟨⟨_,Ml ha⟩,?_⟩;refine bI (xs:=xs.map V.int) (fun _=>true) (fun i=>.bl (decide (least<=xs.getD i 0)&&decide (xs.getD i 0<=g))) (by rw[LV];omega) (Ml ha) ?_ ?_ ?_
   . intro i x H1 R hx s1 k1;exact k1 _ (L3 _)
   . intro i x H1 Q1 hx hb s1 k1;obtain⟨z,hz,rfl⟩:=aQ hx;have q1:=k1 _ (L3 H1);rw[eI hz] at q1;show tAndV _ _ [none,some (.int z),some (.ref p),some (.int least)] H1 Q1;symm;refine⟨z,rfl,⟨true,rfl,iteT ?_⟩⟩;symm
     cases hb:decide (least<=z) with
     | false=>
      rw[hb,Mm] at q1;exact iteF q1
     | true=>
      rw[hb,Mq] at q1;refine iteT ?_;symm;refine ixT (s1 _ _ hp) (v:=V.int g) rfl ?_;symm;exact q1
   . intro l H1 hl1 s1 el
     have eb:((List.range (xs.map V.int).length).filter fun _=>true).map (fun i=>V.bl (decide (least<=xs.getD i 0)&&decide (xs.getD i 0<=g)))=(xs.map fun x=>decide (least<=x)&&decide (x<=g)).map V.bl:=by
      rw[a9,LV];refine No fun i=>?_;rw[L9,L9,L9];by_cases h:i<xs.length
      . rw[Nf h,LW h];simp[List.getD,h]
      . rw[Mt (by simpa using h),Mt (by omega)];rfl
     rw[eb] at el;refine ld el ?_;have ea:(xs.map fun x=>decide (least<=x)&&decide (x<=g)).all id=xs.all fun x=>decide (least<=x)&&decide (x<=g):=by rw[NW];rfl
     rw[ea];exact q _ s1
 . rw[L0 (show ¬ (xs.length:Int)=h*w by omega)];rw[L0 hl] at q;symm;exact q _ (L3 _)
def hJ(K:Frag):Sp:=fun vs H Q _=>∃(p a:Addr) (h w g:Int) (xs:List Int),vs=[.ref p,.ref a]/\IsFl H p h w g/\FlOk h w g/\H a=some (.lst (xs.map V.int))/\CluesOk h w g xs/\∀ l H',Same H H'->H l=none->H' l=some (.lst (xs.map V.int))->Q (.ref l) H'
def hV(K:Frag):TS:=
 (tSeq (tIfS (tNot (tB (tCall (kC K) [] E0 (tCons (tVar 0) (tCons (tVar 1) (tCons (tC (.int 0)) tNil)))))) cq tNext)
  (tRet (tCB kList (tCons (tVar 1) tNil))))
theorem CluesOk.fil{h w g:Int}{xs:List Int}(C:CluesOk h w g xs):filB 0 g (h*w).toNat xs=true:=by
 unfold filB;rw[LY C.len,Mq,L6];intro x hx;have:=C.ok x hx;simp[this.1,this.2]
theorem ui(h:hJ K vs H Q E):hV K (eD9 Q) (start ["floor","clues"] vs) H:=by
 obtain⟨p,a,h,w,g,xs,rfl,hp,F,ha,C,q⟩:=h;obtain⟨h0,h1,w0,w1,m16,g0,g1⟩:=id F;show hV K _ [some (.ref p),some (.ref a)] H;unfold hV;rw[aJ,ay];symm;refine⟨p,a,h,w,g,0,xs,rfl,hp,F,ha,by have:=C.len;omega,fun H1 s1=>?_⟩;rw[C.fil];refine⟨true,rfl,iteF ?_⟩;symm;refine oz (s1 _ _ ha) fun l hl=>?_;exact q l _ (s1.laid hl) (s1.free hl) ag
theorem IsRule.ins{k:RK}{r:Addr}{ws:List (List Nat)}{n m:Int}{C dx:Addr}{fs:List (Str × V)}(x:IsRule H c k r p ws cs n m)(ha:H a=some (.ins C dx fs))(hf:fs.length≠5):IsRule (upd H a o) c k r p ws cs n m:=by
 obtain⟨dx',W,C',h1,h2,h3⟩:=x.ex;refine⟨x.ok,dx',W,C',?_,?_,?_⟩
 . rw[ai (fun e=>by rw[e,ha] at h1;cases h1;exact hf rfl)];exact h1
 . rw[ai (fun e=>by rw[e,ha] at h2;cases h2)];exact h2
 . rw[ai (fun e=>by rw[e,ha] at h3;cases h3)];exact h3
theorem IsRules.ins{L:Addr}{C dx:Addr}{fs:List (Str × V)}(x:IsRules H c p L rs LK)(ha:H a=some (.ins C dx fs))(hf:fs.length≠5):IsRules (upd H a o) c p L rs LK:=
 ⟨by rw[ai (fun e=>by have:=x.top;rw[e,ha] at this;cases this)];exact x.top,x.len,fun i r y h1 h2=>(x.at_ i r y h1 h2).ins ha hf⟩
def bZ(K:Frag)(c:RCl RK)(d:RCl PzK):Sp:=fun vs H Q _=>∃(x dx p a b:Addr) (h w g:Int) (LK:List RR) (cl:List Int),vs=[.ref x,.ref p,.ref a,.ref b]/\d.ok .Puzzle=true/\H x=some (.ins (d.A .Puzzle) dx [])/\IsFl H p h w g/\H a=some (.lst ((LK.map RR.txt).map V.str))/\H b=some (.lst (cl.map V.int))/\bB c h w g LK/\CluesOk h w g cl/\
 ∀ L G H',(∀ y o,y≠x->H y=some o->H' y=some o)->H L=none->H G=none->IsPz H' c d x L G h w g LK cl->Q .non H'
def fz(K:Frag)(c:RCl RK)(d:RCl PzK):TS:=
 (tSeq (sFldK d (tVar 0) (tCall (g8 K) [] E0 (tCons (tVar 1) tNil)) "floor")
  (tSeq (sFldK d (tVar 0) (tCall (kA K c) [] E0 (tCons (tFldK d (tVar 0) "floor") (tCons (tVar 2) tNil))) "laws")
  (sFldK d (tVar 0) (tCall (hJ K) [] E0 (tCons (tFldK d (tVar 0) "floor") (tCons (tVar 3) tNil))) "given")))
theorem qZ(h:bZ K c d vs H Q E):fz K c d (eD9 Q) (start ["self","floor","lines","clues"] vs) H:=by
 obtain⟨x,dx,p,a,b,h,w,g,LK,cl,rfl,ok,hx,hp,ha,hb,R,C,q⟩:=h;show fz K c d _ [some (.ref x),some (.ref p),some (.ref a),some (.ref b)] H;unfold fz sFldK;symm;refine⟨p,h,w,g,rfl,hp,R.F,fun p1 hp1=>?_⟩;have nxp:x≠p1:=az hx hp1;refine⟨x,.Puzzle,dx,[],rfl,ok,by rw[ai nxp];exact hx,by show(0:Nat)<1000;decide,?_⟩
 have f1:∀ y o,y≠x->H y=some o->(upd (upd H p1 (.tup [.int h,.int w,.int g])) x (.ins (d.A .Puzzle) dx (putF "floor" (.ref p1) []))) y=some o:=fun y o ny e=>by
  rw[ai ny,ai (az e hp1)];exact e
 have hx1:(upd (upd H p1 (.tup [.int h,.int w,.int g])) x (.ins (d.A .Puzzle) dx (putF "floor" (.ref p1) []))) x=some (.ins (d.A .Puzzle) dx [("floor",.ref p1)]):=ag
 have hp1':IsFl (upd (upd H p1 (.tup [.int h,.int w,.int g])) x (.ins (d.A .Puzzle) dx (putF "floor" (.ref p1) []))) p1 h w g:=by
  show(upd (upd H p1 (.tup [.int h,.int w,.int g])) x _) p1=_;rw[ai nxp.symm,ag]
 have fr1:∀ l,(upd (upd H p1 (.tup [.int h,.int w,.int g])) x (.ins (d.A .Puzzle) dx (putF "floor" (.ref p1) []))) l=none->H l=none:=fun l e=>by
  have n1:l≠x:=fun z=>by rw[z,ag] at e;cases e
  rw[ai n1] at e;have n2:l≠p1:=fun z=>by rw[z,ag] at e;cases e
  rw[ai n2] at e;exact e
 have nax:a≠x:=fun z=>by rw[z,hx] at ha;cases ha
 have nbx:b≠x:=fun z=>by rw[z,hx] at hb;cases hb
 generalize upd (upd H p1 (.tup [.int h,.int w,.int g])) x (.ins (d.A .Puzzle) dx (putF "floor" (.ref p1) []))=H1 at*;refine fldE (c:=d) (k:=.Puzzle) rfl ok hx1 (v:=.ref p1) (by rfl) ?_;symm;refine⟨p1,a,h,w,g,LK,rfl,hp1',f1 a _ nax ha,R,fun L rs H2 s2 hL X=>?_⟩;refine⟨x,.Puzzle,dx,_,rfl,ok,s2 _ _ hx1,by show(1:Nat)<1000;decide,?_⟩;have nxL:L≠x:=fun z=>by rw[z,hx1] at hL;cases hL
 have X3:=X.ins (o:=.ins (d.A .Puzzle) dx (putF "laws" (.ref L) [("floor",.ref p1)])) (s2 _ _ hx1) (by show(1:Nat)≠5;decide)
 have f2:∀ y o,y≠x->H y=some o->(upd H2 x (.ins (d.A .Puzzle) dx (putF "laws" (.ref L) [("floor",.ref p1)]))) y=some o:=fun y o ny e=>by
  rw[ai ny];exact s2 _ _ (f1 y o ny e)
 have hx3:(upd H2 x (.ins (d.A .Puzzle) dx (putF "laws" (.ref L) [("floor",.ref p1)]))) x=some (.ins (d.A .Puzzle) dx [("floor",.ref p1),("laws",.ref L)]):=ag
 have hp3:IsFl (upd H2 x (.ins (d.A .Puzzle) dx (putF "laws" (.ref L) [("floor",.ref p1)]))) p1 h w g:=by
  show(upd H2 x _) p1=_;rw[ai nxp.symm];exact s2 _ _ hp1'
 have fr3:∀ l,(upd H2 x (.ins (d.A .Puzzle) dx (putF "laws" (.ref L) [("floor",.ref p1)]))) l=none->H1 l=none:=fun l e=>by
  have n1:l≠x:=fun z=>by rw[z,ag] at e;cases e
  rw[ai n1] at e;exact s2.free e
 generalize upd H2 x (.ins (d.A .Puzzle) dx (putF "laws" (.ref L) [("floor",.ref p1)]))=H3 at*;refine fldE (c:=d) (k:=.Puzzle) rfl ok hx3 (v:=.ref p1) (by rfl) ?_;symm;refine⟨p1,b,h,w,g,cl,rfl,hp3,R.F,f2 b _ nbx hb,C,fun G H4 s4 hG eG=>?_⟩;refine⟨x,.Puzzle,dx,_,rfl,ok,s4 _ _ hx3,by show(2:Nat)<1000;decide,?_⟩;have nxG:G≠x:=fun z=>by rw[z,hx3] at hG;cases hG
 refine q L G _ (fun y o ny e=>?_) (fr1 L hL) (fr1 G (fr3 G hG)) ⟨ok,R,C,?_,dx,p1,rs,?_,?_,?_⟩
 . rw[ai ny];exact s4 _ _ (f2 y o ny e)
 . rw[ai nxG];exact eG
 . rw[ag];rfl
 . show(upd H4 x _) p1=_;rw[ai nxp.symm];exact s4 _ _ hp3
 . exact(X3.same s4).ins (s4 _ _ hx3) (by show(2:Nat)≠5;decide)
theorem Hn {Z:Addr->Hp->Prop} {b:Addr} {h w g:Int} (ok:d.ok .Puzzle=true) (hp:IsFl H p h w g) (ha:H a=some (.lst ((LK.map RR.txt).map V.str))) (hb:H b=some (.lst (cl.map V.int))) (R:bB c h w g LK) (C:CluesOk h w g cl)
  (q:∀ P L G H',Same H H'->H P=none->H L=none->H G=none->IsPz H' c d P L G h w g LK cl->Z P H'):
  ∀ x dx,H x=none->H dx=none->dx≠x->bZ K c d (.ref x::([.ref p,.ref a,.ref b]++[])) (upd (upd H dx (.own x)) x (.ins (d.A .Puzzle) dx [])) (fun v H2=>v=.non/\Z x H2) E0:=by
 intro x dx hx hd ne;have k:∀ y o,H y=some o->(upd (upd H dx (.own x)) x (.ins (d.A .Puzzle) dx [])) y=some o:=fun y o e=>by rw[ai (az e hx),ai (az e hd)];exact e
 have fr:∀ y,(upd (upd H dx (.own x)) x (.ins (d.A .Puzzle) dx [])) y=none->H y=none:=fun y e=>by
  have n1:y≠x:=fun z=>by rw[z,ag] at e;cases e
  rw[ai n1] at e;have n2:y≠dx:=fun z=>by rw[z,ag] at e;cases e
  rw[ai n2] at e;exact e
 exact⟨x,dx,p,a,b,h,w,g,LK,cl,rfl,ok,ag,k _ _ hp,k _ _ ha,k _ _ hb,R,C,fun L G H' hs hL hG X=>⟨rfl,q x L G H' (fun y o e=>hs y o (az e hx) (k _ _ e)) hx (fr L hL) (fr G hG) X⟩⟩
def hX(K:Frag)(c:RCl RK)(d:RCl PzK)(_:PzK):Sp:=fun vs H Q _=>∃(P L G:Addr) (h w g:Int) (LK:List RR) (cl:List Int),vs=[.ref P]/\IsPz H c d P L G h w g LK cl/\∀ p,IsFl H p h w g->Q (.ref p) H
def mK(K:Frag)(c:RCl RK)(d:RCl PzK):Sp:=hX K c d .Puzzle
def iX(K:Frag)(c:RCl RK)(d:RCl PzK):TS:=
 (tRet (tFldK d (tVar 0) "floor"))
theorem vq(h:mK K c d vs H Q E):iX K c d (eD9 Q) (start ["self"] vs) H:=by
 obtain⟨P,L,G,h,w,g,LK,cl,rfl,x,q⟩:=h;obtain⟨dx,p,rs,h1,h2,h3⟩:=x.ex;show iX K c d _ [some (.ref P)] H;unfold iX;symm;exact fldE (k:=.Puzzle) rfl x.ok h1 (v:=.ref p) (by rfl) (q p h2)
def uj(K:Frag)(c:RCl RK)(d:RCl PzK)(_:PzK):Sp:=fun vs H Q _=>∃(P L G:Addr) (h w g:Int) (LK:List RR) (cl:List Int),vs=[.ref P]/\IsPz H c d P L G h w g LK cl/\∀ l,H l=none->Q (.ref l) (upd H l (.lst (cl.map V.int)))
def mL(K:Frag)(c:RCl RK)(d:RCl PzK):Sp:=uj K c d .Puzzle
def iY(K:Frag)(c:RCl RK)(d:RCl PzK):TS:=
 (tRet (tCB kList (tCons (tFldK d (tVar 0) "given") tNil)))
theorem vt(h:mL K c d vs H Q E):iY K c d (eD9 Q) (start ["self"] vs) H:=by
 obtain⟨P,L,G,h,w,g,LK,cl,rfl,x,q⟩:=h;obtain⟨dx,p,rs,h1,h2,h3⟩:=x.ex;show iY K c d _ [some (.ref P)] H;unfold iY;symm;refine fldE (k:=.Puzzle) rfl x.ok h1 (v:=.ref G) (by rfl) ?_;symm;exact oz x.gv q
def cu(K:Frag)(c:RCl RK)(d:RCl PzK)(_:PzK):Sp:=fun vs H Q _=>∃(P L G:Addr) (h w g:Int) (LK:List RR) (cl:List Int),vs=[.ref P]/\IsPz H c d P L G h w g LK cl/\∀ l p rs,H l=none->IsFl (upd H l (.lst (rs.map V.ref))) p h w g->IsRules (upd H l (.lst (rs.map V.ref))) c p l rs LK->Q (.ref l) (upd H l (.lst (rs.map V.ref)))
def mM(K:Frag)(c:RCl RK)(d:RCl PzK):Sp:=cu K c d .Puzzle
def iZ(K:Frag)(c:RCl RK)(d:RCl PzK):TS:=
 (tRet (tCB kList (tCons (tFldK d (tVar 0) "laws") tNil)))
theorem vv(h:mM K c d vs H Q E):iZ K c d (eD9 Q) (start ["self"] vs) H:=by
 obtain⟨P,L,G,h,w,g,LK,cl,rfl,x,q⟩:=h;obtain⟨dx,p,rs,h1,h2,h3⟩:=x.ex;show iZ K c d _ [some (.ref P)] H;unfold iZ;symm;refine fldE (k:=.Puzzle) rfl x.ok h1 (v:=.ref L) (by rfl) ?_;symm;refine oz h3.top fun l hl=>?_;have s1:Same H (upd H l (.lst (rs.map V.ref))):=(L3 H).laid hl;exact q l p rs hl (s1 _ _ h2) ⟨ag,h3.len,fun i r y e1 e2=>(h3.at_ i r y e1 e2).same s1⟩
inductive DRows(w:World)(K:Frag):List DictEntry->List (Str × List Str)->Prop
 | nil:DRows w K [] []
 | cons {hsh:Int} {k:Str} {t:Tok} {q:Addr} {o:Obj} {LO:Array Value} {n:Nat} {ws:List Str} {es:List DictEntry} {D:List (Str × List Str)}:hsh=hashStr w k->K.lookup q=some o->o.cls=.type "tuple"->o.data=.seq LO n->LO.size<=sizeLine->Vals (ws.map V.str) LO.toList->DRows w K es D->DRows w K (⟨hsh,.str k t,.ref q⟩::es) ((k,ws)::D)
structure GDict(w:World)(K:Frag)(mg:Str->Option Value)(x:Str)(D:List (Str × List Str)):Prop where
 ex:∃(p:Addr) (o:Obj) (es:Array DictEntry) (ep:Nat),mg x=some (.ref p)/\K.lookup p=some o/\o.ExactDict/\o.data=.dict es ep/\DRows w K es.toList D/\(D.map fun x=>x.1).Nodup
theorem DRows.of{P:Program}{w:World}{K:Frag}{es:List DictEntry}{D:List (Str × List Str)}(h:DRows w K es D):
  ∃ LN:List (Str × Value),Pairs (strKind P w) es LN/\LN.map (fun x=>x.1)=D.map (fun x=>x.1)/\(∀ e∈es,∃ k,(strKind P w).is k e.key=true/\e.hash=(strKind P w).hash k)/\
   ∀ k ws,D.lookup k=some ws->∃ q,valueAt LN k=some (.ref q)/\∃(o:Obj) (LO:Array Value) (n:Nat),K.lookup q=some o/\o.cls=.type "tuple"/\o.data=.seq LO n/\LO.size<=sizeLine/\Vals (ws.map V.str) LO.toList:=by
 induction h with
 | nil=>exact⟨[],.nil,rfl,fun e he=>(by cases he),fun k ws e=>(by cases e)⟩
 | @cons hsh k t q o LO n ws es D h1 h2 h3 h4 h5 h6 _ ih=>
  obtain⟨LN,p1,p2,p3,p4⟩:=ih;have hk:(strKind P w).is k (.str k t)=true:=by show(k==k)=true;simp
  refine⟨(k,.ref q)::LN,.cons hk rfl p1,by rw[Mx,Mx,p2],fun e he=>?_,fun k' ws' e=>?_⟩
  . rcases Mn.mp he with rfl | he
    . exact⟨k,hk,h1⟩
    . exact p3 e he
  . rw[MZ] at e;unfold valueAt;rw[NM];by_cases hkk:k'=k
    . subst hkk;simp at e;subst e;refine⟨q,by simp,o,LO,n,h2,h3,h4,h5,h6⟩
    . have hb:(k'==k)=false:=by simpa using hkk
      rw[hb] at e;have hd:decide (k=k')=false:=L0 (fun z=>hkk z.symm);dsimp only;rw[hd];exact p4 k' ws' e
def tIxG(K:Frag)(D:List (Str × List Str))(te:TE):TE:=fun σ H Q=>te σ H fun y H1=>∃ k ws,y=.str k/\D.lookup k=some ws/\∀ q,SqT K H1 q (ws.map V.str)->Q (.ref q) H1
def rInS(K:Frag):R2:=fun x y H Q=>∃(z:Str) (q:Addr) (ws:List Str),x=.str z/\y=.ref q/\SqT K H q (ws.map V.str)/\Q (.bl (decide (z∈ws))) H
section
variable{X:Cx}{a b:Expr}{ta tb:TE}{pos p:Pos}{x:Str}{D:List (Str × List Str)}
theorem Ho(G:GDict X.w X.K X.mg x D)(hb:PE X b tb)(hg:Gl X x)(hpi:wS b)(hdb:(x==("__debug__":Str))=false:=by decide):PE X (.Subscript (.Name x p) b pos) (tIxG X.K D tb):=by
 obtain⟨pd,o,es,ep,h1,h2,h3,h4,h5,h6⟩:=G.ex;obtain⟨LN,p1,p2,p3,p4⟩:=h5.of (P:=X.prog)
 have ir:IxR X (fun x y H Q=>x=.ref pd/\∃ k ws,y=.str k/\D.lookup k=some ws/\∀ q,SqT X.K H q (ws.map V.str)->Q (.ref q) H):=by
  intro value slice LJ s σ H x y v u Q I rx ry h hs;obtain⟨rfl,k,ws,rfl,hl,q⟩:=h;cases (show v=Value.ref pd from rx);have hget:s.heap.get? pd=some o:=I.kIn pd o h2;have dd:Heap.DictOf (strKind X.prog X.w) s.heap pd LN:=⟨o,es,ep,hget,h3,h4,fun e he=>p3 e (Array.mem_toList_iff.mpr he),p1,by rw[p2];exact h6⟩;obtain⟨qa,hv,o2,LO,n,g1,g2,g3,g4,g5⟩:=p4 k ws hl;obtain⟨t,rfl⟩:∃ t,u=Value.str k t:=ry;have hk:(strKind X.prog X.w).is k (.str k t)=true:=by show(k==k)=true;simp
  refine tail_any dd.typeIs Pa.lookup (wpAny_getItem_of hk dd.mapOf hv ?_) hs;exact⟨.ref qa,H,I.tok _,rfl,q qa (.inr ⟨o2,LO,n,g1,g2,g3,g4,g5⟩)⟩
 have h0:=uW (pos:=pos) ir (cg (pos:=p) (v:=V.ref pd) hg h1 rfl hdb) hb hpi;intro LJ s σ H Q I h;refine h0 LJ s σ H Q I ?_
 have e:(fun(y:V) (H1:Hp)=>∃ k ws,y=.str k/\D.lookup k=some ws/\∀ q,SqT X.K H1 q (ws.map V.str)->Q (.ref q) H1)=fun y H1=>(V.ref pd=V.ref pd)/\∃ k ws,y=.str k/\D.lookup k=some ws/\∀ q,SqT X.K H1 q (ws.map V.str)->Q (.ref q) H1:=by
  funext y H1;simp
 have h':tb σ H (fun(y:V) (H1:Hp)=>∃ k ws,y=.str k/\D.lookup k=some ws/\∀ q,SqT X.K H1 q (ws.map V.str)->Q (.ref q) H1):=h;rw[e] at h';exact h'
theorem Hq:OpR X (compareOp .In) (rInS X.K):=by
 intro LJ s σ H x y v u Q I rx ry h;obtain⟨z,q,ws,rfl,rfl,hq,h⟩:=h;refine mE LJ s σ H _ _ v u Q I rx ry ⟨q,ws.map V.str,rfl,.inr hq,rfl,iC ws,?_⟩;rw[jN];exact h
end
section
variable{K:Frag}{σ:St}{H:Hp}{Q:VK}{te:TE}{D:List (Str × List Str)}
theorem Iv:tIxG K D te σ H Q=te σ H fun y H1=>∃ k ws,y=.str k/\D.lookup k=some ws/\∀ q,SqT K H1 q (ws.map V.str)->Q (.ref q) H1:=rfl
end
def ws5:String:="aJ if_true if_false Bool.false_eq_true decide_true decide_false d9 eh j9 cS cc d7 gJ d8 cR gH gI cQ j7 cT cU cW cX cY cZ cV gK gL gM gG j8 Bool.not_true Bool.not_false aJ "++ws1
local macro_rules|`(tactic|walk_at "w")=>wk9 ws5
def stB(m s:Int):Bool:=decide (1<=s)&&(decide (s<=((Builtin.Int.intBits m:Nat):Int))&&decide (m/2^(s-1).toNat%2=1))
def fC(K:Frag):Sp:=fun vs H Q _=>∃ m s:Int,vs=[.int m,.int s]/\Q (.bl (stB m s)) H
def q5(K:Frag):TS:=
 (tRet (tAndV (tOp (cCmp fun i j=>decide (i<=j)) (tC (.int 1)) (tVar 1)) (tAndV (tOp (cCmp fun i j=>decide (i<=j)) (tVar 1) (B9 K "int" oB (tVar 0))) (tOp (cEq K) (tOp cMod (tOp cShr (tVar 0) (tOp cSub (tVar 1) (tC (.int 1)))) (tC (.int 2))) (tC (.int 1))))))
variable{K:Frag}{vs:List V}{H:Hp}{Q:VK}{E:XK}
theorem DQ(h:fC K vs H Q E):q5 K (eD9 Q) (start ["mask","sign"] vs) H:=by
 obtain⟨m,s,rfl,q⟩:=h;show q5 K _ [some (.int m),some (.int s)] H;unfold q5;symm;unfold stB at q
 cases h1:decide (1<=s) with
 | false=>rw[h1,Mm] at q;exact iteF q
 | true=>
  refine iteT ⟨rfl,?_⟩;symm;rw[h1,Mq] at q
  cases h2:decide (s<=((Builtin.Int.intBits m:Nat):Int)) with
  | false=>rw[h2,Mm] at q;exact iteF q
  | true=>
   rw[h2,Mq] at q;exact iteT ⟨by have:=L4 h1;omega,by decide,q⟩
def ra(K:Frag):Sp:=fun vs H Q _=>∃ s:Int,vs=[.int s]/\1<=s/\s<=100000/\Q (.int (2^(s-1).toNat)) H
def rb(K:Frag):TS:=
 (tSeq (tAsg (tC (.int 1)) (gName 1))
  (tSeq (tFor (de (tCons (tOp cSub (tVar 0) (tC (.int 1))) tNil)) (gName 2)
  (tAsg (tOp cMul (tVar 1) (tC (.int 2))) (gName 1)))
  (tRet (tVar 1))))
theorem DR(h:ra K vs H Q E):rb K (eD9 Q) (start ["sign","bit","step"] vs) H:=by
 obtain⟨s,rfl,h1,h2,q⟩:=h;show rb K _ [some (.int s),none,none] H;unfold rb;symm;refine⟨s-1,rfl,by omega,by omega,?_⟩;refine cF (fun i σ H'=>∃ sv:Option V,σ=[some (.int s),some (.int (2^i)),sv]/\H'=H) ⟨none,rfl,rfl⟩ ?_ ?_
 . rintro i σ H' hi ⟨sv,rfl,rfl⟩;symm;refine⟨.inr ⟨by decide,by decide⟩,?_⟩;simp[Int.pow_succ]
 . rintro σ H' ⟨sv,rfl,rfl⟩;symm;exact q
def woI(m s:Int):Int:=if stB m s=true then m-2^(s-1).toNat else m
def lq(K:Frag):Sp:=fun vs H Q _=>∃ m s:Int,vs=[.int m,.int s]/\s<=100000/\Q (.int (woI m s)) H
def pR(K:Frag):TS:=
 (tRet (tIf (tB (tCall (fC K) [] E0 (tCons (tVar 0) (tCons (tVar 1) tNil)))) (tOp cSub (tVar 0) (tCall (ra K) [] E0 (tCons (tVar 1) tNil))) (tVar 0)))
theorem Ci(h:lq K vs H Q E):pR K (eD9 Q) (start ["mask","sign"] vs) H:=by
 obtain⟨m,s,rfl,h2,q⟩:=h;show pR K _ [some (.int m),some (.int s)] H;unfold pR;symm;refine⟨m,s,rfl,_,rfl,?_⟩;unfold woI at q
 cases hb:stB m s with
 | false=>
  rw[hb,Md L7] at q;exact iteF q
 | true=>
  rw[hb,Mp rfl] at q;refine iteT ⟨s,rfl,?_,h2,?_⟩
  . unfold stB at hb;rw[LZ,LX] at hb;exact hb.1
  . symm;exact q
def ce(K:Frag):Sp:=fun vs H Q _=>∃ m s:Int,vs=[.int m,.int s]/\s<=100000/\Q (.bl (decide (woI m s=0))) H
def nT(K:Frag):TS:=
 (tRet (tOp (cEq K) (tCall (lq K) [] E0 (tCons (tVar 0) (tCons (tVar 1) tNil))) (tC (.int 0))))
theorem AW(h:ce K vs H Q E):nT K (eD9 Q) (start ["mask","sign"] vs) H:=by
 obtain⟨m,s,rfl,h2,q⟩:=h;show nT K _ [some (.int m),some (.int s)] H;unfold nT;symm;refine⟨m,s,rfl,h2,?_⟩;symm;exact q
def sgL(m:Int):List Int:=((List.range (Builtin.Int.intBits m)).filter fun(i:Nat)=>stB m (1+(i:Int))).map fun(i:Nat)=>1+(i:Int)
def bu(K:Frag):Sp:=fun vs H Q _=>∃ m:Int,vs=[.int m]/\Builtin.Int.intBits m<=900/\∀ l H',Same H H'->H l=none->H' l=some (.lst ((sgL m).map V.int))->Q (.ref l) H'
def nU(K:Frag):TS:=
 (tRet (tComp [none,none,some 0] (pD (tCons (tC (.int 1)) (tCons (tOp cAdd (B9 K "int" oB (tVar 0)) (tC (.int 1))) tNil))) (gName 1) (tB (tCall (fC K) [] E0 (tCons (tVar 2) (tCons (tVar 1) tNil)))) (tVar 1)))
theorem AX(h:bu K vs H Q E):nU K (eD9 Q) (start ["mask"] vs) H:=by
 obtain⟨m,rfl,hb,k⟩:=h;show nU K _ [some (.int m)] H;unfold nU;symm;refine⟨rfl,1,_,rfl,by omega,?_⟩;have en:(((Builtin.Int.intBits m:Nat):Int)+1-1).toNat=Builtin.Int.intBits m:=by omega
 rw[en];refine AQ (fun(i:Nat)=>stB m (1+(i:Int))) (fun(i:Nat)=>1+(i:Int)) hb ?_ ?_ ?_
 . intro i H1 R hi s1 k1;show tB _ [none,some (.int (1+(i:Int))),some (.int m)] H1 R;symm;exact⟨m,_,rfl,_,rfl,k1 _ (L3 _)⟩
 . intro i H1 Q1 hi hb s1 k1;exact k1 _ (L3 _)
 . intro l H1 hl s1 el;exact k l H1 s1 hl el
local macro_rules|`(tactic|walk_at "w")=>wk9 ws4
inductive TK where
 | clue | only | place | count | step | sum | square | reach | turn | pair | ways
 deriving DecidableEq
def tkC:TK->List Nat
 | .clue=>[99,108,117,101]
 | .only=>[111,110,108,121]
 | .place=>[112,108,97,99,101]
 | .count=>[99,111,117,110,116]
 | .step=>[115,116,101,112]
 | .sum=>[115,117,109]
 | .square=>[115,113,117,97,114,101]
 | .reach=>[114,101,97,99,104]
 | .turn=>[116,117,114,110]
 | .pair=>[112,97,105,114]
 | .ways=>[119,97,121,115]
def gt_KINDS:List Str:=[tx [99,108,117,101],tx [111,110,108,121],tx [112,108,97,99,101],tx [99,111,117,110,116],tx [115,116,101,112],tx [115,117,109],tx [115,113,117,97,114,101],tx [114,101,97,99,104],tx [116,117,114,110],tx [112,97,105,114],tx [119,97,121,115]]
def gU:List Str:=[tx [99,108,117,101],tx [111,110,108,121],tx [112,108,97,99,101],tx [115,116,101,112],tx [112,97,105,114]]
def fm:List Str:=[tx [99,111,117,110,116],tx [115,117,109],tx [119,97,121,115]]
def gd_RULES_OF_KIND:List (Str × List Str):=[(tx [111,110,108,121],[tx [117,110,108,105,107,101]]),(tx [112,108,97,99,101],[tx [117,110,108,105,107,101]]),(tx [99,111,117,110,116],[tx [99,111,117,110,116]]),(tx [115,116,101,112],[tx [114,105,115,105,110,103]]),(tx [115,117,109],[tx [115,117,109]]),(tx [115,113,117,97,114,101],[tx [110,111,115,113,117,97,114,101]]),(tx [114,101,97,99,104],[tx [106,111,105,110,101,100],tx [114,105,110,103]]),(tx [116,117,114,110],[tx [114,105,110,103]]),(tx [112,97,105,114],[tx [117,110,108,105,107,101]])]
def wsOf:TK->List Str
 | .only=>[tx [117,110,108,105,107,101]]
 | .place=>[tx [117,110,108,105,107,101]]
 | .count=>[tx [99,111,117,110,116]]
 | .step=>[tx [114,105,115,105,110,103]]
 | .sum=>[tx [115,117,109]]
 | .square=>[tx [110,111,115,113,117,97,114,101]]
 | .reach=>[tx [106,111,105,110,101,100],tx [114,105,110,103]]
 | .turn=>[tx [114,105,110,103]]
 | .pair=>[tx [117,110,108,105,107,101]]
 | _=>[]
def goesB:TK->RK->Bool
 | .ways,_=>true
 | .only,.Unlike=>true
 | .place,.Unlike=>true
 | .count,.Count=>true
 | .step,.Rising=>true
 | .sum,.Sum=>true
 | .square,.NoSquare=>true
 | .reach,.Joined=>true
 | .reach,.Ring=>true
 | .turn,.Ring=>true
 | .pair,.Unlike=>true
 | _,_=>false
def lineK:TK->Bool
 | .clue=>true
 | .only=>true
 | .place=>true
 | .step=>true
 | .pair=>true
 | _=>false
def nbrK:TK->Bool
 | .count=>true
 | .sum=>true
 | .ways=>true
 | _=>false
theorem Fc(t:TK):decide (tx (tkC t)∈gt_KINDS)=true:=by cases t <;> decide+kernel
theorem Gf(t:TK):decide (tx (tkC t)∈gU)=lineK t:=by cases t <;> decide+kernel
theorem Hr(t:TK):decide (tx (tkC t)∈fm)=nbrK t:=by cases t <;> decide+kernel
variable{t:TK}
theorem Iw(h1:t≠.clue)(h2:t≠.ways):gd_RULES_OF_KIND.lookup (tx (tkC t))=some (wsOf t):=by
 cases t <;> first | exact absurd rfl h1 | exact absurd rfl h2 | decide+kernel
theorem Gh(h2:t≠.ways)(k:RK):decide (tx (nmC k)∈wsOf t)=goesB t k:=by
 cases t <;> first | exact absurd rfl h2 | (cases k <;> decide+kernel)
theorem Gi(t:TK):decide (tkC t=[119,97,121,115])=decide (t=.ways):=by cases t <;> decide
theorem sM(t:TK):decide (tkC t=[99,108,117,101])=decide (t=.clue):=by cases t <;> decide
theorem By(t:TK):decide (tkC t=[111,110,108,121])=decide (t=.only):=by cases t <;> decide
def lr(K:Frag):Sp:=fun vs H Q _=>∃(p:Addr) (h w g i:Int),vs=[.ref p,.int i]/\IsFl H p h w g/\FlOk h w g/\Q (.bl (decide (0<=i)&&decide (i<h*w))) H
def pS(K:Frag):TS:=
 (tRet (tAndV (tCall (c6 K) [] E0 (tCons (tVar 1) tNil)) (tAndV (tOp (cCmp fun i j=>decide (i<=j)) (tC (.int 0)) (tVar 1)) (tOp (cCmp fun i j=>decide (i<j)) (tVar 1) (tCall (bM K) [] E0 (tCons (tVar 0) tNil))))))
variable{K:Frag}{vs:List V}{H:Hp}{Q:VK}{E:XK}
theorem Cj(h:lr K vs H Q E):pS K (eD9 Q) (start ["floor","value"] vs) H:=by
 obtain⟨p,h,w,g,i,rfl,hp,F,q⟩:=h;show pS K _ [some (.ref p),some (.int i)] H;unfold pS;symm;refine⟨i,rfl,⟨true,rfl,iteT ?_⟩⟩;symm
 cases hb:decide (0<=i) with
 | false=>
  rw[hb,Mm] at q;exact iteF q
 | true=>
  rw[hb,Mq] at q;refine iteT ?_;symm;refine⟨p,h,w,g,rfl,hp,F.h0,F.h1,?_⟩;symm;exact q
def lu(K:Frag):Sp:=fun vs H Q _=>∃(p:Addr) (h w g i:Int),vs=[.ref p,.int i]/\IsFl H p h w g/\Q (.bl (decide (1<=i)&&decide (i<=g))) H
def pT(K:Frag):TS:=
 (tRet (tCall (bJ K) [] E0 (tCons (tVar 1) (tCons (tOp cIx (tVar 0) (tC (.int 2))) tNil))))
theorem Ck(h:lu K vs H Q E):pT K (eD9 Q) (start ["floor","value"] vs) H:=by
 obtain⟨p,h,w,g,i,rfl,hp,q⟩:=h;show pT K _ [some (.ref p),some (.int i)] H;unfold pT;symm;refine ixT hp (v:=V.int g) rfl ?_;symm;exact⟨i,g,rfl,q⟩
def lw(K:Frag)(c:RCl RK):Sp:=fun vs H Q _=>∃(t:TK) (k:RK) (r p:Addr) (ws:List (List Nat)) (cs:List Int) (n m:Int),vs=[.str (tx (tkC t)),.ref r]/\t≠.clue/\IsRule H c k r p (nmC k::ws) cs n m/\Q (.bl (goesB t k)) H
def pU(K:Frag)(c:RCl RK):TS:=
 (tRet (tOrV (tOp (cEq K) (tVar 0) (tC (.str (tx [119,97,121,115])))) (tOp (rInS K) (aF c c.ok "name" (wZ K c) (tVar 1) tNil) (tIxG K gd_RULES_OF_KIND (tVar 0)))))
variable{c:RCl RK}
theorem Cl(h:lw K c vs H Q E):pU K c (eD9 Q) (start ["kind","rule"] vs) H:=by
 obtain⟨t,k,r,p,ws,cs,n,m,rfl,t0,x,q⟩:=h;obtain⟨dx,W,C,h1,h2,h3⟩:=x.ex;show pU K c _ [some (.str (tx (tkC t))),some (.ref r)] H;unfold pU;symm;rw[bg,Gi];by_cases hw:t=.ways
 . subst hw;rw[LY rfl];exact iteT q
 . rw[L0 hw];refine iteF ?_;refine methE (k:=k) rfl x.ok h1 (by rfl) ?_;symm;refine⟨r,p,nmC k,ws,cs,n,m,rfl,x,?_⟩;dsimp only;rw[Iv];symm;refine⟨_,_,rfl,Iw t0 hw,fun qa hq=>?_⟩;refine⟨_,qa,_,rfl,rfl,hq,?_⟩;rw[Gh hw];exact q
def bC(K:Frag)(c:RCl RK):Sp:=fun vs H Q _=>∃(k:RK) (r p:Addr) (ws:List (List Nat)) (cs:List Int) (n m z:Int),vs=[.ref r,.int z]/\IsRule H c k r p ws cs n m/\cs.length<=63/\∀ l H',Same H H'->H l=none->H' l=some (.lst ((cs.filter fun x=>!decide (x=z)).map V.int))->Q (.ref l) H'
def rd(K:Frag)(c:RCl RK):TS:=
 (tRet (tComp [none,none,some 1] (iList K (aF c c.ok "spots" (dM K c) (tVar 0) tNil)) (gName 1) (tTest (tOp (cNe K) (tVar 1) (tVar 2))) (tVar 1)))
theorem DS(h:bC K c vs H Q E):rd K c (eD9 Q) (start ["rule","cell"] vs) H:=by
 obtain⟨k,r,p,ws,cs,n,m,z,rfl,x,hn,q⟩:=h;obtain⟨dx,W,C,h1,h2,h3⟩:=x.ex;show rd K c _ [some (.ref r),some (.int z)] H;unfold rd;rw[cI,bQ];refine methE (k:=k) rfl x.ok h1 (by rfl) ?_;symm;refine⟨r,p,ws,cs,n,m,rfl,x,fun l hl=>?_⟩;obtain⟨H1,z9,s1,el⟩:=aS (.lst (cs.map V.int)) hl;rw[z9];refine⟨l,rfl,⟨_,Ml el⟩,?_⟩;refine bf (xs:=cs) (fun x=>!decide (x=z)) (fun x=>x) (by omega) (Ml el) ?_ ?_ ?_
 . intro y H2 R hy s2 k2;show tTest _ [none,some (.int y),some (.int z)] H2 R;symm;exact k2 _ (L3 _)
 . intro y H2 Q2 hy hb s2 k2;show tVar 1 [none,some (.int y),some (.int z)] H2 Q2;symm;exact k2 _ (L3 _)
 . intro T H2 hT s2 eT;rw[Np] at eT;exact q T H2 (s1.trans s2) (s1.free hT) eT
def hitB(t:TK)(LK:List RR)(r z:Int):Bool:=if r<0 then false else if t=.clue then decide (r=0) else match LK[r.toNat]? with
 | none=>false
 | some x=>goesB t x.k&&decide (z∈x.cs)
def i3(K:Frag)(c:RCl RK)(d:RCl PzK):Sp:=fun vs H Q _=>∃(t:TK) (P L G:Addr) (h w g r z:Int) (LK:List RR) (cl:List Int),vs=[.ref P,.str (tx (tkC t)),.int r,.int z]/\IsPz H c d P L G h w g LK cl/\∀ H',Same H H'->Q (.bl (hitB t LK r z)) H'
def i4(K:Frag)(c:RCl RK)(d:RCl PzK):TS:=
 (tSeq (tIfS (tOr (tNot (tB (tCall (c6 K) [] E0 (tCons (tVar 2) tNil)))) (tTest (tOp (cCmp fun i j=>decide (i<j)) (tVar 2) (tC (.int 0))))) (tRet (tC (.bl false))) tNext)
  (tSeq (tIfS (tTest (tOp (cEq K) (tVar 1) (tC (.str (tx [99,108,117,101]))))) (tRet (tOp (cEq K) (tVar 2) (tC (.int 0)))) tNext)
  (tSeq (tAsg (aF d d.ok "rules" (cu K c d) (tVar 0) tNil) (gName 4))
  (tSeq (tIfS (tTest (tOp (cCmp fun i j=>decide (j<=i)) (tVar 2) (tCB kLen (tCons (tVar 4) tNil)))) (tRet (tC (.bl false))) tNext)
  (tRet (tAndV (tCall (lw K c) [] E0 (tCons (tVar 1) (tCons (tOp cIx (tVar 4) (tVar 2)) tNil))) (tOp (cIn K false) (tVar 3) (aF c c.ok "spots" (dM K c) (tOp cIx (tVar 4) (tVar 2)) tNil))))))))
theorem RR.ws_cons(r:RR):∃ t,r.ws=nmC r.k::t:=⟨_,rfl⟩
variable{d:RCl PzK}
theorem vw(h:i3 K c d vs H Q E):i4 K c d (eD9 Q) (start ["puzzle","kind","number","cell","rules"] vs) H:=by
 obtain⟨t,P,L,G,h,w,g,r,z,LK,cl,rfl,x,q⟩:=h;obtain⟨dx,p,rs,h1,h2,h3⟩:=x.ex;have hN:=x.R.F.m;show i4 K c d _ [some (.ref P),some (.str (tx (tkC t))),some (.int r),some (.int z),none] H;unfold i4;rw[aJ,ay];symm;refine⟨r,rfl,⟨true,rfl,iteF ?_⟩⟩;symm;unfold hitB at q;by_cases hr:r<0
 . rw[Mp hr] at q;rw[LY hr];exact iteT (q _ (L3 _))
 rw[Md hr] at q;rw[L0 hr];refine iteF ?_;rw[ay];symm;rw[bg,sM];by_cases ht:t=.clue
 . rw[Mp ht] at q;rw[LY ht];exact iteT (q _ (L3 _))
 rw[Md ht] at q;rw[L0 ht];refine iteF ?_;refine methE (k:=.Puzzle) rfl x.ok h1 (by rfl) ?_;symm;refine⟨P,L,G,h,w,g,LK,cl,rfl,x,fun l p2 rs2 hl hp2 X=>?_⟩;have s1:Same H (upd H l (.lst (rs2.map V.ref))):=(L3 H).laid hl;generalize upd H l (.lst (rs2.map V.ref))=H1 at*;have LS:=X.len;symm;rw[ay];symm;rw[bd X.top,LV,LS];symm;by_cases hge:(LK.length:Int)<=r
 . rw[LY hge];have e:LK[r.toNat]? =none:=Mt (by omega);rw[e] at q;exact iteT (q _ s1)
 rw[L0 hge];have hlt:r.toNat<LK.length:=by omega
 have er:LK[r.toNat]? =some LK[r.toNat]:=LW hlt;rw[er] at q;have ea:rs2[r.toNat]? =some rs2[r.toNat]:=LW (by omega);have X1:=X.at_ _ _ _ ea er;obtain⟨ws,ews⟩:=RR.ws_cons LK[r.toNat];rw[ews] at X1;have eix:atI (rs2.map V.ref) r=some (V.ref rs2[r.toNat]):=dJ (by omega) ea;refine iteF ?_;refine ixL X.top eix ?_;symm;refine⟨t,_,_,p2,ws,_,_,_,rfl,ht,X1,?_⟩;dsimp only at q
 cases hg:goesB t LK[r.toNat].k with
 | false=>
  rw[hg,Mm] at q;exact⟨false,rfl,iteF (q _ s1)⟩
 | true=>
  rw[hg,Mq] at q;refine⟨true,rfl,iteT ?_⟩;unfold aF;symm;obtain⟨dx1,W1,C1,g1,g2,g3⟩:=X1.ex;refine ixL X.top eix ?_;refine⟨_,LK[r.toNat].k,dx1,_,rfl,X1.ok,g1,by rfl,?_⟩;refine⟨_,p2,_,_,_,_,rfl,X1,fun S hS=>?_⟩;have s2:Same H1 (upd H1 S (.lst (LK[r.toNat].cs.map V.int))):=(L3 H1).laid hS;have eS:(upd H1 S (.lst (LK[r.toNat].cs.map V.int))) S=some (.lst (LK[r.toNat].cs.map V.int)):=ag;dsimp only;rw[nI eS];exact q _ (s1.trans s2)
structure IsTh(H:Hp)(T M:Addr)(t:TK)(r z s:Int)(ms:List Int):Prop where
 T:H T=some (.tup [.str (tx (tkC t)),.int r,.int z,.int s,.ref M])
 M:H M=some (.lst (ms.map V.int))
 n:ms.length<=100
variable{r z s:Int}{ms:List Int}
theorem IsTh.same{H':Hp}{T M:Addr}(x:IsTh H T M t r z s ms)(s':Same H H'):IsTh H' T M t r z s ms:=⟨s' _ _ x.T,s' _ _ x.M,x.n⟩
def formB(h w g:Int)(LK:List RR)(t:TK)(r z s:Int):Bool:=(decide (0<=z)&&decide (z<h*w))&&((decide (1<=s)&&decide (s<=g))&&hitB t LK r z)
def lV(K:Frag)(c:RCl RK)(d:RCl PzK):Sp:=fun vs H Q _=>∃(t:TK) (P L G T M:Addr) (h w g r z s:Int) (LK:List RR) (cl ms:List Int),vs=[.ref P,.ref T]/\IsPz H c d P L G h w g LK cl/\IsTh H T M t r z s ms/\∀ H',Same H H'->Q (.bl (formB h w g LK t r z s)) H'
def i5(K:Frag)(c:RCl RK)(d:RCl PzK):TS:=
 (tRet (tAndV (tCB kIsi (tCons (tOp cIx (tVar 1) (tC (.int 4))) (tCons (tC (.ty "list")) tNil))) (tCB kAll (tCons (tComp [none,none] (iList K (tOp cIx (tVar 1) (tC (.int 4)))) (gName 1) tTrue (tCall (c6 K) [] E0 (tCons (tVar 1) tNil))) tNil))))
def lW(K:Frag)(c:RCl RK)(d:RCl PzK):TS:=
 (tSeq (tIfS (tOr (tNot (tB (tCB kIsi (tCons (tVar 1) (tCons (tC (.ty "tuple")) tNil))))) (tOr (tTest (tOp (cNe K) (tCB kLen (tCons (tVar 1) tNil)) (tC (.int 5)))) (tB (tInG gt_KINDS true (tOp cIx (tVar 1) (tC (.int 0))))))) (tRet (tC (.bl false))) tNext)
  (tSeq (tAsg (aF d d.ok "place" (hX K c d) (tVar 0) tNil) (gName 2))
  (tSeq (tIfS (tOr (tNot (tB (tCall (lr K) [] E0 (tCons (tVar 2) (tCons (tOp cIx (tVar 1) (tC (.int 2))) tNil))))) (tNot (tB (tCall (lu K) [] E0 (tCons (tVar 2) (tCons (tOp cIx (tVar 1) (tC (.int 3))) tNil)))))) (tRet (tC (.bl false))) tNext)
  (tSeq (tIfS (tNot (tB (tCall (i3 K c d) [] E0 (tCons (tVar 0) (tCons (tOp cIx (tVar 1) (tC (.int 0))) (tCons (tOp cIx (tVar 1) (tC (.int 1))) (tCons (tOp cIx (tVar 1) (tC (.int 2))) tNil))))))) (tRet (tC (.bl false))) tNext)
  (i5 K c d)))))
theorem vx{P T M:Addr}{v2:Option V}(x:IsTh H T M t r z s ms)(q:∀ H',Same H H'->Q (.bl true) H'):
  i5 K c d (eD9 Q) [some (.ref P),some (.ref T),v2] H:=by
 have hn:=x.n;unfold i5;symm;refine ixT x.T (v:=V.ref M) rfl ?_;symm;refine zy x.M ?_;symm;refine ixT x.T (v:=V.ref M) rfl ?_;symm;refine⟨⟨_,Ml x.M⟩,?_⟩;refine bI (xs:=ms.map V.int) (fun _=>true) (fun _=>.bl true) (by rw[LV];omega) (Ml x.M) ?_ ?_ ?_
 . intro i y H1 R hy s1 k1;exact k1 _ (L3 _)
 . intro i y H1 Q1 hy hb s1 k1;obtain⟨v,hv,rfl⟩:=aQ hy;show tCall _ _ _ _ [none,some (.int v)] H1 Q1;symm;exact⟨v,rfl,k1 _ (L3 _)⟩
 . intro l H1 hl s1 el
   have eb:((List.range (ms.map V.int).length).filter fun _=>true).map (fun _=>V.bl true)=(List.replicate (ms.map V.int).length true).map V.bl:=by
    rw[a9,List.map_const',MR,O7]
   rw[eb] at el;refine ld el ?_
   have ea:(List.replicate (ms.map V.int).length true).all id=true:=by
    rw[L6];intro b hb;exact(O8.mp hb).2
   rw[ea];exact q _ s1
theorem zP(h:lV K c d vs H Q E):lW K c d (eD9 Q) (start ["puzzle","thought","floor"] vs) H:=by
 obtain⟨t,P,L,G,T,M,h,w,g,r,z,s,LK,cl,ms,rfl,x,y,q⟩:=h;obtain⟨dx,p,rs,h1,h2,h3⟩:=x.ex;show lW K c d _ [some (.ref P),some (.ref T),none] H;unfold lW;rw[aJ,ay];symm;refine DF y.T ?_;symm;rw[Du y.T,show(([.str (tx (tkC t)),.int r,.int z,.int s,.ref M]:List V).length:Int)=5 from rfl];symm;refine ixT y.T (v:=V.str (tx (tkC t))) rfl ?_;symm;rw[Fc];symm;refine methE (k:=.Puzzle) rfl x.ok h1 (by rfl) ?_;symm;refine⟨P,L,G,h,w,g,LK,cl,rfl,x,fun p1 hp1=>?_⟩;symm;rw[ay];symm;refine ixT y.T (v:=V.int z) rfl ?_;symm;refine⟨p1,h,w,g,z,rfl,hp1,x.R.F,?_⟩;unfold formB at q
 cases hb:(decide (0<=z)&&decide (z<h*w)) with
 | false=>
  rw[hb,Mm] at q;exact⟨false,rfl,iteT (q _ (L3 _))⟩
 | true=>
  rw[hb,Mq] at q;refine⟨true,rfl,iteF ?_⟩;refine ixT y.T (v:=V.int s) rfl ?_;symm;refine⟨p1,h,w,g,s,rfl,hp1,?_⟩
  cases hb2:(decide (1<=s)&&decide (s<=g)) with
  | false=>
   rw[hb2,Mm] at q;exact⟨false,rfl,iteT (q _ (L3 _))⟩
  | true=>
   rw[hb2,Mq] at q;refine⟨true,rfl,iteF ?_⟩;rw[ay];symm;refine ixT y.T (v:=V.str (tx (tkC t))) rfl ?_;symm;refine ixT y.T (v:=V.int r) rfl ?_;symm;refine ixT y.T (v:=V.int z) rfl ?_;symm;refine⟨t,P,L,G,h,w,g,r,z,LK,cl,rfl,x,fun H1 s1=>?_⟩
   cases hb3:hitB t LK r z with
   | false=>
    rw[hb3] at q;exact⟨false,rfl,iteT (q _ s1)⟩
   | true=>
    rw[hb3] at q;refine⟨true,rfl,iteF ?_⟩;exact vx (y.same s1) fun H' s2=>q H' (s1.trans s2)
abbrev nsV(cs:List Nat):List V:=(cs.map fun(n:Nat)=>(n:Int)).map V.int
theorem ul(xs:List V){k:Int}(h:0<=k):cutV xs none (some k)=xs.take k.toNat:=by
 unfold cutV;have e:k=((k.toNat:Nat):Int):=by omega
 have h1:HT.sIx xs.length 0 none=0:=rfl
 have h2:HT.sIx xs.length xs.length (some k)=min k.toNat xs.length:=by
  conv=>lhs;rw[e]
  exact HT.sIx_nat ..
 rw[h1,h2];show(xs.drop 0).take _=_;rw[List.drop_zero];by_cases hk:k.toNat<=xs.length
 . rw[Pz hk];rfl
 . rw[Oy (by omega),M4 (by omega),M4 (by omega)]
theorem DT{k:RK}{h w g:Int}{m:Nat}(hk:allK k=true)(k0:k≠.Rule)(hn:numK k=false)(hs:sgnK k=true)(m0:1<=(m:Int))(m1:(m:Int)<=g):RR.Ok ⟨k,0,m,[],rngL 0 (h*w)⟩ h w g:=by
 refine⟨k0,M2 _,fun _=>rfl,fun _=>⟨m0,m1⟩,fun e=>?_,⟨fun e=>?_,fun _=>⟨rfl,rfl⟩⟩,fun x hx=>(by cases hx),M2 _⟩
 . rw[show sgnK k=false from e] at hs;cases hs
 . rw[show allK k=false from e] at hk;cases hk
def clueB(cl:List Int)(z s:Int)(ms:List Int):Bool:=decide (ms=[])&&(!decide (cl.getD z.toNat 0=0)&&!decide (cl.getD z.toNat 0=s))
def i6(K:Frag):Sp:=fun vs H Q _=>∃(C M:Addr) (z s:Int) (cl ms:List Int),vs=[.ref C,.int z,.int s,.ref M]/\H C=some (.lst (cl.map V.int))/\0<=z/\z<cl.length/\H M=some (.lst (ms.map V.int))/\∀ H',Same H H'->Q (.bl (clueB cl z s ms)) H'
def i7(K:Frag):TS:=
 (tRet (tAndV (tOp (cEq K) (tVar 3) (tLst tNil)) (tAndV (tOp (cNe K) (tOp cIx (tVar 0) (tVar 1)) (tC (.int 0))) (tOp (cNe K) (tOp cIx (tVar 0) (tVar 1)) (tVar 2)))))
theorem vy(h:i6 K vs H Q E):i7 K (eD9 Q) (start ["clues","cell","sign","more"] vs) H:=by
 obtain⟨C,M,z,s,cl,ms,rfl,hC,z0,z1,hM,q⟩:=h;show i7 K _ [some (.ref C),some (.int z),some (.int s),some (.ref M)] H;unfold i7;symm;refine⟨aN (by decide),fun l hl=>?_⟩;obtain⟨H1,z9,s1,el⟩:∃ z,upd H l (.lst [])=z/\Same H z/\z l=some (.lst (([]:List Int).map V.int)):=aS _ hl;rw[z9];refine sH (s1 _ _ hM) el ?_;have q1:=q _ s1;unfold clueB at q1
 cases hb:decide (ms=[]) with
 | false=>
  rw[hb,Mm] at q1;exact⟨false,rfl,iteF q1⟩
 | true=>
  rw[hb,Mq] at q1;refine⟨true,rfl,iteT ?_⟩;symm;refine ixI (s1 _ _ hC) z0 z1 ?_;symm
  cases hb2:decide (cl.getD z.toNat 0=0) with
  | true=>
   rw[hb2,NG,Mm] at q1;exact iteF q1
  | false=>
   rw[hb2,N7,Mq] at q1;refine iteT ?_;refine ixI (s1 _ _ hC) z0 z1 ?_;symm;exact q1
def onlyB(cs LI:List Int)(z s:Int)(ms:List Int):Bool:=decide (ms.length=1)&&(decide (ms.getD 0 0∈cs.filter fun x=>!decide (x=z))&&decide (woI (LI.getD (ms.getD 0 0).toNat 0) s=0))
def i8(K:Frag)(c:RCl RK):Sp:=fun vs H Q _=>∃(k:RK) (r p A M:Addr) (ws:List (List Nat)) (cs LI ms:List Int) (n m z s:Int),vs=[.ref r,.ref A,.int z,.int s,.ref M]/\IsRule H c k r p ws cs n m/\aK cs LI.length/\H A=some (.lst (LI.map V.int))/\H M=some (.lst (ms.map V.int))/\s<=1000/\∀ H',Same H H'->Q (.bl (onlyB cs LI z s ms)) H'
def i9(K:Frag)(c:RCl RK):TS:=
 (tRet (tAndV (tOp (cEq K) (tCB kLen (tCons (tVar 4) tNil)) (tC (.int 1))) (tAndV (tOp (cIn K false) (tOp cIx (tVar 4) (tC (.int 0))) (tCall (bC K c) [] E0 (tCons (tVar 0) (tCons (tVar 2) tNil)))) (tCall (ce K) [] E0 (tCons (tOp cIx (tVar 1) (tOp cIx (tVar 4) (tC (.int 0)))) (tCons (tVar 3) tNil))))))
theorem vz(h:i8 K c vs H Q E):i9 K c (eD9 Q) (start ["rule","masks","cell","sign","more"] vs) H:=by
 obtain⟨k,r,p,A,M,ws,cs,LI,ms,n,m,z,s,rfl,x,hC,hA,hM,hs,q⟩:=h;show i9 K c _ [some (.ref r),some (.ref A),some (.int z),some (.int s),some (.ref M)] H;unfold i9;symm;rw[bd hM,LV];symm;unfold onlyB at q
 have e1:decide ((ms.length:Int)=1)=decide (ms.length=1):=by
  rw[MA,LX,LX];omega
 rw[e1]
 cases hb:decide (ms.length=1) with
 | false=>
  rw[hb,Mm] at q;exact iteF (q _ (L3 _))
 | true=>
  rw[hb,Mq] at q;have hl:=L4 hb;refine iteT ?_;refine ixI hM (by decide) (by omega) ?_;rw[show(0:Int).toNat=0 from rfl];symm;refine⟨k,r,p,ws,cs,n,m,z,rfl,x,hC.1,fun l H1 s1 hl1 el=>?_⟩;dsimp only;rw[nI el]
  cases hb2:decide (ms.getD 0 0∈cs.filter fun x=>!decide (x=z)) with
  | false=>
   rw[hb2,Mm] at q;exact⟨false,rfl,iteF (q _ s1)⟩
  | true=>
   rw[hb2,Mq] at q;have hm:=L8.mp (L4 hb2);have hc:=hC.2 _ hm.1;refine⟨true,rfl,iteT ?_⟩;symm;refine ixI (s1 _ _ hM) (by decide) (by omega) ?_;rw[show(0:Int).toNat=0 from rfl];symm;refine ixI (s1 _ _ hA) hc.1 hc.2 ?_;symm;exact⟨_,s,rfl,by omega,q _ s1⟩
theorem RR.cin22{r:RR}{h w g:Int}(O:r.Ok h w g)(F:FlOk h w g):aK r.cs (h*w).toNat:=by
 obtain⟨h0,h1,w0,w1,m16,g0,g1⟩:=id F;have mpos:0<=h*w:=NJ (by omega) (by omega)
 cases hk:allK r.k with
 | false=>
  obtain⟨c1,c2,c3,c4,e⟩:=O.cl.told hk;rw[e];refine⟨by rw[LV];omega,fun c hc=>?_⟩;obtain⟨n,hn,rfl⟩:=Mg.mp hc;have:=c3 n hn;omega
 | true=>
  obtain⟨_,e⟩:=O.cl.all hk;rw[e];refine⟨by rw[jM];omega,fun c hc=>?_⟩;have:=xf hc;omega
abbrev OH:=@RR.cin22
structure Asks(H:Hp)(c:RCl RK)(d:RCl PzK)(P L G A T M:Addr)(h w g:Int)(LK:List RR)(cl LI:List Int)(t:TK)(r z s:Int)(ms:List Int):Prop where
 P:IsPz H c d P L G h w g LK cl
 T:IsTh H T M t r z s ms
 A:H A=some (.lst (LI.map V.int))
 n:LI.length=(h*w).toNat
variable{LK:List RR}
theorem Asks.same{H':Hp}{P L G A T M:Addr}{h w g:Int}{cl LI:List Int}(x:Asks H c d P L G A T M h w g LK cl LI t r z s ms)(s':Same H H'):Asks H' c d P L G A T M h w g LK cl LI t r z s ms:=⟨x.P.same s',x.T.same s',s' _ _ x.A,x.n⟩
theorem bD{h w g:Int}(f:formB h w g LK t r z s=true):0<=z/\z<h*w/\1<=s/\s<=g/\hitB t LK r z=true:=by
 unfold formB at f;simp only[LZ,LX] at f;exact⟨f.1.1,f.1.2,f.2.1.1,f.2.1.2,f.2.2⟩
theorem dC(ht:t≠.clue)(f:hitB t LK r z=true):0<=r/\∃ x,LK[r.toNat]? =some x/\goesB t x.k=true/\z∈x.cs:=by
 unfold hitB at f;by_cases hr:r<0
 . rw[Mp hr] at f;cases f
 rw[Md hr,Md ht] at f
 cases e:LK[r.toNat]? with
 | none=>rw[e] at f;cases f
 | some x=>
  rw[e] at f;simp only[LZ,LX] at f;exact⟨by omega,x,rfl,f.1,f.2⟩
def bX(K:Frag):Sp:=fun vs H Q _=>∃(A C:Addr) (LI cs:List Int),vs=[.ref A,.ref C]/\H A=some (.lst (LI.map V.int))/\H C=some (.lst (cs.map V.int))/\aK cs LI.length/\∀ l H',Same H H'->H l=none->H' l=some (.lst ((sgAt LI cs).map V.int))->Q (.ref l) H'
def nV(K:Frag):TS:=
 (tRet (tComp [none,none,some 0] (iList K (tVar 1)) (gName 1) tTrue (tOp cIx (tVar 2) (tVar 1))))
theorem AY(h:bX K vs H Q E):nV K (eD9 Q) (start ["masks","cells"] vs) H:=by
 obtain⟨A,C,LI,cs,rfl,hA,hC,⟨hn,hc⟩,q⟩:=h;show nV K _ [some (.ref A),some (.ref C)] H;unfold nV;symm;refine⟨⟨_,Ml hC⟩,?_⟩;refine bf (xs:=cs) (fun _=>true) (fun c=>LI.getD c.toNat 0) (by omega) (Ml hC) ?_ ?_ ?_
 . intro x H1 R hx s1 k1;exact k1 _ (L3 _)
 . intro z H1 Q1 hz hb s1 k1;show tOp cIx _ _ [none,some (.int z),some (.ref A)] H1 Q1;symm;have:=hc z hz;exact ixI (s1 _ _ hA) this.1 (by omega) (k1 _ (L3 _))
 . intro l H1 hl s1 el;rw[a9] at el;exact q l H1 s1 hl el
def eP(K:Frag):Sp:=fun vs H Q _=>∃(C:Addr) (ms:List Int) (s:Int),vs=[.ref C,.int s]/\H C=some (.lst (ms.map V.int))/\ms.length<=63/\∀ H',Same H H'->Q (.int ((ms.filter fun m=>stB m s).length:Nat)) H'
def nX(K:Frag):TS:=
 (tRet (tCB kLen (tCons (tComp [none,none,some 1] (iList K (tVar 0)) (gName 1) (tB (tCall (fC K) [] E0 (tCons (tVar 1) (tCons (tVar 2) tNil)))) (tVar 1)) tNil)))
theorem AZ(h:eP K vs H Q E):nX K (eD9 Q) (start ["some","sign"] vs) H:=by
 obtain⟨C,ms,s,rfl,hC,hn,q⟩:=h;show nX K _ [some (.ref C),some (.int s)] H;unfold nX;symm;refine⟨⟨_,Ml hC⟩,?_⟩;refine bf (xs:=ms) (fun m=>stB m s) (fun m=>m) (by omega) (Ml hC) ?_ ?_ ?_
 . intro x H1 R hx s1 k1;show tB _ [none,some (.int x),some (.int s)] H1 R;symm;exact⟨x,s,rfl,_,rfl,k1 _ (L3 _)⟩
 . intro z H1 Q1 hz hb s1 k1;show tVar 1 [none,some (.int z),some (.int s)] H1 Q1;symm;exact k1 _ (L3 _)
 . intro l H1 hl s1 el;rw[Np] at el;rw[bd el,LV];exact q _ s1
def gN(g:Int)(cs LI:List Int)(z s:Int)(ms:List Int):Bool:=decide ((cs.length:Int)=g)&&(decide (ms.length=1)&&(!decide (ms.getD 0 0=s)&&((decide (1<=ms.getD 0 0)&&decide (ms.getD 0 0<=g))&&decide (((sgAt LI (cs.filter fun x=>!decide (x=z))).filter fun m=>stB m (ms.getD 0 0)).length=0))))
def h9(K:Frag)(c:RCl RK):Sp:=fun vs H Q _=>∃(k:RK) (f r p A M:Addr) (ws:List (List Nat)) (cs LI ms:List Int) (n m z s h w g:Int),vs=[.ref f,.ref r,.ref A,.int z,.int s,.ref M]/\IsFl H f h w g/\IsRule H c k r p ws cs n m/\aK cs LI.length/\H A=some (.lst (LI.map V.int))/\H M=some (.lst (ms.map V.int))/\∀ H',Same H H'->Q (.bl (gN g cs LI z s ms)) H'
def eQ(K:Frag)(c:RCl RK):TS:=
 (tRet (tOp (cEq K) (tCall (eP K) [] E0 (tCons (tCall (bX K) [] E0 (tCons (tVar 2) (tCons (tCall (bC K c) [] E0 (tCons (tVar 1) (tCons (tVar 3) tNil))) tNil))) (tCons (tOp cIx (tVar 5) (tC (.int 0))) tNil))) (tC (.int 0))))
def jz(K:Frag)(c:RCl RK):TS:=
 (tSeq (tIfS (tOr (tTest (tOp (cEq K) (tOp cIx (tVar 5) (tC (.int 0))) (tVar 4))) (tNot (tB (tCall (lu K) [] E0 (tCons (tVar 0) (tCons (tOp cIx (tVar 5) (tC (.int 0))) tNil)))))) (tRet (tC (.bl false))) tNext)
  (eQ K c))
def ia(K:Frag)(c:RCl RK):TS:=
 (tSeq (tIfS (tOr (tTest (tOp (cNe K) (tCB kLen (tCons (aF c c.ok "spots" (dM K c) (tVar 1) tNil) tNil)) (tOp cIx (tVar 0) (tC (.int 2))))) (tTest (tOp (cNe K) (tCB kLen (tCons (tVar 5) tNil)) (tC (.int 1))))) (tRet (tC (.bl false))) tNext)
  (jz K c))
theorem qw {k:RK} {f r p A M:Addr} {ws:List (List Nat)} {cs LI:List Int} {n m:Int} (x:IsRule H c k r p ws cs n m) (hC:aK cs LI.length) (hA:H A=some (.lst (LI.map V.int))) (hM:H M=some (.lst (ms.map V.int))) (hl:ms.length=1)
  (q:∀ H',Same H H'->Q (.bl (decide (((sgAt LI (cs.filter fun x=>!decide (x=z))).filter fun m=>stB m (ms.getD 0 0)).length=0))) H'):
  eQ K c (eD9 Q) [some (.ref f),some (.ref r),some (.ref A),some (.int z),some (.int s),some (.ref M)] H:=by
 unfold eQ;symm;refine⟨k,r,p,ws,cs,n,m,z,rfl,x,hC.1,fun O H1 s1 hO eO=>?_⟩;symm;have hC2:aK (cs.filter fun x=>!decide (x=z)) LI.length:=⟨Mi (Mh _ _) hC.1,fun y hy=>hC.2 y (L8.mp hy).1⟩;refine⟨A,O,LI,_,rfl,s1 _ _ hA,eO,hC2,fun B H2 s2 hB eB=>?_⟩;dsimp only;refine ixI ((s1.trans s2) _ _ hM) (by decide) (by omega) ?_;rw[show(0:Int).toNat=0 from rfl];symm;refine⟨B,_,_,rfl,eB,by unfold sgAt;rw[LV];exact hC2.1,fun H3 s3=>?_⟩;symm;have q1:=q H3 ((s1.trans s2).trans s3)
 have e:decide ((((sgAt LI (cs.filter fun x=>!decide (x=z))).filter fun m=>stB m (ms.getD 0 0)).length:Int)=0)=decide (((sgAt LI (cs.filter fun x=>!decide (x=z))).filter fun m=>stB m (ms.getD 0 0)).length=0):=by
  rw[MA,LX,LX];omega
 rw[e];exact q1
theorem uo(h:h9 K c vs H Q E):ia K c (eD9 Q) (start ["floor","rule","masks","cell","sign","more"] vs) H:=by
 obtain⟨k,f,r,p,A,M,ws,cs,LI,ms,n,m,z,s,h,w,g,rfl,hf,x,hC,hA,hM,q⟩:=h;obtain⟨dx,W,C,h1,h2,h3⟩:=x.ex;show ia K c _ [some (.ref f),some (.ref r),some (.ref A),some (.int z),some (.int s),some (.ref M)] H;unfold ia;rw[aJ,ay];symm;refine methE (k:=k) rfl x.ok h1 (by rfl) ?_;symm;refine⟨r,p,ws,cs,n,m,rfl,x,fun l hl=>?_⟩;obtain⟨H1,z9,s1,el⟩:=aS (.lst (cs.map V.int)) hl;rw[z9]
 try dsimp only
 rw[bd el,LV];refine ixT (s1 _ _ hf) (v:=V.int g) rfl ?_;symm;unfold gN at q
 cases hb:decide ((cs.length:Int)=g) with
 | false=>
  rw[hb,Mm] at q;symm;exact q _ s1
 | true=>
  rw[hb,Mq] at q;symm;rw[bd (s1 _ _ hM),LV];symm
  have e1:decide ((ms.length:Int)=1)=decide (ms.length=1):=by
   rw[MA,LX,LX];omega
  rw[e1]
  cases hb2:decide (ms.length=1) with
  | false=>
   rw[hb2,Mm] at q;symm;exact q _ s1
  | true=>
   rw[hb2,Mq] at q;have hl1:=L4 hb2;symm;unfold jz;rw[aJ,ay];symm;refine ixI (s1 _ _ hM) (by decide) (by omega) ?_;rw[show(0:Int).toNat=0 from rfl];symm
   cases hb3:decide (ms.getD 0 0=s) with
   | true=>
    rw[hb3,NG,Mm] at q;refine iteT ?_;symm;exact q _ s1
   | false=>
    rw[hb3,N7,Mq] at q;refine iteF ?_;refine ixI (s1 _ _ hM) (by decide) (by omega) ?_;rw[show(0:Int).toNat=0 from rfl];symm;refine⟨f,h,w,g,_,rfl,s1 _ _ hf,?_⟩
    cases hb4:(decide (1<=ms.getD 0 0)&&decide (ms.getD 0 0<=g)) with
    | false=>
     rw[hb4,Mm] at q;refine⟨false,rfl,iteT ?_⟩;symm;exact q _ s1
    | true=>
     rw[hb4,Mq] at q;refine⟨true,rfl,iteF ?_⟩;exact qw (x.same s1) hC (s1 _ _ hA) (s1 _ _ hM) hl1 fun H' s2=>q H' (s1.trans s2)
theorem zQ(t:TK):decide (tkC t=[112,108,97,99,101])=decide (t=.place):=by cases t <;> decide
def dD(K:Frag):Sp:=fun vs H Q _=>∃(C:Addr) (ms:List Int) (s:Int),vs=[.ref C,.int s]/\H C=some (.lst (ms.map V.int))/\ms.length<=63/\s<=100000/\∀ H',Same H H'->Q (.int ((ms.filter fun m=>decide (woI m s=0)).length:Nat)) H'
def lX(K:Frag):TS:=
 (tRet (tCB kLen (tCons (tComp [none,none,some 1] (iList K (tVar 0)) (gName 1) (tB (tCall (ce K) [] E0 (tCons (tVar 1) (tCons (tVar 2) tNil)))) (tVar 1)) tNil)))
variable{K:Frag}{vs:List V}{H:Hp}{Q:VK}{E:XK}
theorem zR(h:dD K vs H Q E):lX K (eD9 Q) (start ["some","sign"] vs) H:=by
 obtain⟨C,ms,s,rfl,hC,hn,hs,q⟩:=h;show lX K _ [some (.ref C),some (.int s)] H;unfold lX;symm;refine⟨⟨_,Ml hC⟩,?_⟩;refine bf (xs:=ms) (fun m=>decide (woI m s=0)) (fun m=>m) (by omega) (Ml hC) ?_ ?_ ?_
 . intro x H1 R hx s1 k1;show tB _ [none,some (.int x),some (.int s)] H1 R;symm;exact⟨x,s,rfl,hs,_,rfl,k1 _ (L3 _)⟩
 . intro z H1 Q1 hz hb s1 k1;show tVar 1 [none,some (.int z),some (.int s)] H1 Q1;symm;exact k1 _ (L3 _)
 . intro l H1 hl s1 el;rw[Np] at el;rw[bd el,LV];exact q _ s1
def rosP(c z:Int)(q:List Int):Bool:=decide (q.getD 0 0=c)&&decide (z∈q)
def rosL(h w c z:Int):List Int:=match (squL h w).find? (rosP c z) with
 | none=>[]
 | some q=>q.filter fun x=>!decide (x=z)
variable{h w:Int}
theorem sN{q:List Int}(hq:q∈squL h w):∃ i:Nat,i < (h*w).toNat/\cornB h w i=true/\q=sqL w i:=by
 unfold squL at hq;obtain⟨i,hi,rfl⟩:=Mg.mp hq;obtain⟨hi,hc⟩:=L8.mp hi;exact⟨i,Mb.mp hi,hc,rfl⟩
theorem Gj{c:Int}(w0:1<=w)(c0:0<=c)(hc:cornB h w c=true):c+w+1<h*w:=by
 unfold cornB at hc;rw[LZ,LX,LX] at hc;have e:=Os c w;have m:=Int.mul_le_mul_of_nonneg_left (show c/w+2<=h by omega) (show 0<=w by omega);rw[Int.mul_add] at m;rw[Int.mul_comm h w];omega
theorem Ix{c x:Int}(w0:1<=w)(c0:0<=c)(hc:cornB h w c=true)(hx:x∈sqL w c):0<=x/\x<h*w:=by
 have:=Gj w0 c0 hc;simp[sqL] at hx;omega
variable{z:Int}
theorem Hs{g c:Int}{n:Nat}(F:FlOk h w g)(hn:n=(h*w).toNat):aK (rosL h w c z) n:=by
 have w0:=F.w0;unfold rosL
 cases e:(squL h w).find? (rosP c z) with
 | none=>exact⟨by show(0:Nat)<=63;omega,fun x hx=>by cases hx⟩
 | some q=>
  obtain⟨i,hi,hc,rfl⟩:=sN (N9 e);refine⟨Mi (Mh _ _) (by show(4:Nat)<=63;omega),fun x hx=>?_⟩;have:=Ix w0 (by omega) hc (L8.mp hx).1;omega
def gq(K:Frag):Sp:=fun vs H Q _=>∃(f:Addr) (h w g c z:Int),vs=[.ref f,.int c,.int z]/\IsFl H f h w g/\FlOk h w g/\∀ l H',Same H H'->H l=none->H' l=some (.lst ((rosL h w c z).map V.int))->Q (.ref l) H'
def gr(K:Frag):TS:=
 (tSeq (tFor (iList K (tCall (iR K) [] E0 (tCons (tVar 0) tNil))) (gName 3)
  (tIfS (tAnd (tTest (tOp (cEq K) (tOp cIx (tVar 3) (tC (.int 0))) (tVar 1))) (tTest (tOp (cIn K false) (tVar 2) (tVar 3)))) (tRet (tComp [none,none,some 2] (iList K (tVar 3)) (gName 1) (tTest (tOp (cNe K) (tVar 1) (tVar 2))) (tVar 1))) tNext))
  (tRet (tLst tNil)))
theorem sR(h:gq K vs H Q E):gr K (eD9 Q) (start ["floor","corner","cell","square"] vs) H:=by
 obtain⟨f,h,w,g,c,z,rfl,hf,F,q⟩:=h;show gr K _ [some (.ref f),some (.int c),some (.int z),none] H;unfold gr;rw[aJ];symm;refine⟨f,h,w,g,rfl,hf,F,fun l as H1 s1 hl x nd nl hn=>?_⟩;refine⟨l,rfl,⟨_,Ml x.top⟩,?_⟩;refine bi (K:=K) (xs:=as.map V.ref) (fun i σ H'=>∃ sv:Option V,σ=[some (.ref f),some (.int c),some (.int z),sv]/\Same H1 H'/\∀(j:Nat) (q:List Int),j<i->(squL h w)[j]? =some q->rosP c z q=false) ⟨none,rfl,L3 _,fun j q hj=>by omega⟩ (fun i σ H' _ ⟨_,_,s,_⟩=>s.seq (Ml x.top)) ?_ ?_
 . rintro i v σ H2 hv ⟨sv,rfl,s2,hno⟩;rw[L9] at hv
   cases ha:as[i]? with
   | none=>rw[ha] at hv;cases hv
   | some a=>
   rw[ha] at hv;cases hv;have hlt:i < (squL h w).length:=by rw[← x.len];exact(L1.mp ha).1
   have eq:(squL h w)[i]? =some (squL h w)[i]:=LW hlt;have ea:=(x.same s2).at_ i a _ ha eq
   have q4:((squL h w)[i]).length=4:=by
    obtain⟨k,_,_,e⟩:=sN (ME hlt);rw[e];rfl
   have nx:rosP c z (squL h w)[i]=false->∀(j:Nat) (q:List Int),j<i+1->(squL h w)[j]? =some q->rosP c z q=false:=fun hf j q hj hq=>by
    by_cases hji:j=i
    . subst hji;rw[eq] at hq;cases hq;exact hf
    . exact hno j q (by omega) hq
   have fo:rosP c z (squL h w)[i]=true->rosL h w c z=(squL h w)[i].filter fun x=>!decide (x=z):=fun ht=>by
    have e:(squL h w).find? (rosP c z)=some (squL h w)[i]:=by
     rw[Oz];refine⟨ht,i,hlt,rfl,fun j hj=>?_⟩;rw[hno j _ hj (LW (by omega))];rfl
    unfold rosL;rw[e]
   generalize (squL h w)[i]=sq at*;unfold rosP at nx fo;symm;rw[ay];symm;refine ixI ea (by decide) (by omega) ?_;rw[show(0:Int).toNat=0 from rfl];symm
   cases hb:decide (sq.getD 0 0=c) with
   | false=>
    rw[hb,Mm] at nx;refine iteF ?_;symm;exact⟨_,rfl,s2,nx rfl⟩
   | true=>
    rw[hb,Mq] at nx fo;refine iteT ?_;rw[nI ea]
    cases hb2:decide (z∈sq) with
    | false=>
     rw[hb2] at nx;refine⟨false,rfl,?_⟩;symm;exact⟨_,rfl,s2,nx rfl⟩
    | true=>
     rw[hb2] at fo;refine⟨true,rfl,?_⟩;symm;refine⟨⟨_,Ml ea⟩,?_⟩;refine bf (xs:=sq) (fun x=>!decide (x=z)) (fun x=>x) (by omega) (Ml ea) ?_ ?_ ?_
     . intro y H3 R hy s3 k3;show tTest _ [none,some (.int y),some (.int z)] H3 R;symm;exact k3 _ (L3 _)
     . intro y H3 Q3 hy hb s3 k3;show tVar 1 [none,some (.int y),some (.int z)] H3 Q3;symm;exact k3 _ (L3 _)
     . intro T H3 hT s3 eT;rw[Np,← fo rfl] at eT;exact q T H3 ((s1.trans s2).trans s3) ((s1.trans s2).free hT) eT
 . rintro σ H2 ⟨sv,rfl,s2,hno⟩
   have e:rosL h w c z=[]:=by
    have e:(squL h w).find? (rosP c z)=none:=by
     rw[O9];intro q hq;obtain⟨i,hi⟩:=OG hq;rw[hno i q (by rw[LV,x.len];exact(L1.mp hi).1) hi];decide
    unfold rosL;rw[e]
   symm;refine⟨aN (by decide),fun T hT=>?_⟩;exact q T _ ((s1.trans s2).trans ((L3 H2).laid hT)) ((s1.trans s2).free hT) (by rw[ag,e];rfl)
def squB(h w m:Int)(LI:List Int)(z s:Int)(ms:List Int):Bool:=decide (s=m)&&(decide (ms.length=1)&&(!decide (rosL h w (ms.getD 0 0) z=[])&&decide (((sgAt LI (rosL h w (ms.getD 0 0) z)).filter fun k=>decide (woI k s=0)).length=(rosL h w (ms.getD 0 0) z).length)))
def gt(K:Frag)(c:RCl RK):Sp:=fun vs H Q _=>∃(k:RK) (f r p A M:Addr) (ws:List (List Nat)) (cs LI ms:List Int) (n m z s h w g:Int),vs=[.ref f,.ref r,.ref A,.int z,.int s,.ref M]/\IsFl H f h w g/\FlOk h w g/\IsRule H c k r p ws cs n m/\LI.length=(h*w).toNat/\H A=some (.lst (LI.map V.int))/\H M=some (.lst (ms.map V.int))/\s<=1000/\∀ H',Same H H'->Q (.bl (squB h w m LI z s ms)) H'
def dO(K:Frag)(c:RCl RK):TS:=
 (tSeq (tAsg (tCall (gq K) [] E0 (tCons (tVar 0) (tCons (tOp cIx (tVar 5) (tC (.int 0))) (tCons (tVar 3) tNil)))) (gName 6))
  (tRet (tAndV (tOp (cNe K) (tVar 6) (tLst tNil)) (tOp (cEq K) (tCall (dD K) [] E0 (tCons (tCall (bX K) [] E0 (tCons (tVar 2) (tCons (tVar 6) tNil))) (tCons (tVar 4) tNil))) (tCB kLen (tCons (tVar 6) tNil))))))
def gu(K:Frag)(c:RCl RK):TS:=
 (tSeq (tIfS (tOr (tTest (tOp (cNe K) (tVar 4) (aF c c.ok "sign" (iE K c) (tVar 1) tNil))) (tTest (tOp (cNe K) (tCB kLen (tCons (tVar 5) tNil)) (tC (.int 1))))) (tRet (tC (.bl false))) tNext)
  (dO K c))
variable{c:RCl RK}{LI:List Int}
theorem pV {f A M:Addr} {v1:V} {ms:List Int} {s g:Int} (hf:IsFl H f h w g) (F:FlOk h w g) (hml:LI.length=(h*w).toNat) (hA:H A=some (.lst (LI.map V.int))) (hM:H M=some (.lst (ms.map V.int))) (hl:ms.length=1) (hs:s<=1000)
  (q:∀ H',Same H H'->Q (.bl (!decide (rosL h w (ms.getD 0 0) z=[])&&decide (((sgAt LI (rosL h w (ms.getD 0 0) z)).filter fun k=>decide (woI k s=0)).length=(rosL h w (ms.getD 0 0) z).length))) H'):
  dO K c (eD9 Q) [some (.ref f),some v1,some (.ref A),some (.int z),some (.int s),some (.ref M),none] H:=by
 have hin:=Hs (c:=ms.getD 0 0) (z:=z) F hml;unfold dO;symm;refine ixI hM (by decide) (by omega) ?_;rw[show(0:Int).toNat=0 from rfl];symm;refine⟨f,h,w,g,_,z,rfl,hf,F,fun R H1 s1 hR eR=>?_⟩;symm;refine⟨aN (by decide),fun Z hZ=>?_⟩;obtain⟨H2,z9,s2,eZ⟩:∃ z,upd H1 Z (.lst [])=z/\Same H1 z/\z Z=some (.lst (([]:List Int).map V.int)):=aS _ hZ;rw[z9];have s12:=s1.trans s2;refine sI (s2 _ _ eR) eZ ?_;generalize hros:rosL h w (ms.getD 0 0) z=ros at*
 cases hb:decide (ros=[]) with
 | true=>
  rw[hb,NG] at q;refine⟨false,rfl,iteF ?_⟩;exact q _ s12
 | false=>
  rw[hb,N7] at q;refine⟨true,rfl,iteT ?_⟩;symm;refine⟨A,R,LI,ros,rfl,s12 _ _ hA,s2 _ _ eR,hin,fun B H3 s3 hB eB=>?_⟩;dsimp only;refine⟨B,_,s,rfl,eB,by unfold sgAt;rw[LV];exact hin.1,by omega,fun H4 s4=>?_⟩;symm;rw[bd (((s2.trans s3).trans s4) _ _ eR),LV];symm;have q1:=q H4 ((s12.trans s3).trans s4)
  have e:decide ((((sgAt LI ros).filter fun k=>decide (woI k s=0)).length:Int)=(ros.length:Int))=decide (((sgAt LI ros).filter fun k=>decide (woI k s=0)).length=ros.length):=by
   rw[MA,LX,LX];omega
  rw[e];exact q1
theorem sS(h:gt K c vs H Q E):gu K c (eD9 Q) (start ["floor","rule","masks","cell","sign","more","rest"] vs) H:=by
 obtain⟨k,f,r,p,A,M,ws,cs,LI,ms,n,m,z,s,h,w,g,rfl,hf,F,x,hml,hA,hM,hs,q⟩:=h;obtain⟨dx,W,C,h1,h2,h3⟩:=x.ex;show gu K c _ [some (.ref f),some (.ref r),some (.ref A),some (.int z),some (.int s),some (.ref M),none] H;unfold gu;rw[aJ,ay];symm;refine methE (k:=k) rfl x.ok h1 (by rfl) ?_;symm;refine⟨r,p,ws,cs,n,m,rfl,x,?_⟩;symm;unfold squB at q
 cases hb:decide (s=m) with
 | false=>
  rw[hb,Mm] at q;symm;exact q _ (L3 _)
 | true=>
  rw[hb,Mq] at q;symm;rw[bd hM,LV];symm
  have e1:decide ((ms.length:Int)=1)=decide (ms.length=1):=by
   rw[MA,LX,LX];omega
  rw[e1]
  cases hb2:decide (ms.length=1) with
  | false=>
   rw[hb2,Mm] at q;symm;exact q _ (L3 _)
  | true=>
   rw[hb2,Mq] at q;symm;exact pV hf F hml hA hM (L4 hb2) hs q
theorem xU(t:TK):decide (tkC t=[115,113,117,97,114,101])=decide (t=.square):=by cases t <;> decide
def othL(cs:List Int)(z:Int):List Int:=cs.filter fun x=>!decide (x=z)
def cntB(cs:List Int)(n m:Int)(LI:List Int)(z s:Int)(ms:List Int):Bool:=
 decide (ms=[])&&(if s=m then decide (n<=(((sgAt LI (othL cs z)).filter fun k=>decide (woI k s=0)).length:Int)) else decide ((((sgAt LI (othL cs z)).filter fun k=>stB k m).length:Int)<n))
def ic(K:Frag)(c:RCl RK):Sp:=fun vs H Q _=>∃(k:RK) (r p A M:Addr) (ws:List (List Nat)) (cs LI ms:List Int) (n m z s:Int),vs=[.ref r,.ref A,.int z,.int s,.ref M]/\IsRule H c k r p ws cs n m/\aK cs LI.length/\H A=some (.lst (LI.map V.int))/\H M=some (.lst (ms.map V.int))/\s<=1000/\∀ H',Same H H'->Q (.bl (cntB cs n m LI z s ms)) H'
def eV(K:Frag)(c:RCl RK):TS:=
 (tSeq (tAsg (tCall (bX K) [] E0 (tCons (tVar 1) (tCons (tCall (bC K c) [] E0 (tCons (tVar 0) (tCons (tVar 2) tNil))) tNil))) (gName 5))
  (tSeq (tIfS (tTest (tOp (cEq K) (tVar 3) (aF c c.ok "sign" (iE K c) (tVar 0) tNil))) (tRet (tOp (cCmp fun i j=>decide (j<=i)) (tCall (dD K) [] E0 (tCons (tVar 5) (tCons (tVar 3) tNil))) (aF c c.ok "number" (iD K c) (tVar 0) tNil))) tNext)
  (tRet (tOp (cCmp fun i j=>decide (i<j)) (tCall (eP K) [] E0 (tCons (tVar 5) (tCons (aF c c.ok "sign" (iE K c) (tVar 0) tNil) tNil))) (aF c c.ok "number" (iD K c) (tVar 0) tNil)))))
def ie(K:Frag)(c:RCl RK):TS:=
 (tSeq (tIfS (tTest (tOp (cNe K) (tVar 4) (tLst tNil))) (tRet (tC (.bl false))) tNext)
  (eV K c))
variable{cs:List Int}{m:Int}
theorem qx {k:RK} {r p A M:Addr} {ws:List (List Nat)} {n s:Int} (x:IsRule H c k r p ws cs n m) (hC:aK cs LI.length) (hA:H A=some (.lst (LI.map V.int))) (hs0:s<=1000)
  (q:∀ H',Same H H'->Q (.bl (if s=m then decide (n<=(((sgAt LI (othL cs z)).filter fun k=>decide (woI k s=0)).length:Int)) else decide ((((sgAt LI (othL cs z)).filter fun k=>stB k m).length:Int)<n))) H'):
  eV K c (eD9 Q) [some (.ref r),some (.ref A),some (.int z),some (.int s),some (.ref M),none] H:=by
 have hC2:aK (othL cs z) LI.length:=⟨Mi (Mh _ _) hC.1,fun y hy=>hC.2 y (L8.mp hy).1⟩;have LS:(sgAt LI (othL cs z)).length<=63:=by unfold sgAt;rw[LV];exact hC2.1
 unfold eV;symm;refine⟨k,r,p,ws,cs,n,m,z,rfl,x,hC.1,fun O H1 s1 hO eO=>?_⟩;symm;refine⟨A,O,LI,othL cs z,rfl,s1 _ _ hA,eO,hC2,fun B H2 s2 hB eB=>?_⟩;have s12:=s1.trans s2;have x2:=x.same s12;obtain⟨dx,W,C,h1,h2,h3⟩:=x2.ex;symm;rw[ay];symm;refine methE (k:=k) rfl x2.ok h1 (by rfl) ?_;symm;refine⟨r,p,ws,cs,n,m,rfl,x2,?_⟩;symm;by_cases hs:s=m
 . rw[Mp hs] at q;rw[LY hs];symm;refine⟨B,_,_,rfl,eB,LS,by omega,fun H3 s3=>?_⟩;have x3:=x2.same s3;obtain⟨dx3,W3,C3,g1,g2,g3⟩:=x3.ex;refine methE (k:=k) rfl x3.ok g1 (by rfl) ?_;symm;refine⟨r,p,ws,cs,n,m,rfl,x3,?_⟩;symm;exact q _ (s12.trans s3)
 . rw[Md hs] at q;rw[L0 hs];symm;refine methE (k:=k) rfl x2.ok h1 (by rfl) ?_;symm;refine⟨r,p,ws,cs,n,m,rfl,x2,?_⟩;symm;refine⟨B,_,_,rfl,eB,LS,fun H3 s3=>?_⟩;have x3:=x2.same s3;obtain⟨dx3,W3,C3,g1,g2,g3⟩:=x3.ex;refine methE (k:=k) rfl x3.ok g1 (by rfl) ?_;symm;refine⟨r,p,ws,cs,n,m,rfl,x3,?_⟩;symm;exact q _ (s12.trans s3)
theorem uq(h:ic K c vs H Q E):ie K c (eD9 Q) (start ["rule","masks","cell","sign","more","some"] vs) H:=by
 obtain⟨k,r,p,A,M,ws,cs,LI,ms,n,m,z,s,rfl,x,hC,hA,hM,hs,q⟩:=h;show ie K c _ [some (.ref r),some (.ref A),some (.int z),some (.int s),some (.ref M),none] H;unfold ie;rw[aJ,ay];symm;refine⟨aN (by decide),fun Z hZ=>?_⟩;obtain⟨H1,z9,s1,eZ⟩:∃ z,upd H Z (.lst [])=z/\Same H z/\z Z=some (.lst (([]:List Int).map V.int)):=aS _ hZ;rw[z9];refine sI (s1 _ _ hM) eZ ?_;unfold cntB at q
 cases hb:decide (ms=[]) with
 | false=>
  rw[hb,Mm] at q;refine⟨true,rfl,?_⟩;symm;exact q _ s1
 | true=>
  rw[hb,Mq] at q;refine⟨false,rfl,?_⟩;symm;exact qx (x.same s1) hC (s1 _ _ hA) hs fun H' s2=>q H' (s1.trans s2)
theorem Fd(t:TK):decide (tkC t=[99,111,117,110,116])=decide (t=.count):=by cases t <;> decide
variable{xs:List Int}
theorem jP{q:Addr}{x:Int}(hq:H q=some (.lst (xs.map V.int)))(hm:x∈xs)(hn:xs.length<=900)(h:Q (.int (xs.findIdx (· ==x):Nat)) H):iM K (.ref q) [.int x] H Q:=by
 have hlt:xs.findIdx (· ==x)<xs.length:=Oo ⟨x,hm,by simp⟩
 have ev:∀ a b:Int,PyData.eqv (.int a) (.int b)=decide (a=b):=fun a b=>by
  rw[PyData.eqv];by_cases h:a=b
  . subst h;simp
  . simp[h]
 refine⟨xs.map PyData.int,.int x,xs.findIdx (· ==x),.lst (Ml hq) (.ints xs),.int x,pG xs,rfl,?_,by omega,⟨PyData.int xs[xs.findIdx (· ==x)],?_,?_⟩,fun m e hm2 he=>?_,h⟩
 . rw[k9];omega
 . rw[L9,LW hlt];rfl
 . have:=List.findIdx_getElem (w:=hlt);rw[ev,LX]
   simpa using this
 . have hml:m<xs.length:=by omega
   rw[L9,LW hml] at he;cases he;have:=List.not_of_lt_findIdx hm2;rw[ev,Ng]
   simpa using this
def ja(xs:List Int)(x:Int):Nat:=xs.findIdx (· ==x)
def ordB(cs ms:List Int):Bool:=decide (ms.length=2)&&(decide (ms.getD 0 0∈cs)&&(decide (ms.getD 1 0∈cs)&&decide (ja cs (ms.getD 0 0)<ja cs (ms.getD 1 0))))
def dP(K:Frag):Sp:=fun vs H Q _=>∃(C M:Addr) (cs ms:List Int),vs=[.ref C,.ref M]/\H C=some (.lst (cs.map V.int))/\cs.length<=63/\H M=some (.lst (ms.map V.int))/\Q (.bl (ordB cs ms)) H
def dQ(K:Frag):TS:=
 (tSeq (tIfS (tOr (tTest (tOp (cNe K) (tCB kLen (tCons (tVar 1) tNil)) (tC (.int 2)))) (tOr (tTest (tOp (cIn K true) (tOp cIx (tVar 1) (tC (.int 0))) (tVar 0))) (tTest (tOp (cIn K true) (tOp cIx (tVar 1) (tC (.int 1))) (tVar 0))))) (tRet (tC (.bl false))) tNext)
  (tRet (tOp (cCmp fun i j=>decide (i<j)) (tBM K "list" (iM K) (tVar 0) (tCons (tOp cIx (tVar 1) (tC (.int 0))) tNil)) (tBM K "list" (iM K) (tVar 0) (tCons (tOp cIx (tVar 1) (tC (.int 1))) tNil)))))
theorem pW(h:dP K vs H Q E):dQ K (eD9 Q) (start ["cells","more"] vs) H:=by
 obtain⟨C,M,cs,ms,rfl,hC,hn,hM,q⟩:=h;show dQ K _ [some (.ref C),some (.ref M)] H;unfold dQ;rw[aJ,ay];symm;rw[bd hM,LV];symm;unfold ordB at q
 have e1:decide ((ms.length:Int)=2)=decide (ms.length=2):=by
  rw[MA,LX,LX];omega
 rw[e1]
 cases hb:decide (ms.length=2) with
 | false=>
  rw[hb,Mm] at q;symm;exact q
 | true=>
  rw[hb,Mq] at q;have hl:=L4 hb;symm;refine ixI hM (by decide) (by omega) ?_;rw[show(0:Int).toNat=0 from rfl];symm;rw[lc hC]
  cases hb2:decide (ms.getD 0 0∈cs) with
  | false=>
   rw[hb2,Mm] at q;refine⟨true,rfl,iteT ?_⟩;symm;exact q
  | true=>
   rw[hb2,Mq] at q;refine⟨false,rfl,iteF ?_⟩;symm;refine ixI hM (by decide) (by omega) ?_;rw[show(1:Int).toNat=1 from rfl];symm;rw[lc hC]
   cases hb3:decide (ms.getD 1 0∈cs) with
   | false=>
    rw[hb3,Mm] at q;refine⟨true,rfl,iteT ?_⟩;symm;exact q
   | true=>
    rw[hb3,Mq] at q;refine⟨false,rfl,iteF ?_⟩;symm;refine⟨bb hC,?_⟩;refine ixI hM (by decide) (by omega) ?_;rw[show(0:Int).toNat=0 from rfl];symm;refine jP hC (L4 hb2) (by omega) ?_;symm;refine⟨bb hC,?_⟩;refine ixI hM (by decide) (by omega) ?_;rw[show(1:Int).toNat=1 from rfl];symm;refine jP hC (L4 hb3) (by omega) ?_;symm
    have e2:decide (((cs.findIdx (· ==ms.getD 0 0):Nat):Int) < ((cs.findIdx (· ==ms.getD 1 0):Nat):Int))=decide (ja cs (ms.getD 0 0)<ja cs (ms.getD 1 0)):=by
     rw[MA,LX,LX];unfold ja;omega
    rw[e2];exact q
def orM(LI:List Int)(ms:List Int):Int:=Builtin.bitOr (LI.getD (ms.getD 0 0).toNat 0) (LI.getD (ms.getD 1 0).toNat 0)
def pairB(cs LI:List Int)(z s:Int)(ms:List Int):Bool:=ordB (cs.filter fun x=>!decide (x=z)) ms&&decide (((sgL (orM LI ms)).filter fun x=>!decide (x=s)).length<=1)
theorem DU:((List.range 64).all fun a=>(List.range 64).all fun b=>decide (0<=Builtin.bitOr (a:Int) (b:Int))&&decide (Builtin.bitOr (a:Int) (b:Int)<64))=true:=by decide+kernel
theorem Cm{a b:Int}(a0:0<=a)(a1:a<64)(b0:0<=b)(b1:b<64):0<=Builtin.bitOr a b/\Builtin.bitOr a b<64:=by
 have t:=L6.mp (L6.mp DU a.toNat (Mb.mpr (by omega))) b.toNat (Mb.mpr (by omega));have e1:((a.toNat:Nat):Int)=a:=by omega
 have e2:((b.toNat:Nat):Int)=b:=by omega
 rw[e1,e2] at t
 simpa using t
theorem Ht:((List.range 64).all fun m=>decide (Builtin.Int.intBits (m:Int)<=6)&&decide (sgL (m:Int)=(([0,1,2,3,4,5]:List Nat).filter fun(i:Nat)=>stB (m:Int) (1+(i:Int))).map fun(i:Nat)=>1+(i:Int)))=true:=by decide+kernel
theorem dE(m0:0<=m)(m1:m<64):Builtin.Int.intBits m<=6/\sgL m=(([0,1,2,3,4,5]:List Nat).filter fun(i:Nat)=>stB m (1+(i:Int))).map fun(i:Nat)=>1+(i:Int):=by
 have t:=L6.mp Ht m.toNat (Mb.mpr (by omega));have e1:((m.toNat:Nat):Int)=m:=by omega
 rw[e1,LZ,LX,LX] at t;exact t
theorem vA{i:Int}(mm:∀ m∈LI,0<=m/\m<64)(i0:0<=i)(i1:i<LI.length):0<=LI.getD i.toNat 0/\LI.getD i.toNat 0<64:=by
 have hlt:i.toNat<LI.length:=by omega
 rw[List.getD,LW hlt];exact mm _ (ME hlt)
def jb(K:Frag)(c:RCl RK):Sp:=fun vs H Q _=>∃(k:RK) (r p A M:Addr) (ws:List (List Nat)) (cs LI ms:List Int) (n m z s:Int),vs=[.ref r,.ref A,.int z,.int s,.ref M]/\IsRule H c k r p ws cs n m/\aK cs LI.length/\(∀ m∈LI,0<=m/\m<64)/\H A=some (.lst (LI.map V.int))/\H M=some (.lst (ms.map V.int))/\∀ H',Same H H'->Q (.bl (pairB cs LI z s ms)) H'
def fD(K:Frag)(c:RCl RK):TS:=
 (tSeq (tAsg (tCall (bu K) [] E0 (tCons (tOp cOr (tOp cIx (tVar 1) (tOp cIx (tVar 4) (tC (.int 0)))) (tOp cIx (tVar 1) (tOp cIx (tVar 4) (tC (.int 1))))) tNil)) (gName 5))
  (tRet (tOp (cCmp fun i j=>decide (i<=j)) (tCB kLen (tCons (tComp [none,none,some 3] (iList K (tVar 5)) (gName 1) (tTest (tOp (cNe K) (tVar 1) (tVar 2))) (tVar 1)) tNil)) (tC (.int 1)))))
def jc(K:Frag)(c:RCl RK):TS:=
 (tSeq (tIfS (tNot (tB (tCall (dP K) [] E0 (tCons (tCall (bC K c) [] E0 (tCons (tVar 0) (tCons (tVar 2) tNil))) (tCons (tVar 4) tNil))))) (tRet (tC (.bl false))) tNext)
  (fD K c))
theorem re {A M:Addr} {ms:List Int} {s:Int} {v0:V} (hC:aK cs LI.length) (mm:∀ m∈LI,0<=m/\m<64) (hA:H A=some (.lst (LI.map V.int))) (hM:H M=some (.lst (ms.map V.int))) (ho:ordB (cs.filter fun x=>!decide (x=z)) ms=true)
  (q:∀ H',Same H H'->Q (.bl (decide (((sgL (orM LI ms)).filter fun x=>!decide (x=s)).length<=1))) H'):
  fD K c (eD9 Q) [some v0,some (.ref A),some (.int z),some (.int s),some (.ref M),none] H:=by
 unfold ordB at ho;simp only[LZ,LX] at ho;obtain⟨hl,m0,m1,_⟩:=ho;have c0:=hC.2 _ (L8.mp m0).1;have c1:=hC.2 _ (L8.mp m1).1;have k0:=vA mm c0.1 c0.2;have k1:=vA mm c1.1 c1.2;have ol:=Cm k0.1 k0.2 k1.1 k1.2;have sb:=(dE ol.1 ol.2).1;unfold fD;symm;refine ixI hM (by decide) (by omega) ?_;rw[show(0:Int).toNat=0 from rfl];symm;refine ixI hA c0.1 c0.2 ?_;symm;refine ixI hM (by decide) (by omega) ?_;rw[show(1:Int).toNat=1 from rfl];symm;refine ixI hA c1.1 c1.2 ?_;symm;refine⟨_,rfl,by omega,fun l H1 s1 hl1 el=>?_⟩;have el2:H1 l=some (.lst ((sgL (orM LI ms)).map V.int)):=el
 have hsl:(sgL (orM LI ms)).length<=6:=by
  unfold orM;rw[(dE ol.1 ol.2).2,LV];exact Mh _ _
 symm;refine⟨⟨_,Ml el2⟩,?_⟩;refine bf (xs:=sgL (orM LI ms)) (fun x=>!decide (x=s)) (fun x=>x) (by omega) (Ml el2) ?_ ?_ ?_
 . intro x H2 R hx s2 k2;show tTest _ [none,some (.int x),some (.int s)] H2 R;symm;exact k2 _ (L3 _)
 . intro x H2 Q2 hx hb s2 k2;show tVar 1 [none,some (.int x),some (.int s)] H2 Q2;symm;exact k2 _ (L3 _)
 . intro T H2 hT s2 eT;rw[Np] at eT;symm;rw[bd eT,LV];symm
   have e2:decide ((((sgL (orM LI ms)).filter fun x=>!decide (x=s)).length:Int)<=1)=decide (((sgL (orM LI ms)).filter fun x=>!decide (x=s)).length<=1):=by
    rw[MA,LX,LX];omega
   rw[e2];exact q _ (s1.trans s2)
theorem vC(h:jb K c vs H Q E):jc K c (eD9 Q) (start ["rule","masks","cell","sign","more","together"] vs) H:=by
 obtain⟨k,r,p,A,M,ws,cs,LI,ms,n,m,z,s,rfl,x,hC,mm,hA,hM,q⟩:=h;show jc K c _ [some (.ref r),some (.ref A),some (.int z),some (.int s),some (.ref M),none] H;unfold jc;rw[aJ,ay];symm;refine⟨k,r,p,ws,cs,n,m,z,rfl,x,hC.1,fun O H1 s1 hO eO=>?_⟩;symm;refine⟨O,M,_,ms,rfl,eO,Mi (Mh _ _) hC.1,s1 _ _ hM,?_⟩;unfold pairB at q
 cases hb:ordB (cs.filter fun x=>!decide (x=z)) ms with
 | false=>
  rw[hb,Mm] at q;refine⟨false,rfl,iteT ?_⟩;symm;exact q _ s1
 | true=>
  rw[hb,Mq] at q;refine⟨true,rfl,iteF ?_⟩;exact re hC mm (s1 _ _ hA) (s1 _ _ hM) hb fun H' s2=>q H' (s1.trans s2)
theorem Gk(t:TK):decide (tkC t=[115,116,101,112])=decide (t=.step):=by cases t <;> decide
theorem BA(xs:List V){a b:Nat}(hab:a<=b):cutV xs (some (a:Int)) (some (b:Int))=(xs.drop a).take (b-a):=by
 have h1:HT.sIx xs.length 0 (some (a:Int))=min a xs.length:=by rw[HT.sIx_nat]
 have h2:HT.sIx xs.length xs.length (some (b:Int))=min b xs.length:=by rw[HT.sIx_nat]
 unfold cutV;rw[h1,h2];by_cases ha:a<=xs.length
 . rw[Pz ha];by_cases hb:b<=xs.length
   . rw[Pz hb]
   . rw[Oy (by omega),M4 (by simp),M4 (by simp;omega)]
 . rw[Oy (by omega),Oy (by omega),OA,Pt (by omega)];simp
theorem ke {k:Nat} {a:Addr} {te:TE} {fin:Addr->Hp->Prop} {σ0:St} {H1:Hp} (f:Int->Bool) (hn:xs.length<=900) (hq:SqL K H1 a (xs.map V.int))
  (he:∀ x H Q,x∈xs->Same H1 H->(∀ H',Same H H'->Q (.bl (f x)) H')->te (σ0.set k (some (.int x))) H Q)
  (hd:∀ l H,H1 l=none->Same H1 H->H l=some (.lst ((xs.map f).map V.bl))->fin l H):
  CompR (Itl K a) (gName k) tTrue te fin σ0 H1:=by
 refine bI (xs:=xs.map V.int) (fun _=>true) (fun i=>.bl (f (xs.getD i 0))) (by rw[LV];exact hn) hq ?_ ?_ ?_
 . intro i x H R hx s1 k1;exact k1 _ (L3 _)
 . intro i x H Q hx hb s1 h;obtain⟨z,hz,rfl⟩:=aQ hx;have h2:=h;simp only[eI hz] at h2;exact he z H Q (L5 hz) s1 h2
 . intro l H hl s1 el;refine hd l H hl s1 ?_;rw[el,a9,LV,MH]
   congr 2
   exact qe xs fun x=>V.bl (f x)
def ahdL(cs:List Int)(z:Int):List Int:=if 0<ja cs z then [cs.getD (ja cs z-1) 0] else []
def behL(cs:List Int)(z:Int):List Int:=if ja cs z+1<cs.length then [cs.getD (ja cs z+1) 0] else []
theorem FF(h:z∈cs):ja cs z<cs.length:=Oo ⟨z,h,by simp⟩
theorem Gm{o:Int}(h:z∈cs)(ho:o∈ahdL cs z):o∈cs:=by
 have:=FF h;unfold ahdL at ho
 split at ho
 . rw[Ma.mp ho,List.getD,LW (by omega)];exact ME _
 . cases ho
theorem Gn{o:Int}(ho:o∈behL cs z):o∈cs:=by
 unfold behL at ho
 split at ho
 . rename_i h
   rw[Ma.mp ho,List.getD,LW h];exact ME _
 . cases ho
theorem zS(cs:List Int)(k:Nat):(cs.drop k).take 1=if k<cs.length then [cs.getD k 0] else []:=by
 by_cases h:k<cs.length
 . rw[Mp h,Nr h,List.getD,LW h];rfl
 . rw[Md h,Pt (by omega)];rfl
def nY(K:Frag)(c:RCl RK):Sp:=fun vs H Q _=>∃(k:RK) (r p:Addr) (ws:List (List Nat)) (cs:List Int) (n m z:Int),vs=[.ref r,.int z]/\IsRule H c k r p ws cs n m/\cs.length<=63/\z∈cs/\∀ l H',Same H H'->H l=none->H' l=some (.lst ((ahdL cs z).map V.int))->Q (.ref l) H'
def oa(K:Frag)(c:RCl RK):TS:=
 (tSeq (tAsg (aF c c.ok "spots" (dM K c) (tVar 0) tNil) (gName 2))
  (tSeq (tAsg (tBM K "list" (iM K) (tVar 2) (tCons (tVar 1) tNil)) (gName 3))
  (tRet (tIf (tTest (tOp (cCmp fun i j=>decide (j<i)) (tVar 3) (tC (.int 0)))) (tSl kr (tVar 2) (tPart (tOp cSub (tVar 3) (tC (.int 1)))) (tPart (tVar 3))) (tLst tNil)))))
theorem A0(h:nY K c vs H Q E):oa K c (eD9 Q) (start ["rule","cell","spots","place"] vs) H:=by
 obtain⟨k,r,p,ws,cs,n,m,z,rfl,x,hn,hz,q⟩:=h;obtain⟨dx,W,C,h1,h2,h3⟩:=x.ex;have hlt:=FF hz;show oa K c _ [some (.ref r),some (.int z),none,none] H;unfold oa;rw[aJ,bW];refine methE (k:=k) rfl x.ok h1 (by rfl) ?_;symm;refine⟨r,p,ws,cs,n,m,rfl,x,fun S hS=>?_⟩;obtain⟨H1,z9,s1,eS⟩:=aS (.lst (cs.map V.int)) hS;rw[z9];symm;refine⟨bb eS,?_⟩;refine jP eS hz (by omega) ?_;have ei:(cs.findIdx (· ==z))=ja cs z:=rfl;rw[ei];unfold ahdL at q;generalize ja cs z=j at*;symm;by_cases hj:0<j
 . rw[Mp hj] at q;rw[LY (show(0:Int) < (j:Int) by omega)];refine iteT ?_;refine sJ eS fun l hl=>?_;have ej:(j:Int)-1=((j-1:Nat):Int):=by omega
   rw[ej,BA _ (by omega),show j - (j-1)=1 by omega,← List.map_drop,← OD,zS,Mp (by omega)];exact q l _ (s1.laid hl) (s1.free hl) ag
 . rw[Md hj] at q;rw[L0 (show ¬ (0:Int) < (j:Int) by omega)];refine iteF ?_;refine⟨aN (by decide),fun l hl=>?_⟩;exact q l _ (s1.laid hl) (s1.free hl) ag
def rf(K:Frag)(c:RCl RK):Sp:=fun vs H Q _=>∃(k:RK) (r p:Addr) (ws:List (List Nat)) (cs:List Int) (n m z:Int),vs=[.ref r,.int z]/\IsRule H c k r p ws cs n m/\cs.length<=63/\z∈cs/\∀ l H',Same H H'->H l=none->H' l=some (.lst ((behL cs z).map V.int))->Q (.ref l) H'
def rg(K:Frag)(c:RCl RK):TS:=
 (tSeq (tAsg (aF c c.ok "spots" (dM K c) (tVar 0) tNil) (gName 2))
  (tSeq (tAsg (tBM K "list" (iM K) (tVar 2) (tCons (tVar 1) tNil)) (gName 3))
  (tRet (tSl kr (tVar 2) (tPart (tOp cAdd (tVar 3) (tC (.int 1)))) (tPart (tOp cAdd (tVar 3) (tC (.int 2))))))))
theorem DW(h:rf K c vs H Q E):rg K c (eD9 Q) (start ["rule","cell","spots","place"] vs) H:=by
 obtain⟨k,r,p,ws,cs,n,m,z,rfl,x,hn,hz,q⟩:=h;obtain⟨dx,W,C,h1,h2,h3⟩:=x.ex;show rg K c _ [some (.ref r),some (.int z),none,none] H;unfold rg;rw[aJ,bW];refine methE (k:=k) rfl x.ok h1 (by rfl) ?_;symm;refine⟨r,p,ws,cs,n,m,rfl,x,fun S hS=>?_⟩;obtain⟨H1,z9,s1,eS⟩:=aS (.lst (cs.map V.int)) hS;rw[z9];symm;refine⟨bb eS,?_⟩;refine jP eS hz (by omega) ?_;have ei:(cs.findIdx (· ==z))=ja cs z:=rfl;rw[ei];unfold behL at q;generalize ja cs z=j at*;symm;refine sJ eS fun l hl=>?_;have ej:(j:Int)+1=((j+1:Nat):Int):=by omega
 have ek:(j:Int)+2=((j+2:Nat):Int):=by omega
 rw[ej,ek,BA _ (by omega),show j+2 - (j+1)=1 by omega,← List.map_drop,← OD,zS];exact q l _ (s1.laid hl) (s1.free hl) ag
def nogB(s m:Int):Bool:=(sgL m).all fun x=>decide (s<=x)
def nolB(s m:Int):Bool:=(sgL m).all fun x=>decide (x<=s)
theorem FG(m0:0<=m)(m1:m<64):(sgL m).length<=6:=by
 rw[(dE m0 m1).2,LV];exact Mh _ _
def ig(K:Frag):Sp:=fun vs H Q _=>∃ s m:Int,vs=[.int s,.int m]/\0<=m/\m<64/\∀ H',Same H H'->Q (.bl (nogB s m)) H'
def ii(K:Frag):TS:=
 (tRet (tCB kAll (tCons (tComp [none,none,some 0] (iList K (tCall (bu K) [] E0 (tCons (tVar 1) tNil))) (gName 1) tTrue (tOp (cCmp fun i j=>decide (i<=j)) (tVar 2) (tVar 1))) tNil)))
theorem ut(h:ig K vs H Q E):ii K (eD9 Q) (start ["sign","mask"] vs) H:=by
 obtain⟨s,m,rfl,m0,m1,q⟩:=h;have sb:=(dE m0 m1).1;have sl:=FG m0 m1;show ii K _ [some (.int s),some (.int m)] H;unfold ii;symm;refine⟨m,rfl,by omega,fun l H1 s1 hl el=>?_⟩;refine⟨l,rfl,⟨_,Ml el⟩,?_⟩;refine ke (xs:=sgL m) (fun x=>decide (s<=x)) (by omega) (Ml el) ?_ ?_
 . intro x H2 Q2 hx s2 k2;show tOp _ _ _ [none,some (.int x),some (.int s)] H2 Q2;symm;exact k2 _ (L3 _)
 . intro l2 H2 hl2 s2 el2;symm;refine ld el2 ?_;rw[NW];exact q _ (s1.trans s2)
def kE(K:Frag):Sp:=fun vs H Q _=>∃ s m:Int,vs=[.int s,.int m]/\0<=m/\m<64/\∀ H',Same H H'->Q (.bl (nolB s m)) H'
def kF(K:Frag):TS:=
 (tRet (tCB kAll (tCons (tComp [none,none,some 0] (iList K (tCall (bu K) [] E0 (tCons (tVar 1) tNil))) (gName 1) tTrue (tOp (cCmp fun i j=>decide (j<=i)) (tVar 2) (tVar 1))) tNil)))
theorem yC(h:kE K vs H Q E):kF K (eD9 Q) (start ["sign","mask"] vs) H:=by
 obtain⟨s,m,rfl,m0,m1,q⟩:=h;have sb:=(dE m0 m1).1;have sl:=FG m0 m1;show kF K _ [some (.int s),some (.int m)] H;unfold kF;symm;refine⟨m,rfl,by omega,fun l H1 s1 hl el=>?_⟩;refine⟨l,rfl,⟨_,Ml el⟩,?_⟩;refine ke (xs:=sgL m) (fun x=>decide (x<=s)) (by omega) (Ml el) ?_ ?_
 . intro x H2 Q2 hx s2 k2;show tOp _ _ _ [none,some (.int x),some (.int s)] H2 Q2;symm;exact k2 _ (L3 _)
 . intro l2 H2 hl2 s2 el2;symm;refine ld el2 ?_;rw[NW];exact q _ (s1.trans s2)
def stpB(cs LI:List Int)(z s:Int):Bool:=((ahdL cs z).any fun o=>nogB s (LI.getD o.toNat 0))||((behL cs z).any fun o=>nolB s (LI.getD o.toNat 0))
def stepB(cs LI:List Int)(z s:Int)(ms:List Int):Bool:=decide (ms=[])&&stpB cs LI z s
def jd(K:Frag)(c:RCl RK):Sp:=fun vs H Q _=>∃(k:RK) (r p A M:Addr) (ws:List (List Nat)) (cs LI ms:List Int) (n m z s:Int),vs=[.ref r,.ref A,.int z,.int s,.ref M]/\IsRule H c k r p ws cs n m/\aK cs LI.length/\z∈cs/\(∀ m∈LI,0<=m/\m<64)/\H A=some (.lst (LI.map V.int))/\H M=some (.lst (ms.map V.int))/\∀ H',Same H H'->Q (.bl (stepB cs LI z s ms)) H'
def fE(K:Frag)(c:RCl RK):TS:=
 (tSeq (tIfS (tB (tCB kAny (tCons (tComp [none,none,some 1,some 3] (iList K (tCall (nY K c) [] E0 (tCons (tVar 0) (tCons (tVar 2) tNil)))) (gName 1) tTrue (tCall (ig K) [] E0 (tCons (tVar 3) (tCons (tOp cIx (tVar 2) (tVar 1)) tNil)))) tNil))) (tRet (tC (.bl true))) tNext)
  (tRet (tCB kAny (tCons (tComp [none,none,some 1,some 3] (iList K (tCall (rf K c) [] E0 (tCons (tVar 0) (tCons (tVar 2) tNil)))) (gName 1) tTrue (tCall (kE K) [] E0 (tCons (tVar 3) (tCons (tOp cIx (tVar 2) (tVar 1)) tNil)))) tNil))))
def je(K:Frag)(c:RCl RK):TS:=
 (tSeq (tIfS (tTest (tOp (cNe K) (tVar 4) (tLst tNil))) (tRet (tC (.bl false))) tNext)
  (fE K c))
theorem rh {k:RK} {r p A M:Addr} {ws:List (List Nat)} {n s:Int} (x:IsRule H c k r p ws cs n m) (hC:aK cs LI.length) (hz:z∈cs) (mm:∀ m∈LI,0<=m/\m<64) (hA:H A=some (.lst (LI.map V.int)))
  (q:∀ H',Same H H'->Q (.bl (stpB cs LI z s)) H'):
  fE K c (eD9 Q) [some (.ref r),some (.ref A),some (.int z),some (.int s),some (.ref M)] H:=by
 have la:(ahdL cs z).length<=1:=by unfold ahdL;split <;> simp
 have lb:(behL cs z).length<=1:=by unfold behL;split <;> simp
 unfold fE;rw[aJ,ay];symm;refine⟨k,r,p,ws,cs,n,m,z,rfl,x,hC.1,hz,fun l H1 s1 hl el=>?_⟩;refine⟨l,rfl,⟨_,Ml el⟩,?_⟩;refine ke (xs:=ahdL cs z) (fun o=>nogB s (LI.getD o.toNat 0)) (by omega) (Ml el) ?_ ?_
 . intro o H2 Q2 ho s2 k2;have ci:=hC.2 o (Gm hz ho);have mi:=vA mm ci.1 ci.2;show tCall _ _ _ _ [none,some (.int o),some (.ref A),some (.int s)] H2 Q2;symm;refine ixI ((s1.trans s2) _ _ hA) ci.1 ci.2 ?_;exact⟨s,_,rfl,mi.1,mi.2,k2⟩
 . intro l2 H2 hl2 s2 el2;symm;refine Ce el2 ?_;have s12:=s1.trans s2;rw[PP];unfold stpB at q;have ea:(ahdL cs z).any (id ∘ fun o=>nogB s (LI.getD o.toNat 0))=(ahdL cs z).any fun o=>nogB s (LI.getD o.toNat 0):=rfl;rw[ea]
   cases hb:(ahdL cs z).any fun o=>nogB s (LI.getD o.toNat 0) with
   | true=>
    rw[hb,N8] at q;refine⟨true,rfl,iteT ?_⟩;symm;exact q _ s12
   | false=>
    rw[hb,Nc] at q;refine⟨false,rfl,iteF ?_⟩;symm;refine⟨k,r,p,ws,cs,n,m,z,rfl,x.same s12,hC.1,hz,fun l3 H3 s3 hl3 el3=>?_⟩;refine⟨l3,rfl,⟨_,Ml el3⟩,?_⟩;refine ke (xs:=behL cs z) (fun o=>nolB s (LI.getD o.toNat 0)) (by omega) (Ml el3) ?_ ?_
    . intro o H4 Q4 ho s4 k4;have ci:=hC.2 o (Gn ho);have mi:=vA mm ci.1 ci.2;show tCall _ _ _ _ [none,some (.int o),some (.ref A),some (.int s)] H4 Q4;symm;refine ixI (((s12.trans s3).trans s4) _ _ hA) ci.1 ci.2 ?_;exact⟨s,_,rfl,mi.1,mi.2,k4⟩
    . intro l4 H4 hl4 s4 el4;symm;refine Ce el4 ?_;rw[PP];exact q _ ((s12.trans s3).trans s4)
theorem vD(h:jd K c vs H Q E):je K c (eD9 Q) (start ["rule","masks","cell","sign","more"] vs) H:=by
 obtain⟨k,r,p,A,M,ws,cs,LI,ms,n,m,z,s,rfl,x,hC,hz,mm,hA,hM,q⟩:=h;show je K c _ [some (.ref r),some (.ref A),some (.int z),some (.int s),some (.ref M)] H;unfold je;rw[aJ,ay];symm;refine⟨aN (by decide),fun Z hZ=>?_⟩;obtain⟨H1,z9,s1,eZ⟩:∃ z,upd H Z (.lst [])=z/\Same H z/\z Z=some (.lst (([]:List Int).map V.int)):=aS _ hZ;rw[z9];refine sI (s1 _ _ hM) eZ ?_;unfold stepB at q
 cases hb:decide (ms=[]) with
 | false=>
  rw[hb,Mm] at q;refine⟨true,rfl,?_⟩;symm;exact q _ s1
 | true=>
  rw[hb,Mq] at q;refine⟨false,rfl,?_⟩;symm;exact rh (x.same s1) hC hz mm (s1 _ _ hA) fun H' s2=>q H' (s1.trans s2)
section
variable{X:Cx}
def minI(ns:List Int):Int:=ns.getD (argBest (fun i j=>decide (ns.getD i 0<ns.getD j 0)) (ns.length-1)) 0
def maxI(ns:List Int):Int:=ns.getD (argBest (fun i j=>decide (ns.getD i 0>ns.getD j 0)) (ns.length-1)) 0
end
theorem qg(xs:List Int):xs.filter (fun _=>true)=xs:=OT.mpr fun _ _=>rfl
def loM(m:Int):Int:=(sgL m).getD 0 0
def hiM(m:Int):Int:=(sgL m).getD ((sgL m).length-1) 0
theorem Hu:((List.range 64).all fun m=>decide (m=0)||(decide (0 < (sgL (m:Int)).length/\(sgL (m:Int)).length<=6)&&(decide (minI (sgL (m:Int))=loM (m:Int)/\maxI (sgL (m:Int))=hiM (m:Int))&&decide ((1<=loM (m:Int)/\loM (m:Int)<=6)/\1<=hiM (m:Int)/\hiM (m:Int)<=6))))=true:=by decide+kernel
theorem Cn{m:Int}(m0:0<=m)(m1:m<64)(hm:m≠0):(0 < (sgL m).length/\(sgL m).length<=6)/\(minI (sgL m)=loM m/\maxI (sgL m)=hiM m)/\(1<=loM m/\loM m<=6)/\1<=hiM m/\hiM m<=6:=by
 have t:=L6.mp Hu m.toNat (Mb.mpr (by omega));have e1:((m.toNat:Nat):Int)=m:=by omega
 rw[e1,Nk,LX,LZ,LZ,LX,LX,LX] at t;rcases t with t | t
 . omega
 . exact t
theorem DX:sgL 0=[]:=by decide+kernel
theorem Co{xs:List Int}(h:0<xs.length):atI (xs.map V.int) (-1)=some (V.int (xs.getD (xs.length-1) 0)):=by
 unfold atI ixN;rw[LV,Md (by decide),Mp (by omega)];show(xs.map V.int)[((xs.length:Int)+ -1).toNat]? =_;rw[show((xs.length:Int)+ -1).toNat=xs.length-1 by omega,L9,LW (by omega),List.getD,LW (by omega)];rfl
def smB(os:List Int)(n s:Int):Bool:=decide (0∈os)||(decide (n<s+(os.map loM).sum)||decide (s+(os.map hiM).sum<n))
def sumB(cs:List Int)(n:Int)(LI:List Int)(z s:Int)(ms:List Int):Bool:=decide (ms=[])&&smB (sgAt LI (othL cs z)) n s
def gk(K:Frag):Sp:=fun vs H Q _=>∃(A:Addr) (ms:List Int),vs=[.ref A]/\H A=some (.lst (ms.map V.int))/\Q (.bl (decide (0∈ms))) H
def pX(K:Frag):TS:=
 (tRet (tOp (cIn K false) (tC (.int 0)) (tVar 0)))
variable{K:Frag}{vs:List V}{H:Hp}{Q:VK}{E:XK}
theorem Cp(h:gk K vs H Q E):pX K (eD9 Q) (start ["masks"] vs) H:=by
 obtain⟨A,ms,rfl,hA,q⟩:=h;show pX K _ [some (.ref A)] H;unfold pX;symm;rw[nI hA];exact q
variable{cs:List Int}
theorem Iy{LI:List Int}{z:Int}(hC:aK cs LI.length)(mm:∀ m∈LI,0<=m/\m<64):∀ m∈sgAt LI (othL cs z),0<=m/\m<64:=fun m hm=>by
 unfold sgAt at hm;obtain⟨x,hx,rfl⟩:=Mg.mp hm;have ci:=hC.2 x (L8.mp hx).1;exact vA mm ci.1 ci.2
def jQ(K:Frag)(c:RCl RK):Sp:=fun vs H Q _=>∃(k:RK) (r p A M:Addr) (ws:List (List Nat)) (cs LI ms:List Int) (n m z s:Int),vs=[.ref r,.ref A,.int z,.int s,.ref M]/\IsRule H c k r p ws cs n m/\aK cs LI.length/\(∀ m∈LI,0<=m/\m<64)/\H A=some (.lst (LI.map V.int))/\H M=some (.lst (ms.map V.int))/\∀ H',Same H H'->Q (.bl (sumB cs n LI z s ms)) H'
def gw(K:Frag)(c:RCl RK):TS:=
 (tSeq (tAsg (tOp cAdd (tVar 3) (tCB kSum (tCons (tComp [none,none] (iList K (tVar 5)) (gName 1) tTrue (tOp cIx (tCall (bu K) [] E0 (tCons (tVar 1) tNil)) (tC (.int 0)))) tNil))) (gName 6))
  (tSeq (tAsg (tOp cAdd (tVar 3) (tCB kSum (tCons (tComp [none,none] (iList K (tVar 5)) (gName 1) tTrue (tOp cIx (tCall (bu K) [] E0 (tCons (tVar 1) tNil)) (tUn (rU fun i=>.int (-i)) (tC (.int 1))))) tNil))) (gName 7))
  (tRet (tOrV (tOp (cCmp fun i j=>decide (j<i)) (tVar 6) (aF c c.ok "number" (iD K c) (tVar 0) tNil)) (tOp (cCmp fun i j=>decide (i<j)) (tVar 7) (aF c c.ok "number" (iD K c) (tVar 0) tNil))))))
def gx(K:Frag)(c:RCl RK):TS:=
 (tSeq (tAsg (tCall (bX K) [] E0 (tCons (tVar 1) (tCons (tCall (bC K c) [] E0 (tCons (tVar 0) (tCons (tVar 2) tNil))) tNil))) (gName 5))
  (tSeq (tIfS (tB (tCall (gk K) [] E0 (tCons (tVar 5) tNil))) (tRet (tC (.bl true))) tNext)
  (gw K c)))
def jR(K:Frag)(c:RCl RK):TS:=
 (tSeq (tIfS (tTest (tOp (cNe K) (tVar 4) (tLst tNil))) (tRet (tC (.bl false))) tNext)
  (gx K c))
variable{c:RCl RK}
theorem sU {k:RK} {r p A M B:Addr} {ws:List (List Nat)} {os:List Int} {n m z s:Int} (x:IsRule H c k r p ws cs n m) (ol:os.length<=63) (om:∀ m∈os,0<=m/\m<64) (on:¬ 0∈os) (eB:H B=some (.lst (os.map V.int)))
  (q:∀ H',Same H H'->Q (.bl (decide (n<s+(os.map loM).sum)||decide (s+(os.map hiM).sum<n))) H'):
  gw K c (eD9 Q) [some (.ref r),some (.ref A),some (.int z),some (.int s),some (.ref M),some (.ref B),none,none] H:=by
 have lh:∀ y∈os,_:=fun y hy=>Cn (om y hy).1 (om y hy).2 (fun e=>on (e ▸ hy));unfold gw;symm;refine⟨⟨_,Ml eB⟩,?_⟩;refine bf (xs:=os) (fun _=>true) loM (by omega) (Ml eB) ?_ ?_ ?_
 . intro y H1 R hy s1 k1;exact k1 _ (L3 _)
 . intro y H1 Q1 hy hb s1 k1;have hl:=lh y hy;show tOp cIx _ _ [none,some (.int y)] H1 Q1;symm;refine⟨y,rfl,by have:=(dE (om y hy).1 (om y hy).2);have:=this.1;omega,fun l H2 s2 hl2 el=>?_⟩;refine ixI el (by decide) (by omega) ?_;exact k1 _ s2
 . intro l1 H1 hl1 s1 el1;rw[qg] at el1;symm;refine Cc el1 (fun y hy=>by obtain⟨z,hz,rfl⟩:=Mg.mp hy;have:=(lh z hz).2.2.1;omega) (by rw[LV];omega) ?_;symm;refine⟨⟨_,Ml (s1 _ _ eB)⟩,?_⟩;refine bf (xs:=os) (fun _=>true) hiM (by omega) (Ml (s1 _ _ eB)) ?_ ?_ ?_
   . intro y H2 R hy s2 k2;exact k2 _ (L3 _)
   . intro y H2 Q2 hy hb s2 k2;have hl:=lh y hy;show tOp cIx _ _ [none,some (.int y)] H2 Q2;symm;refine⟨y,rfl,by have:=(dE (om y hy).1 (om y hy).2);have:=this.1;omega,fun l H3 s3 hl3 el=>?_⟩;refine ixL el (Co hl.1.1) ?_;exact k2 _ s3
   . intro l2 H2 hl2 s2 el2;rw[qg] at el2;symm;refine Cc el2 (fun y hy=>by obtain⟨z,hz,rfl⟩:=Mg.mp hy;have:=(lh z hz).2.2.2;omega) (by rw[LV];omega) ?_;symm;have s12:=s1.trans s2;have x2:=x.same s12;obtain⟨dx,W,C,h1,h2,h3⟩:=x2.ex;refine methE (k:=k) rfl x2.ok h1 (by rfl) ?_;symm;refine⟨r,p,ws,cs,n,m,rfl,x2,?_⟩;symm;by_cases hb:n<s+(os.map loM).sum
     . rw[LY hb,N8] at q;rw[LY hb];symm;exact q _ s12
     . rw[L0 hb,Nc] at q;rw[L0 hb];symm;refine methE (k:=k) rfl x2.ok h1 (by rfl) ?_;symm;refine⟨r,p,ws,cs,n,m,rfl,x2,?_⟩;symm;exact q _ s12
theorem sV {k:RK} {r p A M:Addr} {ws:List (List Nat)} {LI:List Int} {n m z s:Int} (x:IsRule H c k r p ws cs n m) (hC:aK cs LI.length) (mm:∀ m∈LI,0<=m/\m<64) (hA:H A=some (.lst (LI.map V.int)))
  (q:∀ H',Same H H'->Q (.bl (smB (sgAt LI (othL cs z)) n s)) H'):
  gx K c (eD9 Q) [some (.ref r),some (.ref A),some (.int z),some (.int s),some (.ref M),none,none,none] H:=by
 have hC2:aK (othL cs z) LI.length:=⟨Mi (Mh _ _) hC.1,fun y hy=>hC.2 y (L8.mp hy).1⟩;have ol:(sgAt LI (othL cs z)).length<=63:=by unfold sgAt;rw[LV];exact hC2.1
 have om:=Iy (z:=z) hC mm;unfold gx;symm;refine⟨k,r,p,ws,cs,n,m,z,rfl,x,hC.1,fun O H1 s1 hO eO=>?_⟩;symm;refine⟨A,O,LI,othL cs z,rfl,s1 _ _ hA,eO,hC2,fun B H2 s2 hB eB=>?_⟩;have s12:=s1.trans s2;generalize sgAt LI (othL cs z)=os at*;symm;rw[ay];symm;refine⟨B,os,rfl,eB,?_⟩;unfold smB at q;by_cases h0:0∈os
 . rw[LY h0,N8] at q;rw[LY h0];refine⟨true,rfl,?_⟩;symm;exact q _ s12
 . rw[L0 h0,Nc] at q;rw[L0 h0];refine⟨false,rfl,?_⟩;symm;exact sU (x.same s12) ol om h0 eB fun H' s3=>q H' (s12.trans s3)
theorem xg(h:jQ K c vs H Q E):jR K c (eD9 Q) (start ["rule","masks","cell","sign","more","some","least","greatest"] vs) H:=by
 obtain⟨k,r,p,A,M,ws,cs,LI,ms,n,m,z,s,rfl,x,hC,mm,hA,hM,q⟩:=h;show jR K c _ [some (.ref r),some (.ref A),some (.int z),some (.int s),some (.ref M),none,none,none] H;unfold jR;rw[aJ,ay];symm;refine⟨aN (by decide),fun Z hZ=>?_⟩;obtain⟨H1,z9,s1,eZ⟩:∃ z,upd H Z (.lst [])=z/\Same H z/\z Z=some (.lst (([]:List Int).map V.int)):=aS _ hZ;rw[z9];refine sI (s1 _ _ hM) eZ ?_;unfold sumB at q
 cases hb:decide (ms=[]) with
 | false=>
  rw[hb,Mm] at q;refine⟨true,rfl,?_⟩;symm;exact q _ s1
 | true=>
  rw[hb,Mq] at q;refine⟨false,rfl,?_⟩;symm;exact sV (x.same s1) hC mm (s1 _ _ hA) fun H' s2=>q H' (s1.trans s2)
theorem DY(t:TK):decide (tkC t=[115,117,109])=decide (t=.sum):=by cases t <;> decide
theorem DZ {H1:Hp} {n:Nat} {σ0:St} {te:TE} {fin:Addr->Hp->Prop} {h w g:Int} (F:FlOk h w g) (hn:n<=12) (hk:∀ k,k≠.Rule->c.ok k=true)
  (he:∀ i H Q,i<n->Same H1 H->(∀(r:RR) (H':Hp),Same H H'->r.Ok h w g->Q (.str r.txt) H')->te (σ0.set 1 (some (.int (0+(i:Int))))) H Q)
  (hd:∀ l LK H,H1 l=none->Same H1 H->H l=some (.lst ((LK.map RR.txt).map V.str))->LK.length=n->bB c h w g LK->fin l H):
  CompR (Itr 0 n) (gName 1) tTrue te fin σ0 H1:=by
 refine pI (fun l i σ H=>(σ=σ0\/∃ cv,σ=σ0.set 1 cv)/\Same H1 H/\∃ LK:List RR,H l=some (.lst ((LK.map RR.txt).map V.str))/\LK.length=i/\∀ r∈LK,r.Ok h w g) (fun l hl=>⟨.inl rfl,(L3 H1).laid hl,[],by rw[ag];rfl,rfl,fun _ h=>nomatch h⟩) ?_ (fun l σ H hl ⟨_,s1,LK,el,hl2,hP⟩=>hd l LK H hl s1 el hl2 ⟨F,by omega,hP,fun r hr=>hk _ (hP r hr).k0⟩);rintro l i σ H hl hi ⟨hσ,s1,LK,el,hl2,hP⟩;rw[aY]
 have e:σ.set 1 (some (.int (0+(i:Int))))=σ0.set 1 (some (.int (0+(i:Int)))):=by
  rcases hσ with rfl | ⟨cv,rfl⟩
  . rfl
  . exact ND ..
 rw[e,cL,Mp rfl];refine he i H _ hi s1 fun r H2 s2 hr=>⟨_,s2 _ _ el,by simp;exact aD (by omega),.inr ⟨_,rfl⟩,(s1.trans s2).own hl,LK++[r],by rw[ag];simp,by simp[hl2],fun z hz=>?_⟩;rcases Mj.mp hz with hz | hz
 . exact hP z hz
 . rw[Ma.mp hz];exact hr
def rj(K:Frag)(c:RCl RK):Sp:=c5 K c .Sum
def lY(K:Frag)(c:RCl RK):TS:=
 (tRet (tOp (cEq K) (tCB kSum (tCons (aF c c.ok "signs_at" (eJ K c) (tVar 0) (tCons (tVar 1) tNil)) tNil)) (tFldK c (tVar 0) "amount")))
theorem Hv{xs:List Int}{n:Nat}(hC:aK cs n)(hn:n=xs.length)(hx:∀ x∈xs,0<=x/\x<=1000):∀ x∈sgAt xs cs,0<=x/\x<=1000:=fun x hm=>by
 unfold sgAt at hm;obtain⟨c,hc,rfl⟩:=Mg.mp hm;have:=hC.2 c hc;have hl:c.toNat<xs.length:=by omega
 rw[List.getD,LW hl];exact hx _ (ME hl)
theorem zT(h:rj K c vs H Q E):lY K c (eD9 Q) (start ["self","filling"] vs) H:=by
 obtain⟨r,p,f,ws,cs,xs,n,m,h,w,g,rfl,x,ha,F,hf,hC,hx,q⟩:=h;obtain⟨dx,W,C,h1,h2,h3⟩:=x.ex;show lY K c _ [some (.ref r),some (.ref f)] H;unfold lY;symm;refine methE rfl x.ok h1 (by rfl) ?_;symm;refine⟨r,p,f,ws,cs,xs,n,m,rfl,x,hf,hC,fun l H1 s1 hl el=>?_⟩;have LS:(sgAt xs cs).length<=100:=by unfold sgAt;rw[LV];exact Mi hC.1 (by decide)
 symm;refine Cc el (fun y hy=>by have:=Hv hC rfl hx y hy;omega) (by omega) ?_;refine fldE rfl x.ok (s1 _ _ h1) (v:=.int n) (by rfl) ?_;symm;exact q _ s1
theorem BB:∀ l:List Int,risB l=(List.range (l.length-1)).all fun i=>decide (l.getD i 0<l.getD (i+1) 0)
 | []=>rfl
 | [x]=>rfl
 | x::y::r=>by
  have ih:=BB (y::r);show(decide (x<y)&&risB (y::r))=(List.range (r.length+1)).all fun i=>decide ((x::y::r).getD i 0 < (x::y::r).getD (i+1) 0);rw[ih,List.range_succ_eq_map,OC,NW];rfl
def mN(K:Frag)(c:RCl RK):Sp:=c5 K c .Rising
def jf(K:Frag)(c:RCl RK):TS:=
 (tSeq (tAsg (aF c c.ok "signs_at" (eJ K c) (tVar 0) (tCons (tVar 1) tNil)) (gName 2))
  (tRet (tCB kAll (tCons (tComp [none,none,some 2] (de (tCons (tOp cSub (tCB kLen (tCons (tVar 2) tNil)) (tC (.int 1))) tNil)) (gName 1) tTrue (tOp (cCmp fun i j=>decide (i<j)) (tOp cIx (tVar 2) (tVar 1)) (tOp cIx (tVar 2) (tOp cAdd (tVar 1) (tC (.int 1)))))) tNil))))
theorem vE(h:mN K c vs H Q E):jf K c (eD9 Q) (start ["self","filling","signs"] vs) H:=by
 obtain⟨r,p,f,ws,cs,xs,n,m,h,w,g,rfl,x,ha,F,hf,hC,hx,q⟩:=h;obtain⟨dx,W,C,h1,h2,h3⟩:=x.ex;show jf K c _ [some (.ref r),some (.ref f),none] H;unfold jf;symm;refine methE rfl x.ok h1 (by rfl) ?_;symm;refine⟨r,p,f,ws,cs,xs,n,m,rfl,x,hf,hC,fun l H1 s1 hl el=>?_⟩;have LS:(sgAt xs cs).length<=100:=by unfold sgAt;rw[LV];exact Mi hC.1 (by decide)
 have q1:∀ H',Same H H'->Q (.bl (risB (sgAt xs cs))) H':=q;generalize sgAt xs cs=sg at*;symm;rw[bd el,LV];symm;refine⟨_,rfl,by omega,by omega,?_⟩;have en:((sg.length:Int)-1).toNat=sg.length-1:=by omega
 rw[en];refine tI (fun _=>true) (fun i=>.bl (decide (sg.getD i 0<sg.getD (i+1) 0))) (by omega) ?_ ?_ ?_
 . intro i H2 R hi s2 k2;exact k2 _ (L3 _)
 . intro i H2 Q2 hi hb s2 k2;show tOp _ _ _ [none,some (.int (0+(i:Int))),some (.ref l)] H2 Q2;rw[NE];symm;refine ixI (s2 _ _ el) (by omega) (by omega) ?_;refine ixI (s2 _ _ el) (by omega) (by omega) ?_;symm;have e1:(i:Int).toNat=i:=by omega
   have e2:((i:Int)+1).toNat=i+1:=by omega
   rw[e1,e2];exact k2 _ (L3 _)
 . intro l2 H2 hl2 s2 el2;rw[a9] at el2;refine ld (bs:=(List.range (sg.length-1)).map fun i=>decide (sg.getD i 0<sg.getD (i+1) 0)) (by rw[el2,MH];rfl) ?_
   have e:((List.range (sg.length-1)).map fun i=>decide (sg.getD i 0<sg.getD (i+1) 0)).all id=risB sg:=by
    rw[BB,NW];rfl
   rw[e];exact q1 _ (s1.trans s2)
theorem Fe(l:List Int)(x:Int):seenN (l++[x])=if (seenN l).1<x then(x,(seenN l).2+1) else seenN l:=by
 unfold seenN;rw[N1];rfl
def qh(K:Frag)(c:RCl RK):Sp:=c5 K c .Seen
def kG(K:Frag)(c:RCl RK):TS:=
 (tSeq (tAsg (tC (.int 0)) (gName 2))
  (tSeq (tAsg (tC (.int 0)) (gName 3))
  (tSeq (tFor (iList K (aF c c.ok "signs_at" (eJ K c) (tVar 0) (tCons (tVar 1) tNil))) (gName 4)
  (tIfS (tTest (tOp (cCmp fun i j=>decide (j<i)) (tVar 4) (tVar 2))) (tSeq (tAsg (tVar 4) (gName 2))
  (tAsg (tOp cAdd (tVar 3) (tC (.int 1))) (gName 3))) tNext))
  (tRet (tOp (cEq K) (tVar 3) (tFldK c (tVar 0) "amount"))))))
theorem yD(h:qh K c vs H Q E):kG K c (eD9 Q) (start ["self","filling","greatest","seen","sign"] vs) H:=by
 obtain⟨r,p,f,ws,cs,xs,n,m,h,w,g,rfl,x,ha,F,hf,hC,hx,q⟩:=h;obtain⟨dx,W,C,h1,h2,h3⟩:=x.ex;show kG K c _ [some (.ref r),some (.ref f),none,none,none] H;unfold kG;symm;refine methE rfl x.ok h1 (by rfl) ?_;symm;refine⟨r,p,f,ws,cs,xs,n,m,rfl,x,hf,hC,fun l H1 s1 hl el=>?_⟩;have q1:∀ H',Same H H'->Q (.bl (decide ((seenN (sgAt xs cs)).2=n))) H':=q;generalize sgAt xs cs=sg at*;symm;refine⟨⟨_,Ml el⟩,bi (K:=K) (xs:=sg.map V.int) (fun i σ H'=>∃ cv:Option V,σ=[some (.ref r),some (.ref f),some (.int (seenN (sg.take i)).1),some (.int (seenN (sg.take i)).2),cv]/\H'=H1) ⟨none,rfl,rfl⟩ (fun i σ H' _ ⟨_,_,e⟩=>by rw[e];exact Ml el) ?_ ?_⟩
 . rintro i y σ H2 hy ⟨cv,rfl,rfl⟩;rw[L9] at hy
   cases e:sg[i]? with
   | none=>rw[e] at hy;cases hy
   | some z=>
    rw[e] at hy;cases hy;have et:sg.take (i+1)=sg.take i++[z]:=by rw[O6,e];rfl
    have ea:=Fe (sg.take i) z;rw[← et] at ea;symm;rw[ay];symm;by_cases hz:(seenN (sg.take i)).1<z
    . rw[LY hz];rw[Mp hz] at ea;refine iteT ?_;rw[ea];exact⟨_,rfl,by first | trivial | rfl⟩
    . rw[L0 hz];rw[Md hz] at ea;refine iteF ?_;rw[ea];exact⟨_,rfl,by first | trivial | rfl⟩
 . rintro σ H2 ⟨cv,rfl,rfl⟩;rw[LV,M0];symm;refine fldE rfl x.ok (s1 _ _ h1) (v:=.int n) (by rfl) ?_;symm;exact q1 _ s1
def oE(K:Frag)(c:RCl RK):Sp:=fun vs H Q E=>∃ k,iF K c k vs H Q E
def jS(K:Frag)(c:RCl RK):TS:=
 (tRet (tComp [none,none,some 1,some 0] (iTup K (tFldK c (tVar 0) "cells")) (gName 1) (tTest (tOp (cEq K) (tOp cIx (tVar 2) (tVar 1)) (tFldK c (tVar 3) "mark"))) (tVar 1)))
theorem xh(h:oE K c vs H Q E):jS K c (eD9 Q) (start ["self","filling"] vs) H:=by
 obtain⟨k,r,p,f,ws,cs,xs,n,m,rfl,x,hf,⟨hn,hc⟩,q⟩:=h;obtain⟨dx,W,C,h1,h2,h3⟩:=x.ex;show jS K c _ [some (.ref r),some (.ref f)] H;unfold jS;rw[cI,wY];refine fldE rfl x.ok h1 (v:=.ref C) (by rfl) ?_;refine⟨C,rfl,⟨_,PQ h3⟩,?_⟩;refine xR (xs:=cs) (fun c=>decide (xs.getD c.toNat 0=m)) (fun c=>c) (by omega) h3 ?_ ?_ ?_
 . intro z H1 R hz s1 k1;show tTest _ [none,some (.int z),some (.ref f),some (.ref r)] H1 R;symm;have:=hc z hz;refine ixI (s1 _ _ hf) this.1 (by omega) ?_;refine fldE rfl x.ok (s1 _ _ h1) (v:=.int m) (by rfl) ?_;symm;exact k1 _ (L3 _)
 . intro z H1 Q1 hz hb s1 k1;exact k1 _ (L3 _)
 . intro l H1 hl s1 el;rw[Np] at el;exact q l H1 s1 hl el
def oF(K:Frag)(c:RCl RK):Sp:=c5 K c .Count
def jT(K:Frag)(c:RCl RK):TS:=
 (tRet (tOp (cEq K) (tCB kLen (tCons (aF c c.ok "marked" (iF K c) (tVar 0) (tCons (tVar 1) tNil)) tNil)) (tFldK c (tVar 0) "amount")))
theorem xi(h:oF K c vs H Q E):jT K c (eD9 Q) (start ["self","filling"] vs) H:=by
 obtain⟨r,p,f,ws,cs,xs,n,m,h,w,g,rfl,x,ha,F,hf,hC,hx,q⟩:=h;obtain⟨dx,W,C,h1,h2,h3⟩:=x.ex;show jT K c _ [some (.ref r),some (.ref f)] H;unfold jT;symm;refine methE rfl x.ok h1 (by rfl) ?_;symm;refine⟨r,p,f,ws,cs,xs,n,m,rfl,x,hf,hC,fun l H1 s1 hl el=>?_⟩;symm;rw[bd el,LV];refine fldE rfl x.ok (s1 _ _ h1) (v:=.int n) (by rfl) ?_;symm;exact q _ s1
theorem mem_rngL{j c:Int}:c∈rngL 0 j↔0<=c/\c<j:=by
 unfold rngL;rw[Mg];constructor
 . rintro⟨k,hk,rfl⟩;have:=Mb.mp hk;omega
 . rintro⟨h0,h1⟩;exact⟨c.toNat,Mb.mpr (by omega),by omega⟩
def lZ(K:Frag):Sp:=fun vs H Q _=>∃(S M:Addr) (sq ms:List Int),vs=[.ref S,.ref M]/\H S=some (.lst (sq.map V.int))/\H M=some (.lst (ms.map V.int))/\sq.length<=100/\∀ H',Same H H'->Q (.bl (sq.all fun c=>decide (c∈ms))) H'
def l0(K:Frag):TS:=
 (tRet (tCB kAll (tCons (tComp [none,none,some 1] (iList K (tVar 0)) (gName 1) tTrue (tOp (cIn K false) (tVar 1) (tVar 2))) tNil)))
variable{vs:List V}
theorem zU{K:Frag}{H:Hp}{Q:VK}{E:XK}(h:lZ K vs H Q E):l0 K (eD9 Q) (start ["some","cells"] vs) H:=by
 obtain⟨S,M,sq,ms,rfl,hS,hM,hn,q⟩:=h;show l0 K _ [some (.ref S),some (.ref M)] H;unfold l0;symm;refine⟨⟨_,Ml hS⟩,?_⟩;refine bI (xs:=sq.map V.int) (fun _=>true) (fun i=>.bl (decide (sq.getD i 0∈ms))) (by rw[LV];omega) (Ml hS) ?_ ?_ ?_
 . intro i x H1 R hx s1 k1;exact k1 _ (L3 _)
 . intro i x H1 Q1 hx hb s1 k1;rw[L9] at hx
   cases e:sq[i]? with
   | none=>rw[e] at hx;cases hx
   | some z=>
    rw[e] at hx;cases hx;have k2:=k1 _ (L3 H1);rw[List.getD,e] at k2;show tOp (cIn K false) _ _ [none,some (.int z),some (.ref M)] H1 Q1;symm;rw[nI (s1 _ _ hM)];exact k2
 . intro l H1 hl s1 el;rw[a9,LV] at el;refine ld (bs:=(List.range sq.length).map fun i=>decide (sq.getD i 0∈ms)) (by rw[el,MH];rfl) ?_
   have e:((List.range sq.length).map fun i=>decide (sq.getD i 0∈ms)).all id=sq.all fun c=>decide (c∈ms):=by
    rw[NW,MA,L6,L6];constructor
    . intro h c hc;obtain⟨i,hi,rfl⟩:=Nw.mp hc;have:=h i (Mb.mpr hi);dsimp only[Function.comp,id] at this;rw[List.getD,LW hi] at this;exact this
    . intro h i hi;have hi:=Mb.mp hi;have:=h _ (ME hi);dsimp only[Function.comp,id];rw[List.getD,LW hi];exact this
   rw[e];exact q _ s1
def kS(K:Frag)(c:RCl RK):Sp:=c5 K c .NoSquare
theorem Gp{h w g:Int}(F:FlOk h w g):(squL h w).length<=16:=by
 obtain⟨h0,h1,w0,w1,m16,g0,g1⟩:=F;unfold squL;rw[LV];refine Mi (Mh _ _) ?_;rw[MR];omega
def gy(K:Frag)(c:RCl RK):TS:=
 (tSeq (tAsg (aF c c.ok "marked" (iF K c) (tVar 0) (tCons (tVar 1) tNil)) (gName 2))
  (tRet (tNotV (tCB kAny (tCons (tComp [none,none,some 2] (iList K (tCall (iR K) [] E0 (tCons (tFldK c (tVar 0) "floor") tNil))) (gName 1) tTrue (tCall (lZ K) [] E0 (tCons (tVar 1) (tCons (tVar 2) tNil)))) tNil)))))
theorem sW{K:Frag}{c:RCl RK}{H:Hp}{Q:VK}{E:XK}(h:kS K c vs H Q E):gy K c (eD9 Q) (start ["self","filling","cells"] vs) H:=by
 obtain⟨r,p,f,ws,cs,xs,n,m,h,w,g,rfl,x,ha,F,hf,hC,hx,q⟩:=h;obtain⟨dx,W,C,h1,h2,h3⟩:=x.ex;show gy K c _ [some (.ref r),some (.ref f),none] H;unfold gy;symm;refine methE rfl x.ok h1 (by rfl) ?_;symm;refine⟨r,p,f,ws,cs,xs,n,m,rfl,x,hf,hC,fun l H1 s1 hl el=>?_⟩;symm;refine fldE rfl x.ok (s1 _ _ h1) (v:=.ref p) (by rfl) ?_;symm;refine⟨p,h,w,g,rfl,s1 _ _ ha,F,fun L as H2 s2 hL xL _ _ _=>?_⟩;have sl:=Gp F;refine⟨L,rfl,⟨_,Ml xL.top⟩,?_⟩;refine bI (xs:=as.map V.ref) (fun _=>true) (fun i=>.bl (((squL h w).getD i []).all fun c=>decide (c∈mkAt xs cs m))) (by rw[LV,xL.len];omega) (Ml xL.top) ?_ ?_ ?_
 . intro i x H3 R hx s3 k3;exact k3 _ (L3 _)
 . intro i y H3 Q3 hi hb s3 k3;obtain⟨b,hb,rfl⟩:=br hi;have hlt:i < (squL h w).length:=by rw[← xL.len];exact(L1.mp hb).1
   have e:=LW hlt;have eg:(squL h w).getD i []=(squL h w)[i]:=by rw[List.getD,e];rfl
   have hq4:((squL h w)[i]).length<=100:=by
    have hm:=ME hlt;generalize (squL h w)[i]=z at hm;unfold squL at hm;obtain⟨j,_,rfl⟩:=Mg.mp hm;show 4<=100;decide
   show tCall _ _ _ _ [none,some (.ref b),some (.ref l)] H3 Q3;symm;refine⟨b,l,_,_,rfl,s3 _ _ (xL.at_ i b _ hb e),s3 _ _ (s2 _ _ el),hq4,fun H4 s4=>?_⟩;have:=k3 H4 s4;rw[eg] at this;exact this
 . intro D H3 hD s3 eD;rw[a9,LV,xL.len] at eD;refine Ce (bs:=(List.range (squL h w).length).map fun i=>((squL h w).getD i []).all fun c=>decide (c∈mkAt xs cs m)) (by rw[eD,MH];rfl) ?_
   have e:((List.range (squL h w).length).map fun i=>((squL h w).getD i []).all fun c=>decide (c∈mkAt xs cs m)).any id=(squL h w).any fun sq=>sq.all fun c=>decide (c∈mkAt xs cs m):=by
    rw[PP,MA,NI,NI];constructor
    . rintro⟨i,hi,hh⟩;have hi:=Mb.mp hi;dsimp only[Function.comp,id] at hh;have eg:(squL h w).getD i []=(squL h w)[i]:=by rw[List.getD,LW hi];rfl
      rw[eg] at hh;exact⟨_,ME hi,hh⟩
    . rintro⟨sq,hs,hh⟩;obtain⟨i,hi,rfl⟩:=Nw.mp hs;refine⟨i,Mb.mpr hi,?_⟩;dsimp only[Function.comp,id];have eg:(squL h w).getD i []=(squL h w)[i]:=by rw[List.getD,LW hi];rfl
      rw[eg];exact hh
   rw[e];symm;exact q _ ((s1.trans s2).trans s3)
def dR(K:Frag):Sp:=fun vs H Q _=>∃(a l:Addr) (h w g st:Int) (cs:List Int),vs=[.ref a,.ref l,.int st]/\IsFl H a h w g/\0<w/\w<100/\H l=some (.lst (cs.map V.int))/\cs.length<=63/\
 ∀(p:Addr) (H':Hp) (rs:List Int),Same H H'->H p=none->H' p=some (.lst (rs.map V.int))->rs.Pairwise (· < ·)->(∀ x,x∈rs↔RC h w cs st x)->Q (.ref p) H'
def pY(K:Frag):TS:=
 (tSeq (tIfS (tTest (tOp (cIn K true) (tVar 2) (tVar 1))) (tRet (tLst tNil)) tNext)
  (tSeq (tAsg (tLst (tCons (tVar 2) tNil)) (gName 3))
  (tSeq (tAsg (tC (.int 0)) (gName 4))
  (tSeq (zb (tTest (tOp (cCmp fun i j=>decide (i<j)) (tVar 4) (tCB kLen (tCons (tVar 3) tNil))))
  (tSeq (tFor (iList K (tCall (dG K) [] E0 (tCons (tVar 0) (tCons (tOp cIx (tVar 3) (tVar 4)) tNil)))) (gName 5)
  (tIfS (tAnd (tTest (tOp (cIn K false) (tVar 5) (tVar 1))) (tTest (tOp (cIn K true) (tVar 5) (tVar 3)))) (tDrop (tBM K "list" bm (tVar 3) (tCons (tVar 5) tNil))) tNext))
  (tAsg (tOp cAdd (tVar 4) (tC (.int 1))) (gName 4))))
  (tRet (tCB d6 (tCons (tVar 3) tNil)))))))
variable{K:Frag}{vs:List V}{H:Hp}{Q:VK}{E:XK}
theorem Cq(h:dR K vs H Q E):pY K (eD9 Q) (start ["floor","cells","start","found","place","cell"] vs) H:=by
 obtain⟨a,l,h,w,g,st,cs,rfl,ha,w0,w1,hl,hn,k⟩:=h;show pY K _ [some (.ref a),some (.ref l),some (.int st),none,none,none] H;unfold pY;rw[aJ,ay];symm;rw[lc hl];symm;by_cases hs:st∈cs
 . rw[Md (by simpa using hs)];symm;refine⟨lnR rfl,fun f hf=>?_⟩
   refine⟨fun m σ H'=>∃(fs:List Int) (pl:Nat) (cv:Option V),σ=[some (.ref a),some (.ref l),some (.int st),some (.ref f),some (.int pl),cv]/\Same H H'/\H' f=some (.lst (fs.map V.int))/\BI h w cs st fs pl/\m=cs.length-pl,
    ⟨_,[st],0,none,rfl,(L3 H).laid hf,ag,BI.start hs,rfl⟩,?_⟩
   rintro m σ H1 ⟨fs,pl,cv,rfl,s1,e1,B,rfl⟩;have hfl:=B.len;symm;rw[bd e1,LV];symm;by_cases hp:pl<fs.length
   . rw[Mp (by simpa using hp)];obtain⟨x,hx⟩:∃ x,fs[pl]? =some x:=⟨fs[pl],by simp[hp]⟩;have rx:RC h w cs st x:=B.rc x (L5 hx)
     refine⟨fun σ H'=>∃(fs:List Int) (cv:Option V),σ=[some (.ref a),some (.ref l),some (.int st),some (.ref f),some (.int ((pl:Int)+1)),cv]/\Same H H'/\H' f=some (.lst (fs.map V.int))/\BI h w cs st fs (pl+1),
      fun σ' H' ⟨fs',cv',e,s',e',B'⟩=>⟨_,by omega,fs',pl+1,cv',by rw[e];rfl,s',e',B',rfl⟩,?_⟩
     symm;rw[Cb e1];refine aV (pK (by omega) (by omega)) ?_;symm;rw[show((pl:Int)).toNat=pl from NN _,eI hx];refine⟨a,h,w,g,x,rfl,s1 _ _ ha,w0,w1,fun b H2 s2 hb e2=>?_⟩;have s12:=s1.trans s2
     refine⟨b,rfl,⟨_,Ml e2⟩,bi (K:=K) (xs:=(besL h w x).map V.int) (fun i σ H'=>∃(f2:List Int) (cv:Option V),σ=[some (.ref a),some (.ref l),some (.int st),some (.ref f),some (.int pl),cv]/\Same H H'/\H' b=some (.lst ((besL h w x).map V.int))/\H' f=some (.lst (f2.map V.int))/\BJ h w cs st fs pl ((besL h w x).take i) f2)
      ⟨fs,cv,rfl,s12,e2,s2 _ _ e1,BJ.zero B⟩ (fun i σ H' _ ⟨_,_,_,_,q,_⟩=>Ml q) ?_ ?_⟩
     . rintro i y σ H3 hy ⟨f2,cv2,rfl,s3,eb,ef,J⟩;rw[L9] at hy
       cases hz:(besL h w x)[i]? with
       | none=>rw[hz] at hy;cases hy
       | some z=>
        rw[hz] at hy;cases hy;have hlen2:f2.length<=63:=Mi (dI J.nd fun x hx=>(J.rc x hx).mem) hn;have hmem:z∈besL h w x:=L5 hz;have htake:(besL h w x).take (i+1)=(besL h w x).take i++[z]:=by rw[M8,hz];rfl
        have J2:=J.more rx hmem;rw[← htake] at J2;symm;rw[ay];symm;rw[nI (s3 _ _ hl)];symm
        have fin:∀ H4:Hp,H4 f=some (.lst ((addC cs f2 z).map V.int))->(∀ c,c≠f->H4 c=H3 c)->∃(f2:List Int) (cv:Option V),[some (V.ref a),some (.ref l),some (.int st),some (.ref f),some (.int pl),some (.int z)]=[some (.ref a),some (.ref l),some (.int st),some (.ref f),some (.int pl),cv]/\Same H H4/\H4 b=some (.lst ((besL h w x).map V.int))/\H4 f=some (.lst (f2.map V.int))/\BJ h w cs st fs pl ((besL h w x).take (i+1)) f2:=fun H4 q1 q2=>
         ⟨_,_,rfl,fun c o e=>by rw[q2 c (az e hf)];exact s3 c o e,by rw[q2 b (fun e=>by rw[e] at hb;rw[e1] at hb;cases hb)];exact eb,q1,J2⟩
        by_cases c1:z∈cs
        . rw[Mp (by simpa using c1)];rw[lc ef];by_cases c2:z∈f2
          . simp only[c2,decide_true,NG,Md L7,V.bl.injEq,exists_eq_left'];refine fin H3 ?_ fun _ _=>rfl;rw[ef,addC,Md (fun q=>q.2 c2)]
          . simp only[c2,decide_false,N7,NB,V.bl.injEq,exists_eq_left'];symm;refine⟨bb ef,?_⟩;rw[cP ef];refine⟨by rw[LV];exact aD (by omega),fin _ ?_ fun c hc=>ai hc⟩;rw[ag,addC,Mp ⟨c1,c2⟩];simp
        . rw[Md (by simpa using c1)]
          try simp only[Md L7]
          refine fin H3 ?_ fun _ _=>rfl;rw[ef,addC,Md (fun q=>c1 q.1)]
     . rintro σ H3 ⟨f2,cv2,rfl,s3,eb,ef,J⟩;rw[LV,M0] at J;symm;exact⟨f2,cv2,rfl,s3,ef,J.done B hx⟩
   . rw[Md (by simpa using hp)];symm;unfold d6;dsimp only;rw[e1];refine⟨fs,rfl,by omega,fun rs p hpn pm ps=>?_⟩;refine k p _ rs (s1.laid hpn) (s1.free hpn) ag (DC pm ps B.nd) fun x=>?_;rw[pm.mem_iff];exact B.done hp x
 . rw[Mp (by simpa using hs)];symm;refine⟨M2 _,fun p hp=>k p _ [] ((L3 H).laid hp) hp ag .nil fun x=>⟨(fun q=>nomatch q),fun r=>absurd (RC.st r) hs⟩⟩
variable{h w:Int}{ms:List Int}
theorem joinB_iff:joinB h w ms=true↔(ms=[]\/(ms.Pairwise (· < ·)/\∀ x∈ms,RC h w ms (ms.headD 0) x)):=by
 unfold joinB;exact @Of _ (Classical.propDecidable _)
def jA(K:Frag)(c:RCl RK):Sp:=fun vs H Q E=>∃ k,iS K c k vs H Q E
def eX(K:Frag)(c:RCl RK):TS:=
 (tRet (tOrV (tOp (cEq K) (tVar 1) (tLst tNil)) (tOp (cEq K) (tCall (dR K) [] E0 (tCons (tFldK c (tVar 0) "floor") (tCons (tVar 1) (tCons (tOp cIx (tVar 1) (tC (.int 0))) tNil)))) (tVar 1))))
variable{c:RCl RK}
theorem qy(h:jA K c vs H Q E):eX K c (eD9 Q) (start ["self","cells"] vs) H:=by
 obtain⟨k,r,p,C,ws,cs,ms,n,m,h,w,g,rfl,x,ha,F,hC,hn,q⟩:=h;obtain⟨h0,h1',w0,w1,m16,g0,g1⟩:=id F;obtain⟨dx,W,C',h1,h2,h3⟩:=x.ex;show eX K c _ [some (.ref r),some (.ref C)] H;unfold eX;symm;refine⟨lnR rfl,fun l hl=>?_⟩;obtain⟨H1,z9,s1,el⟩:∃ z,upd H l (.lst [])=z/\Same H z/\z l=some (.lst (([]:List Int).map V.int)):=aS _ hl;rw[z9];refine sH (s1 _ _ hC) el ?_;symm
 cases ms with
 | nil=>
  have e:joinB h w []=true:=joinB_iff.mpr (.inl rfl);have:=q _ s1;rw[e] at this;rw[LY rfl,Mp rfl];exact this
 | cons z zs=>
  rw[L0 (by simp),Md (by decide)];refine fldE rfl x.ok (s1 _ _ h1) (v:=.ref p) (by rfl) ?_;symm;refine ixL (s1 _ _ hC) (v:=V.int z) (d5 (j:=0) rfl) ?_;symm;refine⟨p,C,h,w,g,z,z::zs,rfl,s1 _ _ ha,by omega,by omega,s1 _ _ hC,hn,fun u H2 rs s2 hu eu rise mem=>?_⟩;refine sH eu (s2 _ _ (s1 _ _ hC)) ?_
  have e:decide (rs=z::zs)=joinB h w (z::zs):=by
   rw[MA,LX,joinB_iff];constructor
   . intro e;subst e;exact .inr ⟨rise,fun x hx=>(mem x).mp hx⟩
   . rintro(e | ⟨rise2,all⟩)
     . cases e
     . exact vd rise rise2 fun y=>⟨fun hy=>((mem y).mp hy).mem,fun hy=>(mem y).mpr (all y hy)⟩
  rw[e];exact q _ (s1.trans s2)
def mO(K:Frag)(c:RCl RK):Sp:=c5 K c .Joined
def jg(K:Frag)(c:RCl RK):TS:=
 (tRet (aF c c.ok "is_joined" (iS K c) (tVar 0) (tCons (aF c c.ok "marked" (iF K c) (tVar 0) (tCons (tVar 1) tNil)) tNil)))
variable{xs cs:List Int}{m:Int}
theorem Ea(hn:cs.length<=63):(mkAt xs cs m).length<=63:=by
 unfold mkAt;exact Mi (Mh _ _) hn
theorem vF(h:mO K c vs H Q E):jg K c (eD9 Q) (start ["self","filling"] vs) H:=by
 obtain⟨r,p,f,ws,cs,xs,n,m,h,w,g,rfl,x,ha,F,hf,hC,hx,q⟩:=h;obtain⟨dx,W,C,h1,h2,h3⟩:=x.ex;show jg K c _ [some (.ref r),some (.ref f)] H;unfold jg;symm;refine methE rfl x.ok h1 (by rfl) ?_;symm;refine methE rfl x.ok h1 (by rfl) ?_;symm;refine⟨r,p,f,ws,cs,xs,n,m,rfl,x,hf,hC,fun l H1 s1 hl el=>?_⟩;exact⟨r,p,l,ws,cs,_,n,m,h,w,g,rfl,x.same s1,s1 _ _ ha,F,el,Ea hC.1,fun H2 s2=>q _ (s1.trans s2)⟩
def gO(K:Frag)(c:RCl RK):Sp:=gn K c .Ring
def c7(K:Frag)(c:RCl RK):TS:=
 (tRet (tOp (cEq K) (tCB kLen (tCons (tComp [none,none,some 1] (iList K (tCall (dG K) [] E0 (tCons (tFldK c (tVar 0) "floor") (tCons (tVar 2) tNil)))) (gName 1) (tTest (tOp (cIn K false) (tVar 1) (tVar 2))) (tVar 1)) tNil)) (tC (.int 2))))
theorem Gq(h w c:Int):(besL h w c).length<=4:=by
 unfold besL
 repeat rw[Mz]
 split <;> split <;> split <;> split <;> simp
theorem oe(h:gO K c vs H Q E):c7 K c (eD9 Q) (start ["self","cells","cell"] vs) H:=by
 obtain⟨r,p,C,ws,cs,ms,n,m,h,w,g,z,rfl,x,ha,F,hC,hn,q⟩:=h;obtain⟨h0,h1',w0,w1,m16,g0,g1⟩:=id F;obtain⟨dx,W,C',h1,h2,h3⟩:=x.ex;show c7 K c _ [some (.ref r),some (.ref C),some (.int z)] H;unfold c7;symm;refine fldE rfl x.ok h1 (v:=.ref p) (by rfl) ?_;symm;refine⟨p,h,w,g,z,rfl,ha,by omega,by omega,fun b H2 s2 hb e2=>?_⟩;have bl:=Gq h w z;refine⟨b,rfl,⟨_,Ml e2⟩,?_⟩;refine bf (xs:=besL h w z) (fun y=>decide (y∈ms)) (fun y=>y) (by omega) (Ml e2) ?_ ?_ ?_
 . intro y H3 R hy s3 k3;show tTest _ [none,some (.int y),some (.ref C)] H3 R;symm;rw[nI (s3 _ _ (s2 _ _ hC))];exact⟨_,rfl,k3 _ (L3 _)⟩
 . intro y H3 Q3 hy hb s3 k3;exact k3 _ (L3 _)
 . intro l H3 hl s3 el;rw[Np] at el;symm;rw[bd el,LV];symm;have:=q _ (s2.trans s3);unfold twoB at this
   have e:decide ((((besL h w z).filter fun y=>decide (y∈ms)).length:Int)=2)=decide (((besL h w z).filter fun y=>decide (y∈ms)).length=2):=by
    rw[MA,LX,LX];omega
   rw[e];exact this
def qi(K:Frag)(c:RCl RK):Sp:=c5 K c .Ring
def kH(K:Frag)(c:RCl RK):TS:=
 (tSeq (tAsg (aF c c.ok "marked" (iF K c) (tVar 0) (tCons (tVar 1) tNil)) (gName 2))
  (tRet (tAndV (aF c c.ok "is_joined" (iS K c) (tVar 0) (tCons (tVar 2) tNil)) (tCB kAll (tCons (tComp [none,none,some 2,some 0] (iList K (tVar 2)) (gName 1) tTrue (aF c c.ok "has_two_beside" (gn K c) (tVar 3) (tCons (tVar 2) (tCons (tVar 1) tNil)))) tNil)))))
theorem yE(h:qi K c vs H Q E):kH K c (eD9 Q) (start ["self","filling","cells"] vs) H:=by
 obtain⟨r,p,f,ws,cs,xs,n,m,h,w,g,rfl,x,ha,F,hf,hC,hx,q⟩:=h;obtain⟨dx,W,C,h1,h2,h3⟩:=x.ex;show kH K c _ [some (.ref r),some (.ref f),none] H;unfold kH;symm;refine methE rfl x.ok h1 (by rfl) ?_;symm;refine⟨r,p,f,ws,cs,xs,n,m,rfl,x,hf,hC,fun l H1 s1 hl el=>?_⟩;have hml:=Ea (xs:=xs) (m:=m) hC.1;have q1:∀ H',Same H H'->Q (.bl (joinB h w (mkAt xs cs m)&&(mkAt xs cs m).all (twoB h w (mkAt xs cs m)))) H':=q;generalize mkAt xs cs m=ms at*;symm;refine methE rfl x.ok (s1 _ _ h1) (by rfl) ?_;symm;refine⟨r,p,l,ws,cs,ms,n,m,h,w,g,rfl,x.same s1,s1 _ _ ha,F,el,hml,fun H2 s2=>?_⟩;have s12:=s1.trans s2;symm
 cases hj:joinB h w ms with
 | false=>
  rw[hj] at q1
  first | exact iteF (q1 _ s12) | exact q1 _ s12
 | true=>
  rw[hj] at q1;refine iteT ?_;refine⟨⟨_,Ml (s2 _ _ el)⟩,?_⟩;refine bI (xs:=ms.map V.int) (fun _=>true) (fun i=>.bl (twoB h w ms (ms.getD i 0))) (by rw[LV];omega) (Ml (s2 _ _ el)) ?_ ?_ ?_
  . intro i y H3 R hy s3 k3;exact k3 _ (L3 _)
  . intro i y H3 Q3 hy hb s3 k3;rw[L9] at hy
    cases e:ms[i]? with
    | none=>rw[e] at hy;cases hy
    | some z=>
     rw[e] at hy;cases hy;have s13:=s12.trans s3;have eg:ms.getD i 0=z:=by rw[List.getD,e];rfl
     show aF _ _ _ _ _ _ [none,some (.int z),some (.ref l),some (.ref r)] H3 Q3;refine methE rfl x.ok (s13 _ _ h1) (by rfl) ?_;symm;refine⟨r,p,l,ws,cs,ms,n,m,h,w,g,z,rfl,x.same s13,s13 _ _ ha,F,s3 _ _ (s2 _ _ el),hml,fun H4 s4=>?_⟩;have:=k3 H4 s4;rw[eg] at this;exact this
  . intro l2 H3 hl2 s3 el2;rw[a9,LV] at el2;refine ld (bs:=(List.range ms.length).map fun i=>twoB h w ms (ms.getD i 0)) (by rw[el2,MH];rfl) ?_
    have e:((List.range ms.length).map fun i=>twoB h w ms (ms.getD i 0)).all id=ms.all (twoB h w ms):=by
     have em:(List.range ms.length).map (fun i=>ms.getD i 0)=ms:=by
      refine Pm (by simp) fun i h1 h2=>?_;simp at h1;simp[List.getD,LW h1]
     have e2:(List.range ms.length).map (fun i=>twoB h w ms (ms.getD i 0))=ms.map (twoB h w ms):=by
      rw[← em,MH,em];rfl
     rw[e2,NW];rfl
    rw[e];exact q1 _ (s12.trans s3)
theorem Ff{α:Type}(F:Int->α)(ss:List Int):(List.range ss.length).map (fun i=>F (ss.getD i 0))=ss.map F:=by
 refine No fun i=>?_;rw[L9,L9];by_cases h:i<ss.length
 . rw[Nf h,LW h];simp[List.getD,h]
 . rw[Mt (by simpa using h),Mt (by omega)];rfl
variable{i:Nat}
theorem xV{α:Type}{l:List α}{x:α}(h:l[i]? =some x):l.take (i+1)=l.take i++[x]:=by
 rw[O6,h];rfl
variable{l:Addr}{as:List Addr}{LQ:List (List Int)}
theorem IsLL.app{bs:List Addr}{yss:List (List Int)}(x:IsLL H l as LQ)(nl:l∉as)(nb:l∉bs)(len:bs.length=yss.length)(at2:∀(j:Nat) (a:Addr) (ys:List Int),bs[j]? =some a->yss[j]? =some ys->H a=some (.lst (ys.map V.int))):
  IsLL (upd H l (.lst (as.map V.ref++bs.map V.ref))) l (as++bs) (LQ++yss):=by
 have hx:=x.len;refine⟨by rw[ag,NX],by rw[Mz,Mz,x.len,len],fun j a ys h1 h2=>?_⟩;by_cases hj:j<as.length
 . rw[MG hj] at h1;rw[MG (by omega)] at h2;have ne:a≠l:=fun z=>nl (z ▸ L5 h1);rw[ai ne];exact x.at_ j a ys h1 h2
 . rw[MO (by omega)] at h1;rw[MO (by omega)] at h2;have ne:a≠l:=fun z=>nb (z ▸ L5 h1);rw[ai ne];exact at2 _ a ys h1 (by rw[hx];exact h2)
theorem IsLL.get{a:Addr}(x:IsLL H l as LQ)(h:as[i]? =some a):∃ xs,LQ[i]? =some xs/\H a=some (.lst (xs.map V.int)):=by
 have hi:=(L1.mp h).1;have e:LQ[i]? =some (LQ[i]'(by have:=x.len;omega)):=LW _;exact⟨_,e,x.at_ i a _ h e⟩
variable{n:Nat}
theorem Eb(h:n<=1100):n<sizeLine:=Na h (by decide)
variable{p:Addr}
theorem Ec{q:Addr}{xs ys:List V}(hp:H p=some (.lst xs))(hq:H q=some (.lst ys))(hn:xs.length+ys.length<=1100)(h:Q .non (upd H p (.lst (xs++ys)))):lC (.ref p) [.ref q] H Q:=by
 show bnd (unM (H p)) _;rw[hp];show bnd (unM (H q)) _;rw[hq];exact⟨MS (Eb hn),h⟩
theorem BC(m:Int):(sgL m).length<=Builtin.Int.intBits m:=by
 unfold sgL;rw[LV];refine Mi (Mh _ _) ?_;rw[MR];exact Mu _
def prodW(ms:List Int):Nat:=ms.foldl (fun p m=>p*(sgL m).length) 1
variable{x:Int}
theorem vG{α:Type}(f:α->Int->α)(a:α)(h:xs[i]? =some x):(xs.take (i+1)).foldl f a=f ((xs.take i).foldl f a) x:=by
 rw[O6,h,N1];rfl
def xj(K:Frag):Sp:=fun vs H Q _=>∃(p:Addr) (ms:List Int),vs=[.ref p]/\H p=some (.lst (ms.map V.int))/\(∀ m∈ms,Builtin.Int.intBits m<=900)/\∀ H',Same H H'->Q (.int ((prodW ms:Nat):Int)) H'
def xk(K:Frag):TS:=
 (tSeq (tAsg (tC (.int 1)) (gName 1))
  (tSeq (tFor (iList K (tVar 0)) (gName 2)
  (tAsg (tOp cMul (tVar 1) (tCB kLen (tCons (tCall (bu K) [] E0 (tCons (tVar 2) tNil)) tNil))) (gName 1)))
  (tRet (tVar 1))))
theorem Gr(h:xj K vs H Q E):xk K (eD9 Q) (start ["masks","product","mask"] vs) H:=by
 obtain⟨p,ms,rfl,hp,hb,k⟩:=h;show xk K _ [some (.ref p),none,none] H;unfold xk;symm;refine⟨⟨_,Ml hp⟩,bi (K:=K) (xs:=ms.map V.int) (fun i σ H'=>∃ mv:Option V,σ=[some (.ref p),some (.int ((prodW (ms.take i):Nat):Int)),mv]/\Same H H') ⟨none,rfl,L3 H⟩ (fun i σ H' _ ⟨_,_,s⟩=>Ml (s _ _ hp)) ?_ ?_⟩
 . rintro i x σ H1 hx ⟨mv,rfl,s1⟩;obtain⟨m,hm,rfl⟩:=aQ hx;have hbm:=hb m (L5 hm);symm;refine⟨m,rfl,hbm,fun l H2 s2 hl el=>?_⟩;symm;rw[bd el];symm;have h1:=BC m;rw[LV];refine⟨.inr ⟨by omega,by omega⟩,some (.int m),?_,s1.trans s2⟩;unfold prodW;rw[vG _ _ hm,Int.natCast_mul]
 . rintro σ H1 ⟨mv,rfl,s1⟩;symm;rw[M4 (by rw[LV];exact Mu _)] at*;exact k _ s1
def setL(xs:List Int)(z s:Int):List Int:=(List.range xs.length).map fun(i:Nat)=>if (i:Int)=z then s else xs.getD i 0
variable{z s:Int}
theorem zV:(setL xs z s).length=xs.length:=by unfold setL;simp
theorem BD(s0:0<=s)(s6:s<=6)(hx:∀ x∈xs,0<=x/\x<=6):∀ x∈setL xs z s,0<=x/\x<=6:=fun x h=>by
 unfold setL at h;obtain⟨i,hi,rfl⟩:=Mg.mp h;have hlt:=Mb.mp hi;have hb:=hx _ (ME hlt);have eg:xs.getD i 0=xs[i]:=by rw[List.getD,LW hlt];rfl
 rw[eg]
 split
 . exact⟨s0,s6⟩
 . exact hb
def jh(K:Frag):Sp:=fun vs H Q _=>∃(F:Addr) (xs:List Int) (z s:Int),vs=[.ref F,.int z,.int s]/\H F=some (.lst (xs.map V.int))/\xs.length<=100/\∀ l H',Same H H'->H l=none->H' l=some (.lst ((setL xs z s).map V.int))->Q (.ref l) H'
def l6(K:Frag):TS:=
 (tRet (tComp [none,none,none,some 1,some 2] (iEnum K (tCons (tVar 0) tNil)) (gTup K 2 (gCons (gName 1) (gCons (gName 2) gNil))) tTrue (tIf (tTest (tOp (cEq K) (tVar 1) (tVar 3))) (tVar 4) (tVar 2))))
theorem zW(h:jh K vs H Q E):l6 K (eD9 Q) (start ["filling","cell","sign"] vs) H:=by
 obtain⟨F,xs,z,s,rfl,hF,hl,q⟩:=h;show l6 K _ [some (.ref F),some (.int z),some (.int s)] H;unfold l6;symm;refine⟨F,rfl,⟨_,Ml hF⟩,?_⟩;refine pJ (xs:=xs.map V.int) (fun _=>true) (fun i=>.int (if (i:Int)=z then s else xs.getD i 0)) (by rw[LV];omega) (by decide) (Ml hF) ?_ ?_ ?_
 . intro i x H1 R hx s1 k1;exact k1 _ (L3 _)
 . intro i x H1 Q1 hx hb s1 k1;obtain⟨y,hy,rfl⟩:=aQ hx;have q1:=k1 _ (L3 H1);rw[eI hy] at q1;show tIf _ _ _ [none,some (.int (i:Int)),some (.int y),some (.int z),some (.int s)] H1 Q1;unfold tIf;symm;by_cases h0:(i:Int)=z
   . rw[LY h0];rw[Mp h0] at q1;exact iteT q1
   . rw[L0 h0];rw[Md h0] at q1;exact iteF q1
 . intro l H1 hl1 s1 el;rw[a9,LV] at el;refine q l H1 s1 hl1 ?_;rw[el];unfold setL;rw[MH];rfl
def extS(fss:List (List Int))(z:Int)(ss:List Int):List (List Int):=fss.flatMap fun f=>ss.map fun s=>setL f z s
theorem uu(z:Int)(ss:List Int):∀ fss:List (List Int),(extS fss z ss).length=fss.length*ss.length
 | []=>by simp[extS]
 | f::r=>by
  have ih:=uu z ss r;unfold extS at ih ⊢;rw[Pf,Mz,ih,LV,My,Pr,Nat.add_comm]
theorem Fg(fs gs:List (List Int))(z:Int)(ss:List Int):extS (fs++gs) z ss=extS fs z ss++extS gs z ss:=by
 unfold extS;rw[NA]
theorem Fh(f:List Int)(z:Int)(ss:List Int):extS [f] z ss=ss.map fun s=>setL f z s:=by
 unfold extS;simp
theorem mem_extS{f:List Int}{fs:List (List Int)}{ss:List Int}:f∈extS fs z ss↔∃ a∈fs,∃ s∈ss,f=setL a z s:=by
 unfold extS;rw[NU];constructor
 . rintro⟨a,ha,h⟩;obtain⟨s,hs,rfl⟩:=Mg.mp h;exact⟨a,ha,s,hs,rfl⟩
 . rintro⟨a,ha,s,hs,rfl⟩;exact⟨a,ha,Mg.mpr ⟨s,hs,rfl⟩⟩
theorem Ed{H0 H1 H2:Hp}{m:Addr}{bs:List Addr}{yss:List (List Int)}(x:IsLL H1 l as LQ)(nl:l∉as)(s0:Same H0 H1)(fr:∀ b∈as,H0 b=none)(s1:Same H1 H2)(nw:NewAt H1 H2 m bs (yss.map fun ys=>.lst (ys.map V.int))):
  IsLL (upd H2 l (.lst (as.map V.ref++bs.map V.ref))) l (as++bs) (LQ++yss)/\l∉as++bs/\(∀ b∈as++bs,H0 b=none):=by
 have nb:l∉bs:=fun h=>by have:=nw.fr l h;rw[x.top] at this;cases this
 refine⟨?_,?_,?_⟩
 . refine(x.same s1).app nl nb (by rw[nw.len,LV]) fun j a ys h1 h2=>?_;exact nw.at_ j a _ h1 (by rw[L9,h2];rfl)
 . intro h;rcases Mj.mp h with h | h
   . exact nl h
   . exact nb h
 . intro b h;rcases Mj.mp h with h | h
   . exact fr b h
   . exact s0.free (nw.fr b h)
def gz(K:Frag):Sp:=fun vs H Q _=>∃(F S:Addr) (as:List Addr) (fss:List (List Int)) (z:Int) (ss:List Int),vs=[.ref F,.int z,.ref S]/\IsLL H F as fss/\H S=some (.lst (ss.map V.int))/\fss.length*ss.length<=1100/\ss.length<=100/\(∀ f∈fss,f.length<=16)/\
 ∀(l:Addr) (bs:List Addr) (H':Hp),Same H H'->H l=none->IsLL H' l bs (extS fss z ss)->Q (.ref l) H'
def gA(K:Frag):TS:=
 (tSeq (tAsg (tLst tNil) (gName 3))
  (tSeq (tFor (iList K (tVar 0)) (gName 4)
  (tDrop (tBM K "list" lC (tVar 3) (tCons (tComp [none,none,some 1,some 4] (iList K (tVar 2)) (gName 1) tTrue (tCall (jh K) [] E0 (tCons (tVar 3) (tCons (tVar 2) (tCons (tVar 1) tNil))))) tNil))))
  (tRet (tVar 3))))
theorem sX(h:gz K vs H Q E):gA K (eD9 Q) (start ["fillings","cell","signs","found","filling"] vs) H:=by
 obtain⟨F,S,as,fss,z,ss,rfl,x,hS,hn,hs,hf,q⟩:=h;show gA K _ [some (.ref F),some (.int z),some (.ref S),none,none] H;unfold gA;symm;refine⟨lnR rfl,fun l hl=>?_⟩;obtain⟨H1,z9,s1,el⟩:=aS (.lst []) hl;rw[z9];refine⟨⟨_,Ml (s1 _ _ x.top)⟩,?_⟩
 refine bi (K:=K) (xs:=as.map V.ref) (fun i σ H'=>∃(v:Option V) (bs:List Addr),σ=[some (.ref F),some (.int z),some (.ref S),some (.ref l),v]/\Same H H'/\IsLL H' l bs (extS (fss.take i) z ss)/\l∉bs/\∀ b∈bs,H b=none)
  ⟨none,[],rfl,s1,⟨el,rfl,fun j a xs h1=>by simp at h1⟩,by simp,fun b hb=>nomatch hb⟩ (fun i σ H' _ ⟨_,_,_,s,_⟩=>s.seq (Ml x.top)) ?_ ?_
 . rintro i y σ H2 hy ⟨v,bs,rfl,s2,x2,nl,fr⟩;obtain⟨f,hfa,rfl⟩:=br hy;obtain⟨xs,ex,ef⟩:=x.get hfa;have hxl:=hf xs (L5 ex);symm;refine⟨bb x2.top,⟨_,Ml (s2 _ _ hS)⟩,?_⟩;refine pL (xs:=ss.map V.int) (fun _=>true) (fun i=>.lst ((setL xs z (ss.getD i 0)).map V.int)) (by rw[LV];omega) (Ml (s2 _ _ hS)) ?_ ?_ ?_
   . intro i x H R hx s1 k1;exact k1 _ (L3 _)
   . intro i x H3 Q3 hi hb s3 k3;obtain⟨t,ht,rfl⟩:=aQ hi;rw[eI ht] at k3;show tCall _ _ _ _ [none,some (.int t),some (.int z),some (.ref f)] H3 Q3;symm;exact⟨f,xs,z,t,rfl,(s2.trans s3) _ _ ef,by omega,fun l H' s' hl el=>k3 l H' s' hl el⟩
   . intro m cs H3 hm s3 em nw;rw[a9,LV,Ff (fun s=>HO.lst ((setL xs z s).map V.int))] at nw
     have nw2:NewAt H2 H3 m cs ((extS [xs] z ss).map fun ys=>.lst (ys.map V.int)):=by
      rw[Fh,MH];exact nw
     have hb:bs.length+cs.length<=1100:=by
      have l1:=x2.len;rw[uu,Nb] at l1;have l2:=nw.len;rw[LV] at l2;have hi:=(L1.mp ex).1;have e1:min i fss.length=i:=by omega
      rw[e1] at l1;have:=OF ss.length (show i+1<=fss.length by omega);rw[Pr] at this;omega
     refine Ec (s3 _ _ x2.top) em (by rw[LV,LV];exact hb) ?_;obtain⟨z1,z2,z3⟩:=Ed x2 nl s2 fr s3 nw2;refine⟨_,bs++cs,rfl,(s2.trans s3).own hl,?_,z2,z3⟩;rw[xV ex,Fg];exact z1
 . rintro σ H2 ⟨v,bs,rfl,s2,x2,nl,fr⟩;symm;have e:fss.take (as.map V.ref).length=fss:=M4 (by rw[LV,x.len];exact Mu _);rw[e] at x2;exact q l bs H2 s2 hl x2
def wfold(LI:List Int)(rest:List Int)(fs:List (List Int)):List (List Int):=rest.foldl (fun fs o=>extS fs o (sgL (LI.getD o.toNat 0))) fs
def wfill(LI rest:List Int)(z s:Int):List (List Int):=wfold LI rest [setL (List.replicate LI.length 0) z s]
noncomputable def waysB (k:RK) (h w:Int) (cs:List Int) (n m:Int) (LI:List Int) (z s:Int) (ms:List Int):Bool:=
 decide (ms=[])&&(decide (prodW (sgAt LI (othL cs z))<=32)&&(decide (0∈sgAt LI (othL cs z))||!((wfill LI (othL cs z) z s).any fun f=>hoB k h w cs n m f)))
theorem xW(LI:List Int):∀(rest:List Int) (fs:List (List Int)),(wfold LI rest fs).length=(sgAt LI rest).foldl (fun p m=>p*(sgL m).length) fs.length
 | [],_=>rfl
 | o::r,fs=>by
  unfold wfold sgAt;rw[Nj,Mx,Nj];have:=xW LI r (extS fs o (sgL (LI.getD o.toNat 0)));unfold wfold sgAt at this;rw[this,uu]
theorem zX:∀(ms:List Int) (n:Nat),(∀ m∈ms,1<=(sgL m).length)->n<=ms.foldl (fun p m=>p*(sgL m).length) n
 | [],_,_=>Mu _
 | m::r,n,h=>by
  rw[Nj];exact Mi (Nat.le_mul_of_pos_right n (h m Mf)) (zX r _ fun x hx=>h x (Mc _ hx))
theorem Cr(i:Nat)(h:∀ m∈ms,1<=(sgL m).length):prodW (ms.take i)<=prodW ms:=by
 have e:prodW ms=(ms.drop i).foldl (fun p m=>p*(sgL m).length) (prodW (ms.take i)):=by
  unfold prodW;rw[← N1,PH]
 rw[e];exact zX _ _ fun x hx=>h x (List.mem_of_mem_drop hx)
theorem pZ{n:Nat}{LI:List Int}(hm:∀ m∈LI,0<=m/\m<64):∀(rest:List Int) (fs:List (List Int)),(∀ f∈fs,f.length=n/\∀ x∈f,0<=x/\x<=6)->∀ f∈wfold LI rest fs,f.length=n/\∀ x∈f,0<=x/\x<=6
 | [],_,h,f,hf=>h f hf
 | o::r,fs,h,f,hf=>by
  refine pZ hm r (extS fs o (sgL (LI.getD o.toNat 0))) (fun g hg=>?_) f hf;obtain⟨a,ha,s,hs,rfl⟩:=mem_extS.mp hg;have h1:=h a ha
  have hs6:1<=s/\s<=6:=by
   by_cases hlt:o.toNat<LI.length
   . have e:LI.getD o.toNat 0=LI[o.toNat]:=by rw[List.getD,LW hlt];rfl
     rw[e] at hs;have hb:=hm _ (ME hlt);rw[(dE hb.1 hb.2).2] at hs;obtain⟨j,hj,rfl⟩:=Mg.mp hs;have:=(L8.mp hj).1;simp at this;omega
   . have e:LI.getD o.toNat 0=0:=by rw[List.getD,Mt (by omega)];rfl
     rw[e,DX] at hs;cases hs
  exact⟨by rw[zV];exact h1.1,BD (by omega) hs6.2 h1.2⟩
def ji(K:Frag)(c:RCl RK):Sp:=fun vs H Q _=>∃(k:RK) (r p A M:Addr) (ws:List (List Nat)) (cs LI ms:List Int) (n m z s h w g:Int),vs=[.ref r,.ref A,.int z,.int s,.ref M]/\IsRule H c k r p ws cs n m/\IsFl H p h w g/\FlOk h w g/\aK cs LI.length/\LI.length<=16/\(∀ m∈LI,0<=m/\m<64)/\1<=s/\s<=6/\H A=some (.lst (LI.map V.int))/\H M=some (.lst (ms.map V.int))/\∀ H',Same H H'->Q (.bl (waysB k h w cs n m LI z s ms)) H'
def fG(K:Frag)(c:RCl RK):TS:=
 (tSeq (tFor (iList K (tVar 7)) (gName 9)
  (tIfS (tB (aF c c.ok "holds" (c5 K c) (tVar 0) (tCons (tVar 9) tNil))) (tRet (tC (.bl false))) tNext))
  (tRet (tC (.bl true))))
def fH(K:Frag)(c:RCl RK):TS:=
 (tSeq (tAsg (tLst (tCons (tCall (jh K) [] E0 (tCons (tOp cRepL (tLst (tCons (tC (.int 0)) tNil)) (tCB kLen (tCons (tVar 1) tNil))) (tCons (tVar 2) (tCons (tVar 3) tNil)))) tNil)) (gName 7))
  (tSeq (tFor (iList K (tVar 5)) (gName 8)
  (tAsg (tCall (gz K) [] E0 (tCons (tVar 7) (tCons (tVar 8) (tCons (tCall (bu K) [] E0 (tCons (tOp cIx (tVar 1) (tVar 8)) tNil)) tNil)))) (gName 7)))
  (fG K c)))
def jj(K:Frag)(c:RCl RK):TS:=
 (tSeq (tAsg (tCall (bC K c) [] E0 (tCons (tVar 0) (tCons (tVar 2) tNil))) (gName 5))
  (tSeq (tAsg (tCall (bX K) [] E0 (tCons (tVar 1) (tCons (tVar 5) tNil))) (gName 6))
  (tSeq (tIfS (tOr (tTest (tOp (cNe K) (tVar 4) (tLst tNil))) (tTest (tOp (cCmp fun i j=>decide (j<i)) (tCall (xj K) [] E0 (tCons (tVar 6) tNil)) (tC (.int 32))))) (tRet (tC (.bl false))) tNext)
  (tSeq (tIfS (tB (tCall (gk K) [] E0 (tCons (tVar 6) tNil))) (tRet (tC (.bl true))) tNext)
  (fH K c)))))
structure Wys(H:Hp)(c:RCl RK)(k:RK)(r p A:Addr)(ws:List (List Nat))(cs LI:List Int)(n m h w g:Int):Prop where
 R:IsRule H c k r p ws cs n m
 fl:IsFl H p h w g
 F:FlOk h w g
 ci:aK cs LI.length
 ml:LI.length<=16
 mo:∀ m∈LI,0<=m/\m<64
 hA:H A=some (.lst (LI.map V.int))
variable{A:Addr}{LI:List Int}{g:Int}
theorem Wys.same{H':Hp}{k:RK}{r:Addr}{ws:List (List Nat)}{n:Int}(x:Wys H c k r p A ws cs LI n m h w g)(s:Same H H'):Wys H' c k r p A ws cs LI n m h w g:=⟨x.R.same s,s _ _ x.fl,x.F,x.ci,x.ml,x.mo,s _ _ x.hA⟩
theorem Cs {k:RK} {r F:Addr} {ws:List (List Nat)} {n:Int} {v2 v3 v4 v5 v6 v8:Option V} {bs:List Addr} {fss:List (List Int)} (X:Wys H c k r p A ws cs LI n m h w g) (x:IsLL H F bs fss) (hf:∀ f∈fss,f.length=LI.length/\∀ x∈f,0<=x/\x<=6)
  (q:∀ H',Same H H'->Q (.bl (!(fss.any fun f=>hoB k h w cs n m f))) H'):
  fG K c (eD9 Q) [some (.ref r),some (.ref A),v2,v3,v4,v5,v6,some (.ref F),v8,none] H:=by
 obtain⟨dx,W,C,h1,h2,h3⟩:=X.R.ex;have hxl:=x.len;unfold fG;symm;refine⟨⟨_,Ml x.top⟩,?_⟩;refine bi (K:=K) (xs:=bs.map V.ref) (fun i σ H'=>∃ v9:Option V,σ=[some (.ref r),some (.ref A),v2,v3,v4,v5,v6,some (.ref F),v8,v9]/\Same H H'/\((fss.take i).any fun f=>hoB k h w cs n m f)=false) ⟨none,rfl,L3 _,rfl⟩ (fun i σ H' _ ⟨_,_,s,_⟩=>s.seq (Ml x.top)) ?_ ?_
 . rintro i y σ H1 hy ⟨v9,rfl,s1,hno⟩;obtain⟨b,hb,rfl⟩:=br hy;obtain⟨f,ef,eb⟩:=x.get hb;have hfm:=L5 ef;obtain⟨hfl,hfx⟩:=hf f hfm;have X1:=X.same s1;symm;rw[ay];symm;refine methE (k:=k) rfl X.R.ok (s1 _ _ h1) (by rfl) ?_;symm;refine⟨r,p,b,ws,cs,f,n,m,h,w,g,rfl,X1.R,X1.fl,X1.F,s1 _ _ eb,by rw[hfl];exact X1.ci,fun y hy=>by have:=hfx y hy;omega,fun H2 s2=>?_⟩;refine⟨_,rfl,?_⟩
   cases hh:hoB k h w cs n m f with
   | true=>
    refine iteT ?_;have e:(fss.any fun f=>hoB k h w cs n m f)=true:=NI.mpr ⟨f,hfm,hh⟩;have q1:=q _ (s1.trans s2);rw[e] at q1;exact q1
   | false=>
    refine iteF ⟨_,rfl,s1.trans s2,?_⟩;rw[xV ef,List.any_append,hno,Nc]
    simpa using hh
 . rintro σ H1 ⟨v9,rfl,s1,hno⟩;rw[M4 (by rw[LV,hxl];exact Mu _)] at hno;symm;rw[hno] at q;exact q _ s1
theorem Ct {k:RK} {r R:Addr} {ws:List (List Nat)} {n:Int} {v4 v6:Option V} (X:Wys H c k r p A ws cs LI n m h w g) (hR:H R=some (.lst ((othL cs z).map V.int))) (s0:1<=s) (s6:s<=6) (hw:prodW (sgAt LI (othL cs z))<=32) (h0:0∉sgAt LI (othL cs z))
  (q:∀ H',Same H H'->Q (.bl (!((wfill LI (othL cs z) z s).any fun f=>hoB k h w cs n m f))) H'):
  fH K c (eD9 Q) [some (.ref r),some (.ref A),some (.int z),some (.int s),v4,some (.ref R),v6,none,none,none] H:=by
 have hml:=X.ml;unfold fH;symm;refine⟨lnR rfl,fun Z hZ=>?_⟩;obtain⟨H1,z9,s1,eZ⟩:=aS (.lst [V.int 0]) hZ;rw[z9];rw[bd (s1 _ _ X.hA),LV];refine He eZ (by omega) (by omega) (by show(1:Nat)<=1;decide) fun N hN=>?_;have s2:Same H1 (upd H1 N (.lst (List.replicate ((LI.length:Nat):Int).toNat [V.int 0]).flatten)):=(L3 H1).laid hN
 have eN:(upd H1 N (.lst (List.replicate ((LI.length:Nat):Int).toNat [V.int 0]).flatten)) N=some (.lst ((List.replicate LI.length (0:Int)).map V.int)):=by
  rw[ag,O7];simp
 generalize upd H1 N (.lst (List.replicate ((LI.length:Nat):Int).toNat [V.int 0]).flatten)=H2 at*;have s12:=s1.trans s2;refine⟨N,_,z,s,rfl,eN,by simp;omega,fun b H3 s3 hb eb=>?_⟩;have s13:=s12.trans s3;symm;refine⟨lnR rfl,fun F hF=>?_⟩;have s4:Same H3 (upd H3 F (.lst [V.ref b])):=(L3 H3).laid hF
 have xF:IsLL (upd H3 F (.lst [V.ref b])) F [b] [setL (List.replicate LI.length 0) z s]:=by
  refine⟨ag,rfl,fun j a xs e1 e2=>?_⟩;have hj:j=0:=by have:=(L1.mp e1).1;simp at this;omega
  subst hj;cases e1;cases e2;exact s4 _ _ eb
 generalize upd H3 F (.lst [V.ref b])=H4 at*;have s14:=s13.trans s4
 have base:∀ f∈([setL (List.replicate LI.length 0) z s]:List (List Int)),f.length=LI.length/\∀ x∈f,0<=x/\x<=6:=fun f hf=>by
  rw[Ma.mp hf];exact⟨by rw[zV];simp,BD (by omega) s6 fun x hx=>by rw[(O8.mp hx).2];omega⟩
 have pos:∀ mm∈sgAt LI (othL cs z),1<=(sgL mm).length:=fun mm hm=>by
  have hne:mm≠0:=fun e=>h0 (e ▸ hm);unfold sgAt at hm;obtain⟨o,ho,rfl⟩:=Mg.mp hm;have hoc:o∈cs:=(L8.mp ho).1;have hi:=X.ci.2 o hoc;have hlt:o.toNat<LI.length:=by omega
  have e:LI.getD o.toNat 0=LI[o.toNat]:=by rw[List.getD,LW hlt];rfl
  rw[e] at hne ⊢;have hb:=X.mo _ (ME hlt);exact(Cn hb.1 hb.2 hne).1.1
 refine⟨⟨_,Ml (s14 _ _ hR)⟩,?_⟩;refine bi (K:=K) (xs:=(othL cs z).map V.int) (fun i σ H'=>∃(F:Addr) (bs:List Addr) (v8:Option V),σ=[some (.ref r),some (.ref A),some (.int z),some (.int s),v4,some (.ref R),v6,some (.ref F),v8,none]/\Same H H'/\IsLL H' F bs (wfold LI ((othL cs z).take i) [setL (List.replicate LI.length 0) z s])) ⟨F,[b],none,rfl,s14,xF⟩ (fun i σ H' _ ⟨_,_,_,_,s,_⟩=>s.seq (Ml hR)) ?_ ?_
 . rintro i y σ H5 hy ⟨F,bs,v8,rfl,s5,x5⟩;obtain⟨o,ho,rfl⟩:=aQ hy;have hom:=L5 ho;have hoc:o∈cs:=(L8.mp hom).1;have hi:=X.ci.2 o hoc;have hlt:o.toNat<LI.length:=by omega
   have e:LI.getD o.toNat 0=LI[o.toNat]:=by rw[List.getD,LW hlt];rfl
   have hb:=X.mo _ (ME hlt);have sb:=dE hb.1 hb.2;symm;refine ixI (s5 _ _ X.hA) (by omega) (by omega) ?_;symm;rw[e];refine⟨_,rfl,by omega,fun S H6 s6' hS eS=>?_⟩;symm;have hsl:(sgL LI[o.toNat]).length<=6:=Mi (BC _) sb.1;refine⟨F,S,bs,_,o,_,rfl,x5.same s6',eS,?_,by omega,fun f hf=>by have:=(pZ X.mo _ _ base f hf).1;omega,fun l cs2 H7 s7 hl x7=>?_⟩
   . rw[xW];have h1:=Cr i pos
     have e2:(sgAt LI ((othL cs z).take i)).foldl (fun p m=>p*(sgL m).length) ([setL (List.replicate LI.length 0) z s]:List (List Int)).length=prodW ((sgAt LI (othL cs z)).take i):=by
      unfold prodW sgAt;rw[OD];rfl
     rw[e2];have h3:prodW ((sgAt LI (othL cs z)).take i)*(sgL LI[o.toNat]).length<=32*6:=N6 (by omega) hsl;omega
   . refine⟨l,cs2,_,rfl,(s5.trans s6').trans s7,?_⟩
     have e3:wfold LI ((othL cs z).take (i+1)) [setL (List.replicate LI.length 0) z s]=extS (wfold LI ((othL cs z).take i) [setL (List.replicate LI.length 0) z s]) o (sgL LI[o.toNat]):=by
      unfold wfold;rw[vG _ _ ho,e]
     rw[e3];exact x7
 . rintro σ H5 ⟨F,bs,v8,rfl,s5,x5⟩;rw[M4 (by rw[LV];exact Mu _)] at x5;exact Cs (X.same s5) x5 (pZ X.mo _ _ base) fun H' s'=>q H' (s5.trans s')
theorem vH(h:ji K c vs H Q E):jj K c (eD9 Q) (start ["rule","masks","cell","sign","more","rest","some","fillings","other","filling"] vs) H:=by
 obtain⟨k,r,p,A,M,ws,cs,LI,ms,n,m,z,s,h,w,g,rfl,hR,hp,F,ci,ml,mk,s0,s6,hA,hM,q⟩:=h;have X:Wys H c k r p A ws cs LI n m h w g:=⟨hR,hp,F,ci,ml,mk,hA⟩;have hcl:cs.length<=63:=by have:=ci.1;omega
 show jj K c _ [some (.ref r),some (.ref A),some (.int z),some (.int s),some (.ref M),none,none,none,none,none] H;unfold jj;symm;refine⟨k,r,p,ws,cs,n,m,z,rfl,hR,hcl,fun R H1 s1 hR1 eR=>?_⟩;have eR2:H1 R=some (.lst ((othL cs z).map V.int)):=eR;symm;refine⟨A,R,LI,othL cs z,rfl,s1 _ _ hA,eR2,⟨Mi (Mh _ _) ci.1,fun x hx=>ci.2 x (L8.mp hx).1⟩,fun S H2 s2 hS eS=>?_⟩;have s12:=s1.trans s2;dsimp only;rw[ay];symm;refine⟨lnR rfl,fun e he=>?_⟩;obtain⟨H3,z9,s3,ee⟩:∃ z,upd H2 e (.lst [])=z/\Same H2 z/\z e=some (.lst (([]:List Int).map V.int)):=aS _ he;rw[z9];have s13:=s12.trans s3;refine sI (s13 _ _ hM) ee ?_;refine⟨_,rfl,?_⟩;unfold waysB at q;by_cases hm:ms=[]
 . rw[LY hm] at q ⊢;rw[Mq] at q;refine iteF ?_;symm;refine⟨S,_,rfl,s3 _ _ eS,fun x hx=>?_,fun H4 s4=>?_⟩
   . unfold sgAt at hx;obtain⟨o,ho,rfl⟩:=Mg.mp hx;have hi:=ci.2 o (L8.mp ho).1;have hlt:o.toNat<LI.length:=by omega
     have e:LI.getD o.toNat 0=LI[o.toNat]:=by rw[List.getD,LW hlt];rfl
     rw[e];have hb:=mk _ (ME hlt);have:=(dE hb.1 hb.2).1;omega
   . have s14:=s13.trans s4;symm;by_cases hw:prodW (sgAt LI (othL cs z))<=32
     . rw[LY hw,Mq] at q;rw[L0 (by omega)];refine iteF ?_;rw[ay];symm;refine⟨S,_,rfl,(s3.trans s4) _ _ eS,?_⟩;refine⟨_,rfl,?_⟩;by_cases h0:0∈sgAt LI (othL cs z)
       . rw[LY h0] at q ⊢;rw[N8] at q;exact iteT (q _ s14)
       . rw[L0 h0] at q ⊢;rw[Nc] at q;refine iteF ?_;exact Ct (X.same s14) (((s2.trans s3).trans s4) _ _ eR2) s0 s6 hw h0 fun H' s'=>q H' (s14.trans s')
     . rw[L0 hw,Mm] at q;rw[LY (by omega)];exact iteT (q _ s14)
 . rw[L0 hm,Mm] at q;rw[L0 hm];exact iteT (q _ s13)
def vI(g:Int)(t:TK)(x:RR)(LI:List Int)(z s:Int)(ms:List Int):Bool:=match t with
 | .only=>onlyB x.cs LI z s ms
 | .place=>gN g x.cs LI z s ms
 | _=>pairB x.cs LI z s ms
def dZ(g:Int)(LK:List RR)(cl LI:List Int)(t:TK)(r z s:Int)(ms:List Int):Bool:=match t with
 | .clue=>clueB cl z s ms
 | _=>match LK[r.toNat]? with
  | none=>false
  | some x=>vI g t x LI z s ms
abbrev K28(t:TK):Prop:=t=.clue\/t=.only\/t=.place\/t=.pair
noncomputable def rcB (h w:Int) (cs:List Int) (st x:Int):Bool:=@decide (RC h w cs st x) (Classical.propDecidable _)
theorem zY{rs:List Int}{st:Int}(hm:x∈rs↔RC h w cs st x):decide (x∈rs)=rcB h w cs st x:=by
 unfold rcB;rw[MA,LX];exact hm.trans (@Of _ (Classical.propDecidable _)).symm
def anoB(h w:Int)(LI:List Int)(z m o:Int):Bool:=(decide (0<=o)&&decide (o<h*w))&&(!decide (o=z)&&decide (woI (LI.getD o.toNat 0) m=0))
def cB(K:Frag):Sp:=fun vs H Q _=>∃(f A:Addr) (h w g z o m:Int) (LI:List Int),vs=[.ref f,.ref A,.int z,.int o,.int m]/\IsFl H f h w g/\FlOk h w g/\H A=some (.lst (LI.map V.int))/\LI.length=(h*w).toNat/\m<=1000/\Q (.bl (anoB h w LI z m o)) H
def cC(K:Frag):TS:=
 (tRet (tAndV (tCall (lr K) [] E0 (tCons (tVar 0) (tCons (tVar 3) tNil))) (tAndV (tOp (cNe K) (tVar 3) (tVar 2)) (tCall (ce K) [] E0 (tCons (tOp cIx (tVar 1) (tVar 3)) (tCons (tVar 4) tNil))))))
theorem mC(h:cB K vs H Q E):cC K (eD9 Q) (start ["floor","masks","cell","other","mark"] vs) H:=by
 obtain⟨f,A,h,w,g,z,o,m,LI,rfl,hf,F,hA,hml,hm,q⟩:=h;show cC K _ [some (.ref f),some (.ref A),some (.int z),some (.int o),some (.int m)] H;unfold cC;symm;refine⟨f,h,w,g,o,rfl,hf,F,?_⟩;unfold anoB at q
 cases hb:(decide (0<=o)&&decide (o<h*w)) with
 | false=>
  rw[hb,Mm] at q;exact⟨false,rfl,iteF q⟩
 | true=>
  rw[hb,Mq] at q;rw[LZ,LX,LX] at hb;refine⟨true,rfl,iteT ?_⟩;symm
  cases hb2:decide (o=z) with
  | true=>
   rw[hb2,NG,Mm] at q;symm;exact q
  | false=>
   rw[hb2,N7,Mq] at q;symm;refine ixI hA hb.1 (by omega) ?_;symm;exact⟨_,m,rfl,by omega,q⟩
def thrL(cs LI:List Int)(m z:Int):List Int:=(cs.filter fun x=>!decide (x=z)).filter fun x=>stB (LI.getD x.toNat 0) m
noncomputable def reaB (h w:Int) (cs:List Int) (m:Int) (LI:List Int) (z s:Int) (ms:List Int):Bool:=
 (ms.all fun o=>anoB h w LI z m o)&&(if s=m then decide (ms.length=1)&&!rcB h w (thrL cs LI m z++[z]) z (ms.getD 0 0)
  else decide (ms.length=2)&&(!decide (ms.getD 0 0=ms.getD 1 0)&&!rcB h w (thrL cs LI m z) (ms.getD 0 0) (ms.getD 1 0)))
def ij(K:Frag)(c:RCl RK):Sp:=fun vs H Q _=>∃(k:RK) (f r p A M:Addr) (ws:List (List Nat)) (cs LI ms:List Int) (n m z s h w g:Int),vs=[.ref f,.ref r,.ref A,.int z,.int s,.ref M]/\IsFl H f h w g/\FlOk h w g/\IsRule H c k r p ws cs n m/\aK cs LI.length/\cs.length<=60/\LI.length=(h*w).toNat/\H A=some (.lst (LI.map V.int))/\H M=some (.lst (ms.map V.int))/\ms.length<=100/\m<=1000/\∀ H',Same H H'->Q (.bl (reaB h w cs m LI z s ms)) H'
def e7(K:Frag)(c:RCl RK):TS:=
 (tSeq (tIfS (tTest (tOp (cEq K) (tVar 4) (tVar 6))) (tRet (tAndV (tOp (cEq K) (tCB kLen (tCons (tVar 5) tNil)) (tC (.int 1))) (tOp (cIn K true) (tOp cIx (tVar 5) (tC (.int 0))) (tCall (dR K) [] E0 (tCons (tVar 0) (tCons (tOp cAdd (tVar 7) (tLst (tCons (tVar 3) tNil))) (tCons (tVar 3) tNil))))))) tNext)
  (tSeq (tIfS (tOr (tTest (tOp (cNe K) (tCB kLen (tCons (tVar 5) tNil)) (tC (.int 2)))) (tTest (tOp (cEq K) (tOp cIx (tVar 5) (tC (.int 0))) (tOp cIx (tVar 5) (tC (.int 1)))))) (tRet (tC (.bl false))) tNext)
  (tRet (tOp (cIn K true) (tOp cIx (tVar 5) (tC (.int 1))) (tCall (dR K) [] E0 (tCons (tVar 0) (tCons (tVar 7) (tCons (tOp cIx (tVar 5) (tC (.int 0))) tNil))))))))
def e8(K:Frag)(c:RCl RK):TS:=
 (tSeq (sComp 7 [none,none,some 6,some 2] (iList K (tCall (bC K c) [] E0 (tCons (tVar 1) (tCons (tVar 3) tNil)))) (gName 1) (tB (tCall (fC K) [] E0 (tCons (tOp cIx (tVar 3) (tVar 1)) (tCons (tVar 2) tNil)))) (tVar 1))
  (e7 K c))
def ik(K:Frag)(c:RCl RK):TS:=
 (tSeq (tAsg (aF c c.ok "sign" (iE K c) (tVar 1) tNil) (gName 6))
  (tSeq (tIfS (tNot (tB (tCB kAll (tCons (tComp [none,none,some 3,some 0,some 6,some 2] (iList K (tVar 5)) (gName 1) tTrue (tCall (cB K) [] E0 (tCons (tVar 3) (tCons (tVar 5) (tCons (tVar 2) (tCons (tVar 1) (tCons (tVar 4) tNil))))))) tNil)))) (tRet (tC (.bl false))) tNext)
  (e8 K c)))
variable{M:Addr}{v1:V}
theorem qz {f N:Addr} {T:List Int} (hf:IsFl H f h w g) (F:FlOk h w g) (hM:H M=some (.lst (ms.map V.int))) (hN:H N=some (.lst (T.map V.int))) (hT:T.length<=60)
  (q:∀ H',Same H H'->Q (.bl (if s=m then decide (ms.length=1)&&!rcB h w (T++[z]) z (ms.getD 0 0) else decide (ms.length=2)&&(!decide (ms.getD 0 0=ms.getD 1 0)&&!rcB h w T (ms.getD 0 0) (ms.getD 1 0)))) H'):
  e7 K c (eD9 Q) [some (.ref f),some v1,some (.ref A),some (.int z),some (.int s),some (.ref M),some (.int m),some (.ref N)] H:=by
 have w0:=F.w0;have w1:=F.w1;unfold e7;rw[aJ,ay];symm;by_cases hs:s=m
 . rw[Mp hs] at q;rw[LY hs];symm;rw[bd hM,LV];symm
   have e1:decide ((ms.length:Int)=1)=decide (ms.length=1):=by
    rw[MA,LX,LX];omega
   rw[e1]
   cases hb:decide (ms.length=1) with
   | false=>
    rw[hb,Mm] at q;symm;exact q _ (L3 _)
   | true=>
    rw[hb,Mq] at q;have hl:=L4 hb;symm;refine ixI hM (by decide) (by omega) ?_;rw[show(0:Int).toNat=0 from rfl];symm;refine⟨lnR rfl,fun l hl2=>?_⟩;obtain⟨H1,z9,s1,el⟩:=aS (.lst [V.int z]) hl2;rw[z9];refine qU (s1 _ _ hN) el (by simp;omega) fun Y hY=>?_;have s2:Same H1 (upd H1 Y (.lst (T.map V.int++[V.int z]))):=(L3 H1).laid hY;have eY:(upd H1 Y (.lst (T.map V.int++[V.int z]))) Y=some (.lst ((T++[z]).map V.int)):=by rw[ag];simp
    generalize upd H1 Y (.lst (T.map V.int++[V.int z]))=H2 at*;have s12:=s1.trans s2;symm;refine⟨f,Y,h,w,g,z,_,rfl,s12 _ _ hf,by omega,by omega,eY,by simp;omega,fun p H3 rs s3 hp ep _ hx=>?_⟩;dsimp only;rw[lc ep,zY (hx _)];exact q _ (s12.trans s3)
 . rw[Md hs] at q;rw[L0 hs];symm;rw[ay];symm;rw[bd hM,LV];symm
   have e1:decide ((ms.length:Int)=2)=decide (ms.length=2):=by
    rw[MA,LX,LX];omega
   rw[e1]
   cases hb:decide (ms.length=2) with
   | false=>
    rw[hb,Mm] at q;symm;exact q _ (L3 _)
   | true=>
    rw[hb,Mq] at q;have hl:=L4 hb;symm;refine ixI hM (by decide) (by omega) ?_;rw[show(0:Int).toNat=0 from rfl];symm;refine ixI hM (by decide) (by omega) ?_;rw[show(1:Int).toNat=1 from rfl];symm
    cases hb2:decide (ms.getD 0 0=ms.getD 1 0) with
    | true=>
     rw[hb2,NG,Mm] at q;symm;exact q _ (L3 _)
    | false=>
     rw[hb2,N7,Mq] at q;symm;refine ixI hM (by decide) (by omega) ?_;rw[show(1:Int).toNat=1 from rfl];symm;refine ixI hM (by decide) (by omega) ?_;rw[show(0:Int).toNat=0 from rfl];symm;refine⟨f,N,h,w,g,_,_,rfl,hf,by omega,by omega,hN,by omega,fun p H3 rs s3 hp ep _ hx=>?_⟩;dsimp only;rw[lc ep,zY (hx _)];exact q _ s3
theorem qA {k:RK} {f r:Addr} {ws:List (List Nat)} {n:Int} (hf:IsFl H f h w g) (F:FlOk h w g) (x:IsRule H c k r p ws cs n m) (hC:aK cs LI.length) (hml:LI.length=(h*w).toNat) (hA:H A=some (.lst (LI.map V.int))) (hM:H M=some (.lst (ms.map V.int)))
  (q:∀ H',Same H H'->Q (.bl (if s=m then decide (ms.length=1)&&!rcB h w (thrL cs LI m z++[z]) z (ms.getD 0 0) else decide (ms.length=2)&&(!decide (ms.getD 0 0=ms.getD 1 0)&&!rcB h w (thrL cs LI m z) (ms.getD 0 0) (ms.getD 1 0)))) H') (hcs:cs.length<=60):
  e8 K c (eD9 Q) [some (.ref f),some (.ref r),some (.ref A),some (.int z),some (.int s),some (.ref M),some (.int m),none] H:=by
 unfold e8;symm;refine⟨k,r,p,ws,cs,n,m,z,rfl,x,hC.1,fun O H1 s1 hO eO=>?_⟩;have hfl:=Mh (fun x=>!decide (x=z)) cs;refine⟨O,rfl,⟨_,Ml eO⟩,?_⟩;refine bf (xs:=cs.filter fun x=>!decide (x=z)) (fun x=>stB (LI.getD x.toNat 0) m) (fun x=>x) (by omega) (Ml eO) ?_ ?_ ?_
 . intro y H2 R hy s2 k2;have hyc:=hC.2 y (L8.mp hy).1;show tB _ [none,some (.int y),some (.int m),some (.ref A)] H2 R;symm;refine ixI ((s1.trans s2) _ _ hA) hyc.1 hyc.2 ?_;symm;exact⟨_,m,rfl,_,rfl,k2 _ (L3 _)⟩
 . intro y H2 Q2 hy hb s2 k2;show tVar 1 [none,some (.int y),some (.int m),some (.ref A)] H2 Q2;symm;exact k2 _ (L3 _)
 . intro N H2 hN s2 eN;rw[Np] at eN;have s12:=s1.trans s2;symm;refine qz (s12 _ _ hf) F (s12 _ _ hM) (T:=thrL cs LI m z) eN ?_ fun H' s3=>q H' (s12.trans s3);unfold thrL;have:=Mh (fun x=>stB (LI.getD x.toNat 0) m) (cs.filter fun x=>!decide (x=z));omega
theorem uv(h:ij K c vs H Q E):ik K c (eD9 Q) (start ["floor","rule","masks","cell","sign","more","mark","through"] vs) H:=by
 obtain⟨k,f,r,p,A,M,ws,cs,LI,ms,n,m,z,s,h,w,g,rfl,hf,F,x,hC,hcs,hml,hA,hM,hmn,hm,q⟩:=h;obtain⟨dx,W,C,h1,h2,h3⟩:=x.ex;show ik K c _ [some (.ref f),some (.ref r),some (.ref A),some (.int z),some (.int s),some (.ref M),none,none] H;unfold ik;rw[aJ,bW];refine methE (k:=k) rfl x.ok h1 (by rfl) ?_;symm;refine⟨r,p,ws,cs,n,m,rfl,x,?_⟩;symm;rw[ay];symm;refine⟨⟨_,Ml hM⟩,?_⟩;refine bI (xs:=ms.map V.int) (fun _=>true) (fun i=>.bl (anoB h w LI z m (ms.getD i 0))) (by rw[LV];omega) (Ml hM) ?_ ?_ ?_
 . intro i y H1 R hy s1 k1;exact k1 _ (L3 _)
 . intro i y H1 Q1 hy hb s1 k1;obtain⟨v,hv,rfl⟩:=aQ hy;have eg:ms.getD i 0=v:=by rw[List.getD,hv];rfl
   rw[eg] at k1;show tCall _ _ _ _ [none,some (.int v),some (.int z),some (.ref f),some (.int m),some (.ref A)] H1 Q1;symm;exact⟨f,A,h,w,g,z,v,m,LI,rfl,s1 _ _ hf,F,s1 _ _ hA,hml,hm,k1 _ (L3 _)⟩
 . intro l H1 hl s1 el
   have eb:((List.range (ms.map V.int).length).filter fun _=>true).map (fun i=>V.bl (anoB h w LI z m (ms.getD i 0)))=(ms.map fun o=>anoB h w LI z m o).map V.bl:=by
    rw[a9,LV,MH];refine Pm (by simp) fun i h1 h2=>?_;have hi:i<ms.length:=by simpa using h2
    simp[List.getD,LW hi]
   rw[eb] at el;refine ld el ?_;have ea:(ms.map fun o=>anoB h w LI z m o).all id=ms.all fun o=>anoB h w LI z m o:=by rw[NW];rfl
   rw[ea];unfold reaB at q
   cases hb:(ms.all fun o=>anoB h w LI z m o) with
   | false=>
    rw[hb,Mm] at q;refine⟨false,rfl,?_⟩;symm;exact q _ s1
   | true=>
    rw[hb,Mq] at q;refine⟨true,rfl,?_⟩;symm;exact qA (s1 _ _ hf) F (x.same s1) hC hml (s1 _ _ hA) (s1 _ _ hM) (fun H' s2=>q H' (s1.trans s2)) hcs
theorem mP{k:RK}(h:goesB .reach k=true):sgnK k=true:=by cases k <;> first | rfl | cases h
theorem RR.len26{r:RR}(O:r.Ok h w g)(F:FlOk h w g):r.cs.length<=60:=by
 have m16:=F.m
 cases hk:allK r.k with
 | false=>
  obtain⟨c1,c2,c3,c4,e⟩:=O.cl.told hk;rw[e,LV];omega
 | true=>
  obtain⟨_,e⟩:=O.cl.all hk;rw[e,jM];omega
def Ee(p:Int->Int->Bool):Bool:=(List.range 7).all fun(h:Nat)=>(List.range 7).all fun(w:Nat)=>!(decide (1<=h)&&decide (1<=w)&&decide (h*w<=16))||p h w
theorem Ef{p:Int->Int->Bool}(a:Ee p=true){h w g:Int}(F:FlOk h w g):p h w=true:=by
 obtain⟨h0,h1,w0,w1,m16,g0,g1⟩:=F;obtain⟨n,rfl⟩:=NT (show 0<=h by omega);obtain⟨m,rfl⟩:=NT (show 0<=w by omega);have a1:=L6.mp a n (Mb.mpr (by omega));have a2:=L6.mp a1 m (Mb.mpr (by omega));have e1:1<=n:=by omega
 have e2:1<=m:=by omega
 have e3:n*m<=16:=by have:((n*m:Nat):Int)<=16:=by rw[Int.natCast_mul];exact m16
                     omega
 simpa [e1,e2,e3] using a2
def nearS(h w d r:Int):List Int:=if (decide (0<=d)&&decide (d<h))&&(decide (0<=r)&&decide (r<w)) then [d*w+r] else []
def nearP(w c:Int):List (Int × Int):=[(c/w-1,c%w),(c/w,c%w-1),(c/w,c%w+1),(c/w+1,c%w)]
def nearL(h w c:Int):List Int:=(nearP w c).flatMap fun p=>nearS h w p.1 p.2
theorem Cu:Ee (fun h w=>(List.range (h*w).toNat).all fun(c:Nat)=>decide (nearL h w c=besL h w c)&&(besL h w c).all fun x=>decide (0<=x)&&decide (x<h*w))=true:=by decide+kernel
theorem vJ{c:Int}(F:FlOk h w g)(c0:0<=c)(c1:c<h*w):nearL h w c=besL h w c/\∀ x∈besL h w c,0<=x/\x<h*w:=by
 have t:=L6.mp (Ef Cu F) c.toNat (Mb.mpr (by omega));have e1:((c.toNat:Nat):Int)=c:=by omega
 rw[e1,LZ,LX,L6] at t;refine⟨t.1,fun x hx=>?_⟩;have:=t.2 x hx
 simpa using this
theorem zZ{c:Int}(F:FlOk h w g)(c0:0<=c)(c1:c<h*w)(hn:n=(h*w).toNat):aK (besL h w c) n:=by
 refine⟨Mi (uc ..) (by decide),fun x hx=>?_⟩;have:=(vJ F c0 c1).2 x hx;omega
def arL(h w o z:Int):List Int:=(besL h w o).filter fun x=>!decide (x=z)
def rm(K:Frag):Sp:=fun vs H Q _=>∃(a:Addr) (h w g o z:Int),vs=[.ref a,.int o,.int z]/\IsFl H a h w g/\FlOk h w g/\∀ l H',Same H H'->H l=none->H' l=some (.lst ((arL h w o z).map V.int))->Q (.ref l) H'
def rp(K:Frag):TS:=
 (tRet (tComp [none,none,some 2] (iList K (tCall (dG K) [] E0 (tCons (tVar 0) (tCons (tVar 1) tNil)))) (gName 1) (tTest (tOp (cNe K) (tVar 1) (tVar 2))) (tVar 1)))
theorem Eg(h:rm K vs H Q E):rp K (eD9 Q) (start ["floor","middle","cell"] vs) H:=by
 obtain⟨a,h,w,g,o,z,rfl,ha,F,q⟩:=h;have w0:=F.w0;have w1:=F.w1;show rp K _ [some (.ref a),some (.int o),some (.int z)] H;unfold rp;rw[cI,bQ];symm;refine⟨a,h,w,g,o,rfl,ha,by omega,by omega,fun l H1 s1 hl el=>?_⟩;have hb:=uc h w o;refine⟨l,rfl,⟨_,Ml el⟩,?_⟩;refine bf (xs:=besL h w o) (fun x=>!decide (x=z)) (fun x=>x) (by omega) (Ml el) ?_ ?_ ?_
 . intro y H2 R hy s2 k2;show tTest _ [none,some (.int y),some (.int z)] H2 R;symm;exact k2 _ (L3 _)
 . intro y H2 Q2 hy hb s2 k2;show tVar 1 [none,some (.int y),some (.int z)] H2 Q2;symm;exact k2 _ (L3 _)
 . intro T H2 hT s2 eT;rw[Np] at eT;exact q T H2 (s1.trans s2) (s1.free hT) eT
def mayN(LI:List Int)(m:Int)(cs:List Int):Nat:=((sgAt LI cs).filter fun k=>stB k m).length
def onlN(LI:List Int)(m:Int)(cs:List Int):Nat:=((sgAt LI cs).filter fun k=>decide (woI k m=0)).length
def turnB(h w m:Int)(LI:List Int)(z s:Int)(ms:List Int):Bool:=
 if ms=[] then decide (s=m)&&(decide ((mayN LI m (besL h w z):Int)<2)||decide ((2:Int) < (onlN LI m (besL h w z):Int)))
 else decide (ms.length=1)&&(decide (ms.getD 0 0∈besL h w z)&&(decide (woI (LI.getD (ms.getD 0 0).toNat 0) m=0)&&
  (if s=m then decide ((2:Int)<=(onlN LI m (arL h w (ms.getD 0 0) z):Int)) else decide ((mayN LI m (arL h w (ms.getD 0 0) z):Int)<2))))
def jk(K:Frag)(c:RCl RK):Sp:=fun vs H Q _=>∃(k:RK) (f r p A M:Addr) (ws:List (List Nat)) (cs LI ms:List Int) (n m z s h w g:Int),vs=[.ref f,.ref r,.ref A,.int z,.int s,.ref M]/\IsFl H f h w g/\FlOk h w g/\IsRule H c k r p ws cs n m/\LI.length=(h*w).toNat/\H A=some (.lst (LI.map V.int))/\H M=some (.lst (ms.map V.int))/\m<=1000/\0<=z/\z<h*w/\∀ H',Same H H'->Q (.bl (turnB h w m LI z s ms)) H'
def fI(K:Frag)(c:RCl RK):TS:=
 (tSeq (tAsg (tCall (bX K) [] E0 (tCons (tVar 2) (tCons (tCall (rm K) [] E0 (tCons (tVar 0) (tCons (tOp cIx (tVar 5) (tC (.int 0))) (tCons (tVar 3) tNil)))) tNil))) (gName 7))
  (tSeq (tIfS (tTest (tOp (cEq K) (tVar 4) (tVar 6))) (tRet (tOp (cCmp fun i j=>decide (j<=i)) (tCall (dD K) [] E0 (tCons (tVar 7) (tCons (tVar 6) tNil))) (tC (.int 2)))) tNext)
  (tRet (tOp (cCmp fun i j=>decide (i<j)) (tCall (eP K) [] E0 (tCons (tVar 7) (tCons (tVar 6) tNil))) (tC (.int 2))))))
def fJ(K:Frag)(c:RCl RK):TS:=
 (tSeq (tIfS (tOr (tTest (tOp (cNe K) (tCB kLen (tCons (tVar 5) tNil)) (tC (.int 1)))) (tOr (tTest (tOp (cIn K true) (tOp cIx (tVar 5) (tC (.int 0))) (tCall (dG K) [] E0 (tCons (tVar 0) (tCons (tVar 3) tNil))))) (tNot (tB (tCall (ce K) [] E0 (tCons (tOp cIx (tVar 2) (tOp cIx (tVar 5) (tC (.int 0)))) (tCons (tVar 6) tNil))))))) (tRet (tC (.bl false))) tNext)
  (fI K c))
def jl(K:Frag)(c:RCl RK):TS:=
 (tSeq (tAsg (aF c c.ok "sign" (iE K c) (tVar 1) tNil) (gName 6))
  (tSeq (tIfS (tTest (tOp (cEq K) (tVar 5) (tLst tNil))) (tSeq (tAsg (tCall (bX K) [] E0 (tCons (tVar 2) (tCons (tCall (dG K) [] E0 (tCons (tVar 0) (tCons (tVar 3) tNil))) tNil))) (gName 7))
  (tRet (tAndV (tOp (cEq K) (tVar 4) (tVar 6)) (tOrV (tOp (cCmp fun i j=>decide (i<j)) (tCall (eP K) [] E0 (tCons (tVar 7) (tCons (tVar 6) tNil))) (tC (.int 2))) (tOp (cCmp fun i j=>decide (j<i)) (tCall (dD K) [] E0 (tCons (tVar 7) (tCons (tVar 6) tNil))) (tC (.int 2))))))) tNext)
  (fJ K c)))
theorem rq {f:Addr} (hf:IsFl H f h w g) (F:FlOk h w g) (hml:LI.length=(h*w).toNat) (hA:H A=some (.lst (LI.map V.int))) (hM:H M=some (.lst (ms.map V.int))) (hl:ms.length=1) (hm:m<=1000) (z0:0<=z) (z1:z<h*w) (ho:ms.getD 0 0∈besL h w z)
  (q:∀ H',Same H H'->Q (.bl (if s=m then decide ((2:Int)<=(onlN LI m (arL h w (ms.getD 0 0) z):Int)) else decide ((mayN LI m (arL h w (ms.getD 0 0) z):Int)<2))) H'):
  fI K c (eD9 Q) [some (.ref f),some v1,some (.ref A),some (.int z),some (.int s),some (.ref M),some (.int m),none] H:=by
 have oin:=(vJ F z0 z1).2 _ ho;have bin:=zZ (n:=LI.length) F oin.1 oin.2 hml;have hin:aK (arL h w (ms.getD 0 0) z) LI.length:=⟨Mi (Mh _ _) bin.1,fun x hx=>bin.2 x (L8.mp hx).1⟩;unfold fI;symm;refine ixI hM (by decide) (by omega) ?_;rw[show(0:Int).toNat=0 from rfl];symm;refine⟨f,h,w,g,_,z,rfl,hf,F,fun R H1 s1 hR eR=>?_⟩;symm;refine⟨A,R,LI,_,rfl,s1 _ _ hA,eR,hin,fun B H3 s3 hB eB=>?_⟩;have LS:(sgAt LI (arL h w (ms.getD 0 0) z)).length<=63:=by unfold sgAt;rw[LV];exact hin.1
 symm;rw[ay];symm;by_cases hs:s=m
 . rw[LY hs];rw[Mp hs] at q;symm;refine⟨B,_,_,rfl,eB,LS,by omega,fun H4 s4=>?_⟩;symm;exact q _ ((s1.trans s3).trans s4)
 . rw[L0 hs];rw[Md hs] at q;symm;refine⟨B,_,_,rfl,eB,LS,fun H4 s4=>?_⟩;symm;exact q _ ((s1.trans s3).trans s4)
theorem rz {f:Addr} (hf:IsFl H f h w g) (F:FlOk h w g) (hml:LI.length=(h*w).toNat) (hA:H A=some (.lst (LI.map V.int))) (hM:H M=some (.lst (ms.map V.int))) (hm:m<=1000) (z0:0<=z) (z1:z<h*w)
  (q:∀ H',Same H H'->Q (.bl (decide (ms.length=1)&&(decide (ms.getD 0 0∈besL h w z)&&(decide (woI (LI.getD (ms.getD 0 0).toNat 0) m=0)&&(if s=m then decide ((2:Int)<=(onlN LI m (arL h w (ms.getD 0 0) z):Int)) else decide ((mayN LI m (arL h w (ms.getD 0 0) z):Int)<2)))))) H'):
  fJ K c (eD9 Q) [some (.ref f),some v1,some (.ref A),some (.int z),some (.int s),some (.ref M),some (.int m),none] H:=by
 have w0:=F.w0;have w1:=F.w1;unfold fJ;rw[aJ,ay];symm;rw[bd hM,LV];symm
 have e1:decide ((ms.length:Int)=1)=decide (ms.length=1):=by
  rw[MA,LX,LX];omega
 rw[e1]
 cases hb:decide (ms.length=1) with
 | false=>
  rw[hb,Mm] at q;symm;exact q _ (L3 _)
 | true=>
  rw[hb,Mq] at q;have hl:=L4 hb;symm;refine ixI hM (by decide) (by omega) ?_;rw[show(0:Int).toNat=0 from rfl];symm;refine⟨f,h,w,g,z,rfl,hf,by omega,by omega,fun R H1 s1 hR eR=>?_⟩;dsimp only;rw[lc eR]
  cases hb2:decide (ms.getD 0 0∈besL h w z) with
  | false=>
   rw[hb2,Mm] at q;refine⟨true,rfl,iteT ?_⟩;symm;exact q _ s1
  | true=>
   rw[hb2,Mq] at q;have ho:=L4 hb2;have oin:=(vJ F z0 z1).2 _ ho;refine⟨false,rfl,iteF ?_⟩;symm;refine ixI (s1 _ _ hM) (by decide) (by omega) ?_;rw[show(0:Int).toNat=0 from rfl];symm;refine ixI (s1 _ _ hA) (by omega) (by omega) ?_;symm;refine⟨_,m,rfl,by omega,?_⟩
   cases hb3:decide (woI (LI.getD (ms.getD 0 0).toNat 0) m=0) with
   | false=>
    rw[hb3,Mm] at q;refine⟨false,rfl,iteT ?_⟩;symm;exact q _ s1
   | true=>
    rw[hb3,Mq] at q;refine⟨true,rfl,iteF ?_⟩;exact rq (s1 _ _ hf) F hml (s1 _ _ hA) (s1 _ _ hM) hl hm z0 z1 ho fun H' s2=>q H' (s1.trans s2)
theorem vK(h:jk K c vs H Q E):jl K c (eD9 Q) (start ["floor","rule","masks","cell","sign","more","mark","some"] vs) H:=by
 obtain⟨k,f,r,p,A,M,ws,cs,LI,ms,n,m,z,s,h,w,g,rfl,hf,F,x,hml,hA,hM,hm,z0,z1,q⟩:=h;obtain⟨dx,W,C,h1,h2,h3⟩:=x.ex;have w0:=F.w0;have w1:=F.w1;show jl K c _ [some (.ref f),some (.ref r),some (.ref A),some (.int z),some (.int s),some (.ref M),none,none] H;unfold jl;rw[aJ,bW];refine methE (k:=k) rfl x.ok h1 (by rfl) ?_;symm;refine⟨r,p,ws,cs,n,m,rfl,x,?_⟩;symm;rw[ay];symm;refine⟨aN (by decide),fun Z hZ=>?_⟩;obtain⟨H1,z9,s1,eZ⟩:∃ z,upd H Z (.lst [])=z/\Same H z/\z Z=some (.lst (([]:List Int).map V.int)):=aS _ hZ;rw[z9];refine sH (s1 _ _ hM) eZ ?_;unfold turnB at q;by_cases hms:ms=[]
 . rw[Mp hms] at q;rw[LY hms];refine⟨true,rfl,?_⟩;symm;refine⟨f,h,w,g,z,rfl,s1 _ _ hf,by omega,by omega,fun R H2 s2 hR eR=>?_⟩;have bin:=zZ (n:=LI.length) F z0 z1 hml;symm;refine⟨A,R,LI,_,rfl,(s1.trans s2) _ _ hA,eR,bin,fun B H3 s3 hB eB=>?_⟩;have LS:(sgAt LI (besL h w z)).length<=63:=by unfold sgAt;rw[LV];exact bin.1
   have s13:=(s1.trans s2).trans s3;symm
   cases hb:decide (s=m) with
   | false=>
    rw[hb,Mm] at q;symm;exact q _ s13
   | true=>
    rw[hb,Mq] at q;symm;refine⟨B,_,_,rfl,eB,LS,fun H4 s4=>?_⟩;symm;have e1:decide ((((sgAt LI (besL h w z)).filter fun k=>stB k m).length:Int)<2)=decide ((mayN LI m (besL h w z):Int)<2):=rfl;rw[e1]
    cases hb2:decide ((mayN LI m (besL h w z):Int)<2) with
    | true=>
     rw[hb2,N8] at q;symm;exact q _ (s13.trans s4)
    | false=>
     rw[hb2,Nc] at q;symm;refine⟨B,_,_,rfl,s4 _ _ eB,LS,by omega,fun H5 s5=>?_⟩;symm;exact q _ ((s13.trans s4).trans s5)
 . rw[Md hms] at q;rw[L0 hms];refine⟨false,rfl,?_⟩;symm;exact rz (s1 _ _ hf) F hml (s1 _ _ hA) (s1 _ _ hM) hm z0 z1 fun H' s2=>q H' (s1.trans s2)
theorem uw(t:TK):decide (tkC t=[114,101,97,99,104])=decide (t=.reach):=by cases t <;> decide
theorem xX{k:RK}(h:goesB .turn k=true):sgnK k=true:=by cases k <;> first | rfl | cases h
noncomputable def km (h w:Int) (t:TK) (x:RR) (LI:List Int) (z s:Int) (ms:List Int):Bool:=match t with
 | .square=>squB h w x.m LI z s ms
 | .reach=>reaB h w x.cs x.m LI z s ms
 | _=>turnB h w x.m LI z s ms
noncomputable def fK (h w:Int) (LK:List RR) (LI:List Int) (t:TK) (r z s:Int) (ms:List Int):Bool:=match LK[r.toNat]? with
 | none=>false
 | some x=>km h w t x LI z s ms
abbrev Cv(t:TK):Prop:=t=.square\/t=.reach\/t=.turn
abbrev K30(t:TK):Prop:=K28 t\/Cv t
def c9(K:Frag)(c:RCl RK)(d:RCl PzK):Sp:=fun vs H Q _=>∃(P L G A T M:Addr) (h w g:Int) (LK:List RR) (cl LI:List Int) (t:TK) (r z s:Int) (ms:List Int),vs=[.ref P,.ref A,.ref T]/\Asks H c d P L G A T M h w g LK cl LI t r z s ms/\Cv t/\formB h w g LK t r z s=true/\∀ H',Same H H'->Q (.bl (fK h w LK LI t r z s ms)) H'
def da(K:Frag)(c:RCl RK)(d:RCl PzK):TS:=
 (tSeq (tAsg (aF d d.ok "place" (hX K c d) (tVar 0) tNil) (gName 3))
  (tSeq (tAsg (tOp cIx (aF d d.ok "rules" (cu K c d) (tVar 0) tNil) (tOp cIx (tVar 2) (tC (.int 1)))) (gName 4))
  (tSeq (tIfS (tTest (tOp (cEq K) (tOp cIx (tVar 2) (tC (.int 0))) (tC (.str (tx [115,113,117,97,114,101]))))) (tRet (tCall (gt K c) [] E0 (tCons (tVar 3) (tCons (tVar 4) (tCons (tVar 1) (tCons (tOp cIx (tVar 2) (tC (.int 2))) (tCons (tOp cIx (tVar 2) (tC (.int 3))) (tCons (tOp cIx (tVar 2) (tC (.int 4))) tNil)))))))) tNext)
  (tSeq (tIfS (tTest (tOp (cEq K) (tOp cIx (tVar 2) (tC (.int 0))) (tC (.str (tx [114,101,97,99,104]))))) (tRet (tCall (ij K c) [] E0 (tCons (tVar 3) (tCons (tVar 4) (tCons (tVar 1) (tCons (tOp cIx (tVar 2) (tC (.int 2))) (tCons (tOp cIx (tVar 2) (tC (.int 3))) (tCons (tOp cIx (tVar 2) (tC (.int 4))) tNil)))))))) tNext)
  (tRet (tCall (jk K c) [] E0 (tCons (tVar 3) (tCons (tVar 4) (tCons (tVar 1) (tCons (tOp cIx (tVar 2) (tC (.int 2))) (tCons (tOp cIx (tVar 2) (tC (.int 3))) (tCons (tOp cIx (tVar 2) (tC (.int 4))) tNil))))))))))))
variable{d:RCl PzK}
theorem og(h:c9 K c d vs H Q E):da K c d (eD9 Q) (start ["puzzle","masks","thought","floor","rule"] vs) H:=by
 obtain⟨P,L,G,A,T,M,h,w,g,LK,cl,LI,t,r,z,s,ms,rfl,X,ht,f,q⟩:=h;obtain⟨dx,p,rs,h1,h2,h3⟩:=X.P.ex;obtain⟨z0,z1,s0,s1',LU⟩:=bD f;have hg:=X.P.R.F.g1;have hnc:t≠.clue:=by rcases ht with rfl | rfl | rfl <;> decide
 obtain⟨r0,y,ey,hgo,hz⟩:=dC hnc LU;have O:=X.P.R.ok y (L5 ey)
 have q2:∀ H',Same H H'->Q (.bl (km h w t y LI z s ms)) H':=fun H' s'=>by
  have q1:=q H' s';unfold fK at q1;rw[ey] at q1;exact q1
 show da K c d _ [some (.ref P),some (.ref A),some (.ref T),none,none] H;unfold da;rw[aJ,bW];refine methE (k:=.Puzzle) rfl X.P.ok h1 (by rfl) ?_;symm;refine⟨P,L,G,h,w,g,LK,cl,rfl,X.P,fun p3 hp3=>?_⟩;symm;refine methE (k:=.Puzzle) rfl X.P.ok h1 (by rfl) ?_;symm;refine⟨P,L,G,h,w,g,LK,cl,rfl,X.P,fun l p2 rs2 hl hp2 Y=>?_⟩;have s2:Same H (upd H l (.lst (rs2.map V.ref))):=(L3 H).laid hl;generalize upd H l (.lst (rs2.map V.ref))=H1 at*;have hlt:=(L1.mp ey).1;have LS:=Y.len;have ea:rs2[r.toNat]? =some rs2[r.toNat]:=LW (by omega);dsimp only;refine ixT (s2 _ _ X.T.T) (v:=V.int r) rfl ?_;refine ixL Y.top (dJ r0 ea) ?_;symm;rw[ay];symm;refine ixT (s2 _ _ X.T.T) (v:=V.str (tx (tkC t))) rfl ?_;symm;rw[bg,xU];rcases ht with rfl | rfl | rfl
 . rw[LY rfl];refine iteT ?_;symm;refine ixT (s2 _ _ X.T.T) (v:=V.int z) rfl ?_;symm;refine ixT (s2 _ _ X.T.T) (v:=V.int s) rfl ?_;symm;refine ixT (s2 _ _ X.T.T) (v:=V.ref M) rfl ?_;symm;exact⟨_,p3,_,p2,A,M,_,y.cs,LI,ms,_,_,z,s,h,w,g,rfl,s2 _ _ hp3,X.P.R.F,Y.at_ _ _ _ ea ey,X.n,s2 _ _ X.A,s2 _ _ X.T.M,by omega,fun H' s3=>q2 H' (s2.trans s3)⟩
 . have ym:=(O.m0 (mP hgo)).2;rw[L0 (show ¬ TK.reach=TK.square by decide)];refine iteF ?_;rw[ay];symm;refine ixT (s2 _ _ X.T.T) (v:=V.str (tx (tkC .reach))) rfl ?_;symm;rw[bg,uw,LY rfl];refine iteT ?_;symm;refine ixT (s2 _ _ X.T.T) (v:=V.int z) rfl ?_;symm;refine ixT (s2 _ _ X.T.T) (v:=V.int s) rfl ?_;symm;refine ixT (s2 _ _ X.T.T) (v:=V.ref M) rfl ?_;symm;have hin:aK y.cs LI.length:=by rw[X.n];exact OH O X.P.R.F
   exact⟨_,p3,_,p2,A,M,_,y.cs,LI,ms,_,_,z,s,h,w,g,rfl,s2 _ _ hp3,X.P.R.F,Y.at_ _ _ _ ea ey,hin,RR.len26 O X.P.R.F,X.n,s2 _ _ X.A,s2 _ _ X.T.M,X.T.n,by omega,fun H' s3=>q2 H' (s2.trans s3)⟩
 . have ym:=(O.m0 (xX hgo)).2;rw[L0 (show ¬ TK.turn=TK.square by decide)];refine iteF ?_;rw[ay];symm;refine ixT (s2 _ _ X.T.T) (v:=V.str (tx (tkC .turn))) rfl ?_;symm;rw[bg,uw,L0 (show ¬ TK.turn=TK.reach by decide)];refine iteF ?_;symm;refine ixT (s2 _ _ X.T.T) (v:=V.int z) rfl ?_;symm;refine ixT (s2 _ _ X.T.T) (v:=V.int s) rfl ?_;symm;refine ixT (s2 _ _ X.T.T) (v:=V.ref M) rfl ?_;symm;exact⟨_,p3,_,p2,A,M,_,y.cs,LI,ms,_,_,z,s,h,w,g,rfl,s2 _ _ hp3,X.P.R.F,Y.at_ _ _ _ ea ey,X.n,s2 _ _ X.A,s2 _ _ X.T.M,by omega,z0,z1,fun H' s3=>q2 H' (s2.trans s3)⟩
noncomputable def z4 (h w g:Int) (LK:List RR) (cl LI:List Int) (t:TK) (r z s:Int) (ms:List Int):Bool:=if lineK t then dZ g LK cl LI t r z s ms else fK h w LK LI t r z s ms
noncomputable def rA (h w g:Int) (LK:List RR) (cl LI:List Int) (t:TK) (r z s:Int) (ms:List Int):Bool:=formB h w g LK t r z s&&z4 h w g LK cl LI t r z s ms
structure Sub30(a b:Int):Prop where
 a0:0<=a
 a1:a<64
 b0:0<=b
 b1:b<64
 st:∀ s,stB a s=true->stB b s=true
theorem Hw:((List.range 64).all fun m=>(List.range 6).all fun s=>decide (decide (woI (m:Int) (1+(s:Int))=0)=(List.range 6).all fun j=>!stB (m:Int) (1+(j:Int))||decide (j=s)))=true:=by decide+kernel
theorem Eh(m0:0<=m)(m1:m<64)(s0:1<=s)(s6:s<=6):woI m s=0↔∀ j:Nat,j<6->stB m (1+(j:Int))=true->j=(s-1).toNat:=by
 have t:=L4 (L6.mp (L6.mp Hw m.toNat (Mb.mpr (by omega))) (s-1).toNat (Mb.mpr (by omega)));rw[show((m.toNat:Nat):Int)=m by omega,show 1+(((s-1).toNat:Nat):Int)=s by omega] at t;rw[← Of (p:=woI m s=0),t,L6];constructor
 . intro h j hj hs;have:=h j (Mb.mpr hj);rw[hs] at this
   simpa using this
 . intro h j hj
   cases hs:stB m (1+(j:Int)) with
   | false=>rfl
   | true=>simpa using h j (Mb.mp hj) hs
theorem Sub30.wo{a b:Int}(X:Sub30 a b)(s0:1<=s)(s6:s<=6)(h:woI b s=0):woI a s=0:=
 (Eh X.a0 X.a1 s0 s6).mpr fun j hj hs=>(Eh X.b0 X.b1 s0 s6).mp h j hj (X.st _ hs)
theorem il{f g:Int->Int}{p q:Int->Bool}:∀{cs:List Int},(∀ c∈cs,p (f c)=true->q (g c)=true)->((cs.map f).filter p).length<=((cs.map g).filter q).length
 | [],_=>Mu _
 | c::r,h=>by
  have ih:=il (cs:=r) fun x hx=>h x (Mc _ hx);have hc:=h c Mf;rw[Mx,Mx,MN,MN]
  cases hp:p (f c) with
  | false=>
   rw[Md L7]
   split
   . rw[My];omega
   . exact ih
  | true=>
   rw[Mp rfl,Mp (hc hp),My,My];omega
theorem RC.less{ds:List Int}{st:Int}(sub:∀ c∈cs,c∈ds)(r:RC h w cs st x):RC h w ds st x:=by
 induction r with
 | start h=>exact .start (sub _ h)
 | step _ hb hc ih=>exact .step ih hb (sub _ hc)
abbrev aW(LI less:List Int):Prop:=∀ k:Nat,Sub30 (less.getD k 0) (LI.getD k 0)
theorem Ei{less:List Int}(X:aW LI less)(s0:1<=s)(s6:s<=6)(h:onlyB cs LI z s ms=true):onlyB cs less z s ms=true:=by
 unfold onlyB at h ⊢;rw[LZ,LZ] at h ⊢;exact⟨h.1,h.2.1,LY ((X _).wo s0 s6 (L4 h.2.2))⟩
theorem Cw{less:List Int}(X:aW LI less)(h:gN g cs LI z s ms=true):gN g cs less z s ms=true:=by
 unfold gN sgAt at h ⊢;simp only[LZ] at h ⊢;refine⟨h.1,h.2.1,h.2.2.1,h.2.2.2.1,LY ?_⟩;have:=L4 h.2.2.2.2;have m:=il (f:=fun c=>less.getD c.toNat 0) (g:=fun c=>LI.getD c.toNat 0) (p:=fun m=>stB m (ms.getD 0 0)) (q:=fun m=>stB m (ms.getD 0 0)) (cs:=cs.filter fun x=>!decide (x=z)) fun c _ hc=>(X _).st _ hc;omega
theorem Fi{less:List Int}(X:aW LI less)(s0:1<=s)(s6:s<=6)(hb:squB h w m LI z s ms=true):squB h w m less z s ms=true:=by
 unfold squB sgAt at hb ⊢;simp only[LZ] at hb ⊢;refine⟨hb.1,hb.2.1,hb.2.2.1,LY ?_⟩;have:=L4 hb.2.2.2;have mo:=il (f:=fun c=>LI.getD c.toNat 0) (g:=fun c=>less.getD c.toNat 0) (p:=fun k=>decide (woI k s=0)) (q:=fun k=>decide (woI k s=0)) (cs:=rosL h w (ms.getD 0 0) z) fun c _ hc=>LY ((X _).wo s0 s6 (L4 hc));have up:=Mh (fun k=>decide (woI k s=0)) ((rosL h w (ms.getD 0 0) z).map fun c=>less.getD c.toNat 0);rw[LV] at up;omega
theorem Fj{less:List Int}{o:Int}(X:aW LI less)(m0:1<=m)(m6:m<=6)(hb:anoB h w LI z m o=true):anoB h w less z m o=true:=by
 unfold anoB at hb ⊢;rw[LZ,LZ (a:=!decide (o=z))] at hb ⊢;exact⟨hb.1,hb.2.1,LY ((X _).wo m0 m6 (L4 hb.2.2))⟩
theorem z5{less:List Int}(X:aW LI less):∀ c∈thrL cs less m z,c∈thrL cs LI m z:=fun c hc=>by
 unfold thrL at hc ⊢;rw[L8] at hc ⊢;exact⟨hc.1,(X _).st _ hc.2⟩
theorem BE{ds:List Int}{st:Int}(sub:∀ c∈cs,c∈ds)(hb:(!rcB h w ds st x)=true):(!rcB h w cs st x)=true:=by
 unfold rcB at hb ⊢;rw[M7] at hb ⊢;exact @L0 _ (Classical.propDecidable _) fun r=>(@of_decide_eq_false _ (Classical.propDecidable _) hb) (r.less sub)
theorem Fk{less:List Int}(X:aW LI less)(m0:1<=m)(m6:m<=6)(hb:reaB h w cs m LI z s ms=true):reaB h w cs m less z s ms=true:=by
 unfold reaB at hb ⊢;rw[LZ] at hb ⊢;refine⟨L6.mpr fun o ho=>Fj X m0 m6 (L6.mp hb.1 o ho),?_⟩;have h2:=hb.2;by_cases e:s=m
 . rw[Mp e] at h2 ⊢;rw[LZ] at h2 ⊢;refine⟨h2.1,BE (fun c hc=>?_) h2.2⟩;rcases Mj.mp hc with hc | hc
   . exact Mj.mpr (.inl (z5 X c hc))
   . exact Mj.mpr (.inr hc)
 . rw[Md e] at h2 ⊢;rw[LZ,LZ] at h2 ⊢;exact⟨h2.1,h2.2.1,BE (z5 X) h2.2.2⟩
theorem z6{less:List Int}(X:aW LI less):mayN less m cs<=mayN LI m cs:=by
 unfold mayN sgAt;exact il fun c _ hc=>(X _).st _ hc
theorem z7{less:List Int}(X:aW LI less)(m0:1<=m)(m6:m<=6):onlN LI m cs<=onlN less m cs:=by
 unfold onlN sgAt;exact il fun c _ hc=>LY ((X _).wo m0 m6 (L4 hc))
theorem Ej{less:List Int}(X:aW LI less)(m0:1<=m)(m6:m<=6)(hb:turnB h w m LI z s ms=true):turnB h w m less z s ms=true:=by
 unfold turnB at hb ⊢;by_cases e:ms=[]
 . rw[Mp e] at hb ⊢;rw[LZ,Nk] at hb ⊢;have a:=z6 (cs:=besL h w z) (m:=m) X;have b:=z7 (cs:=besL h w z) X m0 m6;refine⟨hb.1,?_⟩;rcases hb.2 with h1 | h1
   . have:=L4 h1;exact .inl (LY (by omega))
   . have:=L4 h1;exact .inr (LY (by omega))
 . rw[Md e] at hb ⊢;rw[LZ,LZ,LZ] at hb ⊢;refine⟨hb.1,hb.2.1,LY ((X _).wo m0 m6 (L4 hb.2.2.1)),?_⟩;have h3:=hb.2.2.2;have a:=z6 (cs:=arL h w (ms.getD 0 0) z) (m:=m) X;have b:=z7 (cs:=arL h w (ms.getD 0 0) z) X m0 m6;by_cases e2:s=m
   . rw[Mp e2] at h3 ⊢;have:=L4 h3;exact LY (by omega)
   . rw[Md e2] at h3 ⊢;have:=L4 h3;exact LY (by omega)
theorem iG(m0:0<=m)(x:Int):x∈sgL m↔stB m x=true:=by
 unfold sgL;rw[Mg];constructor
 . rintro⟨i,hi,rfl⟩;exact(L8.mp hi).2
 . intro h;have h':=h;unfold stB at h';rw[LZ,LZ] at h';have a:=L4 h'.1;have b:=L4 h'.2.1;refine⟨(x-1).toNat,L8.mpr ⟨Mb.mpr (by omega),?_⟩,by omega⟩;rw[show 1+(((x-1).toNat:Nat):Int)=x by omega];exact h
theorem z8{f:Nat->Int}(hf:∀ a b,f a=f b->a=b):∀{xs:List Nat},xs.Nodup->(xs.map f).Nodup
 | [],_=>On
 | x::r,h=>by
  rw[M6] at h;rw[Mx,M6];refine⟨fun hx=>?_,z8 hf h.2⟩;obtain⟨y,hy,e⟩:=Mg.mp hx;exact h.1 (hf _ _ e ▸ hy)
theorem rB(m:Int):(sgL m).Nodup:=by
 unfold sgL;exact z8 (f:=fun(i:Nat)=>1+(i:Int)) (fun a b e=>by have e':(1:Int)+(a:Int)=1+(b:Int):=e;omega) (List.Nodup.sublist OR List.nodup_range)
theorem Fl:((List.range 64).all fun a=>(List.range 64).all fun b=>(List.range 6).all fun i=>decide (stB (Builtin.bitOr (a:Int) (b:Int)) (1+(i:Int))=(stB (a:Int) (1+(i:Int))||stB (b:Int) (1+(i:Int)))))=true:=by decide+kernel
theorem ux:((List.range 64).all fun m=>decide (Builtin.Int.intBits (m:Int)<=6))=true:=by decide+kernel
theorem st6(m0:0<=m)(m1:m<64)(h:stB m x=true):1<=x/\x<=6:=by
 have t:=L4 (L6.mp ux m.toNat (Mb.mpr (by omega)));rw[show((m.toNat:Nat):Int)=m by omega] at t;unfold stB at h;rw[LZ,LZ] at h;have a:=L4 h.1;have b:=L4 h.2.1;omega
theorem y7{a b:Int}(a0:0<=a)(a1:a<64)(b0:0<=b)(b1:b<64)(x0:1<=x)(x6:x<=6):stB (Builtin.bitOr a b) x=(stB a x||stB b x):=by
 have t:=L4 (L6.mp (L6.mp (L6.mp Fl a.toNat (Mb.mpr (by omega))) b.toNat (Mb.mpr (by omega))) (x-1).toNat (Mb.mpr (by omega)));rw[show((a.toNat:Nat):Int)=a by omega,show((b.toNat:Nat):Int)=b by omega,show 1+(((x-1).toNat:Nat):Int)=x by omega] at t;exact t
theorem Ek{less:List Int}(X:aW LI less)(h:pairB cs LI z s ms=true):pairB cs less z s ms=true:=by
 unfold pairB orM at h ⊢;rw[LZ] at h ⊢;refine⟨h.1,LY ?_⟩;have h2:=L4 h.2;have A:=X (ms.getD 0 0).toNat;have B:=X (ms.getD 1 0).toNat;generalize less.getD (ms.getD 0 0).toNat 0=a at*;generalize less.getD (ms.getD 1 0).toNat 0=b at*;generalize LI.getD (ms.getD 0 0).toNat 0=a' at*;generalize LI.getD (ms.getD 1 0).toNat 0=b' at*;have o:=Cm A.a0 A.a1 B.a0 B.a1;have o':=Cm A.b0 A.b1 B.b0 B.b1
 have le:=dI (xs:=(sgL (Builtin.bitOr a b)).filter fun x=>!decide (x=s)) (ys:=(sgL (Builtin.bitOr a' b')).filter fun x=>!decide (x=s)) (List.Nodup.sublist OR (rB _)) fun x hx=>by
  rw[L8] at hx ⊢;refine⟨?_,hx.2⟩;have st:=(iG o.1 x).mp hx.1;have b6:=st6 o.1 o.2 st;rw[y7 A.a0 A.a1 B.a0 B.a1 b6.1 b6.2,Nk] at st;refine(iG o'.1 x).mpr ?_;rw[y7 A.b0 A.b1 B.b0 B.b1 b6.1 b6.2,Nk];rcases st with st | st
  . exact .inl (A.st _ st)
  . exact .inr (B.st _ st)
 omega
variable{t:TK}
theorem Hx{LK:List RR}{cl less:List Int}{r:Int}(R:bB c h w g LK)(X:aW LI less)(ht:K30 t)(hb:rA h w g LK cl LI t r z s ms=true):rA h w g LK cl less t r z s ms=true:=by
 unfold rA at hb ⊢;rw[LZ] at hb ⊢;obtain⟨f,q⟩:=hb;refine⟨f,?_⟩;obtain⟨z0,z1,s0,s1,LU⟩:=bD f;have g6:=R.F.g1;unfold z4 at q ⊢;rcases ht with ht | ht
 . have hl:lineK t=true:=by rcases ht with rfl | rfl | rfl | rfl <;> rfl
   rw[hl,Mp rfl] at q ⊢;by_cases hc:t=.clue
   . subst hc;exact q
   . obtain⟨r0,y,ey,hgo,hz⟩:=dC hc LU
     have e:∀ mk:List Int,dZ g LK cl mk t r z s ms=vI g t y mk z s ms:=fun mk=>by
      unfold dZ;cases t <;> first | exact absurd rfl hc | (dsimp only;rw[ey])
     rw[e] at q ⊢;rcases ht with rfl | rfl | rfl | rfl
     . exact absurd rfl hc
     . exact Ei X s0 (by omega) q
     . exact Cw X q
     . exact Ek X q
 . have hl:lineK t=false:=by rcases ht with rfl | rfl | rfl <;> rfl
   have hnc:t≠.clue:=by rcases ht with rfl | rfl | rfl <;> decide
   rw[hl,Md L7] at q ⊢;obtain⟨r0,y,ey,hgo,hz⟩:=dC hnc LU;have O:=R.ok y (L5 ey);unfold fK at q ⊢;rw[ey] at q ⊢;rcases ht with rfl | rfl | rfl
   . exact Fi X s0 (by omega) q
   . have ym:=O.m0 (mP hgo);exact Fk X ym.1 (by omega) q
   . have ym:=O.m0 (xX hgo);exact Ej X ym.1 (by omega) q
theorem Cz{k:RK}{m:Nat}{ns:List Nat}(F:FlOk h w g)(ne:ns≠[])(lt:∀ c∈ns,(c:Int)<h*w)(nd:ns.Nodup)(len:ns.length<=16)(hk:allK k=false)(k0:k≠.Rule)(n0:n<=99)(nz:numK k=false->n=0)(m0:sgnK k=true->1<=(m:Int)/\(m:Int)<=g)(mz:sgnK k=false->m=0):
  RR.Ok ⟨k,n,m,ns,ns.map fun(n:Nat)=>(n:Int)⟩ h w g:=by
 have m16:=F.m;refine⟨k0,n0,nz,m0,mz,⟨fun _=>⟨ne,len,lt,nd,rfl⟩,fun e=>?_⟩,fun x hx=>?_,len⟩
 . rw[show allK k=false from hk] at e;cases e
 . have:=lt x hx;omega
def dTh(t:TK)(r z s:Int)(ms:List Int):PyData:=.tuple [.str (tx (tkC t)),.int r,.int z,.int s,.list (ms.map PyData.int)]
theorem Iz{T:Addr}{r:Int}(x:IsTh H T M t r z s ms):DV K H (.ref T) (dTh t r z s ms):=
 .tup (PQ x.T) (.cons (.str _) (.cons (.int _) (.cons (.int _) (.cons (.int _) (.cons (.lst (Ml x.M) (.ints ms)) .nil)))))
theorem Gs(t:TK):decide (tkC t=[112,97,105,114])=decide (t=.pair):=by cases t <;> decide
theorem Gu(t:TK):decide (tkC t=[116,117,114,110])=decide (t=.turn):=by cases t <;> decide
def K39(t:TK):Prop:=t=.count\/t=.sum\/t=.step\/t=.ways
noncomputable def d2 (h w:Int) (x:RR) (LI:List Int) (t:TK) (z s:Int) (ms:List Int):Bool:=match t with
 | .count=>cntB x.cs x.n x.m LI z s ms
 | .sum=>sumB x.cs x.n LI z s ms
 | .step=>stepB x.cs LI z s ms
 | _=>waysB x.k h w x.cs x.n x.m LI z s ms
noncomputable def cw (h w:Int) (LK:List RR) (LI:List Int) (t:TK) (r z s:Int) (ms:List Int):Bool:=match LK[r.toNat]? with
  | none=>false
  | some x=>d2 h w x LI t z s ms
theorem IA(ht:K39 t):t≠.clue:=by rcases ht with rfl | rfl | rfl | rfl <;> decide
def db(K:Frag)(c:RCl RK)(d:RCl PzK):Sp:=fun vs H Q _=>∃(P L G A T M:Addr) (h w g:Int) (LK:List RR) (cl LI:List Int) (t:TK) (r z s:Int) (ms:List Int),vs=[.ref P,.ref A,.ref T]/\Asks H c d P L G A T M h w g LK cl LI t r z s ms/\(t=.count\/t=.sum\/t=.ways)/\(∀ m∈LI,0<=m/\m<64)/\formB h w g LK t r z s=true/\∀ H',Same H H'->Q (.bl (cw h w LK LI t r z s ms)) H'
def dc(K:Frag)(c:RCl RK)(d:RCl PzK):TS:=
 (tSeq (tAsg (tOp cIx (aF d d.ok "rules" (cu K c d) (tVar 0) tNil) (tOp cIx (tVar 2) (tC (.int 1)))) (gName 3))
  (tSeq (tIfS (tTest (tOp (cEq K) (tOp cIx (tVar 2) (tC (.int 0))) (tC (.str (tx [99,111,117,110,116]))))) (tRet (tCall (ic K c) [] E0 (tCons (tVar 3) (tCons (tVar 1) (tCons (tOp cIx (tVar 2) (tC (.int 2))) (tCons (tOp cIx (tVar 2) (tC (.int 3))) (tCons (tOp cIx (tVar 2) (tC (.int 4))) tNil))))))) tNext)
  (tSeq (tIfS (tTest (tOp (cEq K) (tOp cIx (tVar 2) (tC (.int 0))) (tC (.str (tx [115,117,109]))))) (tRet (tCall (jQ K c) [] E0 (tCons (tVar 3) (tCons (tVar 1) (tCons (tOp cIx (tVar 2) (tC (.int 2))) (tCons (tOp cIx (tVar 2) (tC (.int 3))) (tCons (tOp cIx (tVar 2) (tC (.int 4))) tNil))))))) tNext)
  (tRet (tCall (ji K c) [] E0 (tCons (tVar 3) (tCons (tVar 1) (tCons (tOp cIx (tVar 2) (tC (.int 2))) (tCons (tOp cIx (tVar 2) (tC (.int 3))) (tCons (tOp cIx (tVar 2) (tC (.int 4))) tNil))))))))))
theorem oh(h:db K c d vs H Q E):dc K c d (eD9 Q) (start ["puzzle","masks","thought","rule"] vs) H:=by
 obtain⟨P,L,G,A,T,M,h,w,g,LK,cl,LI,t,r,z,s,ms,rfl,X,ht,mo,f,q⟩:=h;obtain⟨dx,p,rs,h1,h2,h3⟩:=X.P.ex;obtain⟨z0,z1,s0,s1',LU⟩:=bD f;have hg:=X.P.R.F.g1;have hmm:=X.P.R.F.m;obtain⟨r0,y,ey,hgo,hz⟩:=dC (by rcases ht with rfl | rfl | rfl <;> decide) LU;have O:=X.P.R.ok y (L5 ey);have hin:aK y.cs LI.length:=by rw[X.n];exact OH O X.P.R.F
 show dc K c d _ [some (.ref P),some (.ref A),some (.ref T),none] H;unfold dc;rw[aJ,bW,gm];refine methE (k:=.Puzzle) rfl X.P.ok h1 (by rfl) ?_;symm;refine⟨P,L,G,h,w,g,LK,cl,rfl,X.P,fun l p2 rs2 hl hp2 Y=>?_⟩;have s2:Same H (upd H l (.lst (rs2.map V.ref))):=(L3 H).laid hl;generalize upd H l (.lst (rs2.map V.ref))=H1 at*;have hlt:=(L1.mp ey).1;have LS:=Y.len;have ea:rs2[r.toNat]? =some rs2[r.toNat]:=LW (by omega)
 have fin:∀ H',Same H1 H'->Q (.bl (d2 h w y LI t z s ms)) H':=fun H' s3=>by
  have q1:=q H' (s2.trans s3);unfold cw at q1;rw[ey] at q1;exact q1
 dsimp only;refine ixT (s2 _ _ X.T.T) (v:=V.int r) rfl ?_;refine ixL Y.top (dJ r0 ea) ?_;symm;rw[ay];symm;refine ixT (s2 _ _ X.T.T) (v:=V.str (tx (tkC t))) rfl ?_;symm;rw[bg,Fd];rcases ht with rfl | rfl | rfl
 . rw[LY rfl];refine iteT ?_;symm;refine ixT (s2 _ _ X.T.T) (v:=V.int z) rfl ?_;symm;refine ixT (s2 _ _ X.T.T) (v:=V.int s) rfl ?_;symm;refine ixT (s2 _ _ X.T.T) (v:=V.ref M) rfl ?_;symm;exact⟨_,_,p2,A,M,_,y.cs,LI,ms,_,_,z,s,rfl,Y.at_ _ _ _ ea ey,hin,s2 _ _ X.A,s2 _ _ X.T.M,by omega,fin⟩
 . rw[L0 (by decide)];refine iteF ?_;rw[ay];symm;refine ixT (s2 _ _ X.T.T) (v:=V.str (tx (tkC .sum))) rfl ?_;symm;rw[bg,DY,LY rfl];refine iteT ?_;symm;refine ixT (s2 _ _ X.T.T) (v:=V.int z) rfl ?_;symm;refine ixT (s2 _ _ X.T.T) (v:=V.int s) rfl ?_;symm;refine ixT (s2 _ _ X.T.T) (v:=V.ref M) rfl ?_;symm;exact⟨_,_,p2,A,M,_,y.cs,LI,ms,_,_,z,s,rfl,Y.at_ _ _ _ ea ey,hin,mo,s2 _ _ X.A,s2 _ _ X.T.M,fin⟩
 . rw[L0 (by decide)];refine iteF ?_;rw[ay];symm;refine ixT (s2 _ _ X.T.T) (v:=V.str (tx (tkC .ways))) rfl ?_;symm;rw[bg,DY,L0 (by decide)];refine iteF ?_;symm;refine ixT (s2 _ _ X.T.T) (v:=V.int z) rfl ?_;symm;refine ixT (s2 _ _ X.T.T) (v:=V.int s) rfl ?_;symm;refine ixT (s2 _ _ X.T.T) (v:=V.ref M) rfl ?_;symm;exact⟨_,_,p2,A,M,_,y.cs,LI,ms,_,_,z,s,h,w,g,rfl,Y.at_ _ _ _ ea ey,hp2,X.P.R.F,hin,by rw[X.n];omega,mo,by omega,by omega,s2 _ _ X.A,s2 _ _ X.T.M,fin⟩
def Hy(x:RR)(t:TK)(z:Int):List Int:=match t with
 | .step=>ahdL x.cs z++behL x.cs z
 | _=>othL x.cs z
noncomputable def strA (h w g:Int) (LK:List RR) (cl LI:List Int) (t:TK) (r z s:Int) (ms:List Int):Bool:=
 if lineK t then(if t=.step then cw h w LK LI t r z s ms else dZ g LK cl LI t r z s ms) else if nbrK t then cw h w LK LI t r z s ms else fK h w LK LI t r z s ms
def fc(K:Frag)(c:RCl RK)(d:RCl PzK):Sp:=fun vs H Q _=>∃(P L G A T M:Addr) (h w g:Int) (LK:List RR) (cl LI:List Int) (t:TK) (r z s:Int) (ms:List Int),vs=[.ref P,.ref A,.ref T]/\Asks H c d P L G A T M h w g LK cl LI t r z s ms/\lineK t=true/\(∀ m∈LI,0<=m/\m<64)/\formB h w g LK t r z s=true/\∀ H',Same H H'->Q (.bl (strA h w g LK cl LI t r z s ms)) H'
def fe(K:Frag)(c:RCl RK)(d:RCl PzK):TS:=
 (tSeq (tAsg (tOp cIx (tVar 2) (tC (.int 0))) (gName 3))
  (tSeq (tAsg (tOp cIx (tVar 2) (tC (.int 2))) (gName 4))
  (tSeq (tAsg (tOp cIx (tVar 2) (tC (.int 3))) (gName 5))
  (tSeq (tAsg (tOp cIx (tVar 2) (tC (.int 4))) (gName 6))
  (tSeq (tIfS (tTest (tOp (cEq K) (tVar 3) (tC (.str (tx [99,108,117,101]))))) (tRet (tCall (i6 K) [] E0 (tCons (aF d d.ok "clues" (uj K c d) (tVar 0) tNil) (tCons (tVar 4) (tCons (tVar 5) (tCons (tVar 6) tNil)))))) tNext)
  (tSeq (tAsg (tOp cIx (aF d d.ok "rules" (cu K c d) (tVar 0) tNil) (tOp cIx (tVar 2) (tC (.int 1)))) (gName 7))
  (tSeq (tIfS (tTest (tOp (cEq K) (tVar 3) (tC (.str (tx [111,110,108,121]))))) (tRet (tCall (i8 K c) [] E0 (tCons (tVar 7) (tCons (tVar 1) (tCons (tVar 4) (tCons (tVar 5) (tCons (tVar 6) tNil))))))) tNext)
  (tSeq (tIfS (tTest (tOp (cEq K) (tVar 3) (tC (.str (tx [112,108,97,99,101]))))) (tRet (tCall (h9 K c) [] E0 (tCons (aF d d.ok "place" (hX K c d) (tVar 0) tNil) (tCons (tVar 7) (tCons (tVar 1) (tCons (tVar 4) (tCons (tVar 5) (tCons (tVar 6) tNil)))))))) tNext)
  (tSeq (tIfS (tTest (tOp (cEq K) (tVar 3) (tC (.str (tx [115,116,101,112]))))) (tRet (tCall (jd K c) [] E0 (tCons (tVar 7) (tCons (tVar 1) (tCons (tVar 4) (tCons (tVar 5) (tCons (tVar 6) tNil))))))) tNext)
  (tRet (tCall (jb K c) [] E0 (tCons (tVar 7) (tCons (tVar 1) (tCons (tVar 4) (tCons (tVar 5) (tCons (tVar 6) tNil))))))))))))))))
theorem qB(h:fc K c d vs H Q E):fe K c d (eD9 Q) (start ["puzzle","masks","thought","kind","cell","sign","more","rule"] vs) H:=by
 obtain⟨P,L,G,A,T,M,h,w,g,LK,cl,LI,t,r,z,s,ms,rfl,X,ht,mm,f,q⟩:=h;obtain⟨dx,p,rs,h1,h2,h3⟩:=X.P.ex;obtain⟨z0,z1,s0,s1',LU⟩:=bD f;have hcl:=X.P.C.len;have hg:=X.P.R.F.g1;unfold strA at q;rw[ht,Mp rfl] at q;show fe K c d _ [some (.ref P),some (.ref A),some (.ref T),none,none,none,none,none] H;unfold fe;symm;refine ixT X.T.T (v:=V.str (tx (tkC t))) rfl ?_;symm;refine ixT X.T.T (v:=V.int z) rfl ?_;symm;refine ixT X.T.T (v:=V.int s) rfl ?_;symm;refine ixT X.T.T (v:=V.ref M) rfl ?_;symm;rw[ay];symm;rw[bg,sM];by_cases hc:t=.clue
 . subst hc;rw[Md (by decide)] at q;rw[LY rfl];refine iteT ?_;refine methE (k:=.Puzzle) rfl X.P.ok h1 (by rfl) ?_;symm;refine⟨P,L,G,h,w,g,LK,cl,rfl,X.P,fun l hl=>?_⟩;have s2:Same H (upd H l (.lst (cl.map V.int))):=(L3 H).laid hl;exact⟨l,M,z,s,cl,ms,rfl,ag,z0,by omega,s2 _ _ X.T.M,fun H' s3=>q H' (s2.trans s3)⟩
 . rw[L0 hc];obtain⟨r0,y,ey,_,hz⟩:=dC hc LU
   have q2:t≠.step->∀ H',Same H H'->Q (.bl (vI g t y LI z s ms)) H':=fun hn H' s'=>by
    have q1:=q H' s';rw[Md hn] at q1
    have e:dZ g LK cl LI t r z s ms=vI g t y LI z s ms:=by
     unfold dZ;cases t <;> first | exact absurd rfl hc | (dsimp only;rw[ey])
    rw[e] at q1;exact q1
   refine iteF ?_;refine methE (k:=.Puzzle) rfl X.P.ok h1 (by rfl) ?_;symm;refine⟨P,L,G,h,w,g,LK,cl,rfl,X.P,fun l p2 rs2 hl hp2 Y=>?_⟩;have s2:Same H (upd H l (.lst (rs2.map V.ref))):=(L3 H).laid hl;generalize upd H l (.lst (rs2.map V.ref))=H1 at*;have hlt:=(L1.mp ey).1;have LS:=Y.len;have ea:rs2[r.toNat]? =some rs2[r.toNat]:=LW (by omega);have O:=X.P.R.ok y (L5 ey);have hin:aK y.cs LI.length:=by rw[X.n];exact OH O X.P.R.F
   dsimp only;refine ixT (s2 _ _ X.T.T) (v:=V.int r) rfl ?_;refine ixL Y.top (dJ r0 ea) ?_;symm;rw[ay];symm;rw[bg,By];by_cases ho:t=.only
   . subst ho;rw[LY rfl];refine iteT ?_;symm;exact⟨_,_,p2,A,M,_,y.cs,LI,ms,_,_,z,s,rfl,Y.at_ _ _ _ ea ey,hin,s2 _ _ X.A,s2 _ _ X.T.M,by omega,fun H' s3=>q2 (by decide) H' (s2.trans s3)⟩
   . rw[L0 ho];refine iteF ?_;rw[ay];symm;rw[bg,zQ];by_cases hp:t=.place
     . subst hp;rw[LY rfl];refine iteT ?_;refine methE (k:=.Puzzle) rfl X.P.ok (s2 _ _ h1) (by rfl) ?_;symm;refine⟨P,L,G,h,w,g,LK,cl,rfl,X.P.same s2,fun p3 hp3=>?_⟩;symm;exact⟨_,p3,_,p2,A,M,_,y.cs,LI,ms,_,_,z,s,h,w,g,rfl,hp3,Y.at_ _ _ _ ea ey,hin,s2 _ _ X.A,s2 _ _ X.T.M,fun H' s3=>q2 (by decide) H' (s2.trans s3)⟩
     . rw[L0 hp];refine iteF ?_;rw[ay];symm;rw[bg,Gk];by_cases hs:t=.step
       . subst hs;rw[LY rfl];refine iteT ?_;symm;refine⟨_,_,p2,A,M,_,y.cs,LI,ms,_,_,z,s,rfl,Y.at_ _ _ _ ea ey,hin,hz,mm,s2 _ _ X.A,s2 _ _ X.T.M,fun H' s3=>?_⟩;have q1:=q H' (s2.trans s3);rw[Mp rfl] at q1;unfold cw at q1;rw[ey] at q1;exact q1
       . rw[L0 hs]
         have hpr:t=.pair:=by
          revert ht hc ho hp hs
          cases t <;> intro ht hc ho hp hs <;> first | rfl | exact absurd rfl hc | exact absurd rfl ho | exact absurd rfl hp | exact absurd rfl hs | cases ht
         subst hpr;refine iteF ?_;symm;exact⟨_,_,p2,A,M,_,y.cs,LI,ms,_,_,z,s,rfl,Y.at_ _ _ _ ea ey,hin,mm,s2 _ _ X.A,s2 _ _ X.T.M,fun H' s3=>q2 (by decide) H' (s2.trans s3)⟩
def kf(K:Frag)(c:RCl RK)(d:RCl PzK):Sp:=fun vs H Q _=>∃(P L G A T M:Addr) (h w g:Int) (LK:List RR) (cl LI:List Int) (t:TK) (r z s:Int) (ms:List Int),vs=[.ref P,.ref A,.ref T]/\Asks H c d P L G A T M h w g LK cl LI t r z s ms/\(∀ m∈LI,0<=m/\m<64)/\formB h w g LK t r z s=true/\∀ H',Same H H'->Q (.bl (strA h w g LK cl LI t r z s ms)) H'
def oi(K:Frag)(c:RCl RK)(d:RCl PzK):TS:=
 (tSeq (tIfS (tB (tInG gU false (tOp cIx (tVar 2) (tC (.int 0))))) (tRet (tCall (fc K c d) [] E0 (tCons (tVar 0) (tCons (tVar 1) (tCons (tVar 2) tNil))))) tNext)
  (tSeq (tIfS (tB (tInG fm false (tOp cIx (tVar 2) (tC (.int 0))))) (tRet (tCall (db K c d) [] E0 (tCons (tVar 0) (tCons (tVar 1) (tCons (tVar 2) tNil))))) tNext)
  (tRet (tCall (c9 K c d) [] E0 (tCons (tVar 0) (tCons (tVar 1) (tCons (tVar 2) tNil)))))))
theorem nbrA(h:nbrK t=true):t=.count\/t=.sum\/t=.ways:=by cases t <;> first | exact .inl rfl | exact .inr (.inl rfl) | exact .inr (.inr rfl) | cases h
theorem regA(h1:lineK t=false)(h2:nbrK t=false):Cv t:=by cases t <;> first | exact .inl rfl | exact .inr (.inl rfl) | exact .inr (.inr rfl) | (cases h1;done) | (cases h2;done)
theorem A1(h:kf K c d vs H Q E):oi K c d (eD9 Q) (start ["puzzle","masks","thought"] vs) H:=by
 obtain⟨P,L,G,A,T,M,h,w,g,LK,cl,LI,t,r,z,s,ms,rfl,X,mm,f,q⟩:=h;show oi K c d _ [some (.ref P),some (.ref A),some (.ref T)] H;unfold oi;rw[aJ,ay];symm;refine ixT X.T.T (v:=V.str (tx (tkC t))) rfl ?_;symm;rw[Gf]
 cases e1:lineK t with
 | true=>
  refine iteT ?_;exact⟨P,L,G,A,T,M,h,w,g,LK,cl,LI,t,r,z,s,ms,rfl,X,e1,mm,f,q⟩
 | false=>
  unfold strA at q;rw[e1,Md L7] at q;refine iteF ?_;rw[ay];symm;refine ixT X.T.T (v:=V.str (tx (tkC t))) rfl ?_;symm;rw[Hr]
  cases e2:nbrK t with
  | true=>
   rw[e2,Mp rfl] at q;refine iteT ?_;exact⟨P,L,G,A,T,M,h,w,g,LK,cl,LI,t,r,z,s,ms,rfl,X,nbrA e2,mm,f,q⟩
  | false=>
   rw[e2,Md L7] at q;refine iteF ?_;symm;exact⟨P,L,G,A,T,M,h,w,g,LK,cl,LI,t,r,z,s,ms,rfl,X,regA e1 e2,f,q⟩
noncomputable def alwA (h w g:Int) (LK:List RR) (cl LI:List Int) (t:TK) (r z s:Int) (ms:List Int):Bool:=formB h w g LK t r z s&&strA h w g LK cl LI t r z s ms
def oj(K:Frag)(c:RCl RK)(d:RCl PzK):Sp:=fun vs H Q _=>∃(P L G A T M:Addr) (h w g:Int) (LK:List RR) (cl LI:List Int) (t:TK) (r z s:Int) (ms:List Int),vs=[.ref P,.ref A,.ref T]/\Asks H c d P L G A T M h w g LK cl LI t r z s ms/\(∀ m∈LI,0<=m/\m<64)/\∀ H',Same H H'->Q (.bl (alwA h w g LK cl LI t r z s ms)) H'
def oo(K:Frag)(c:RCl RK)(d:RCl PzK):TS:=
 (tRet (tAndV (tCall (lV K c d) [] E0 (tCons (tVar 0) (tCons (tVar 2) tNil))) (tCall (kf K c d) [] E0 (tCons (tVar 0) (tCons (tVar 1) (tCons (tVar 2) tNil))))))
theorem A3(h:oj K c d vs H Q E):oo K c d (eD9 Q) (start ["puzzle","masks","thought"] vs) H:=by
 obtain⟨P,L,G,A,T,M,h,w,g,LK,cl,LI,t,r,z,s,ms,rfl,X,mm,q⟩:=h;show oo K c d _ [some (.ref P),some (.ref A),some (.ref T)] H;unfold oo;symm;refine⟨t,P,L,G,T,M,h,w,g,r,z,s,LK,cl,ms,rfl,X.P,X.T,fun H1 s1=>?_⟩;unfold alwA at q
 cases hb:formB h w g LK t r z s with
 | false=>
  rw[hb,Mm] at q;exact⟨false,rfl,iteF (q _ s1)⟩
 | true=>
  rw[hb,Mq] at q;refine⟨true,rfl,iteT ?_⟩;symm;exact⟨P,L,G,A,T,M,h,w,g,LK,cl,LI,t,r,z,s,ms,rfl,X.same s1,mm,hb,fun H' s2=>q H' (s1.trans s2)⟩
def tGT(K:Frag)(ws:List Str):TE:=fun _ H Q=>∀ q,SqT K H q (ws.map V.str)->Q (.ref q) H
section
variable{X:Cx}{pos:Pos}{x:Str}{ws:List Str}
theorem FH(G:GTup X.K X.mg x ws)(hg:Gl X x)(hdb:(x==("__debug__":Str))=false:=by decide):PE X (.Name x pos) (tGT X.K ws):=by
 obtain⟨q,o,LO,n,h1,h2⟩:=G.ex;intro LJ s σ H Q I h;exact cg (v:=V.ref q) hg h1 rfl hdb LJ s σ H Q I (h q (.inr ⟨o,LO,n,h2⟩))
end
theorem Hz{K:Frag}{ws:List Str}{σ:St}{H:Hp}{Q:VK}:tGT K ws σ H Q=∀ q,SqT K H q (ws.map V.str)->Q (.ref q) H:=rfl
theorem HA{K:Frag}{H:Hp}{Q:VK}{q:Addr}{i:Int}{xs:List V}{v:V}(hq:SqT K H q xs)(e:atI xs i=some v)(h:Q v H):rIxT K (.ref q) (.int i) H Q:=⟨q,xs,i,v,rfl,rfl,hq,e,h⟩
def stL(ms:List Int)(c s:Int):List Int:=(List.range ms.length).map fun(i:Nat)=>if (i:Int)=c then woI (ms.getD i 0) s else ms.getD i 0
def mQ(K:Frag):Sp:=fun vs H Q _=>∃(p:Addr) (ms:List Int) (c s:Int),vs=[.ref p,.int c,.int s]/\H p=some (.lst (ms.map V.int))/\ms.length<=900/\s<=100000/\∀ l H',Same H H'->H l=none->H' l=some (.lst ((stL ms c s).map V.int))->Q (.ref l) H'
def rC(K:Frag):TS:=
 (tRet (tComp [none,none,none,some 1,some 2] (iEnum K (tCons (tVar 0) tNil)) (gTup K 2 (gCons (gName 1) (gCons (gName 2) gNil))) tTrue (tIf (tTest (tOp (cEq K) (tVar 1) (tVar 3))) (tCall (lq K) [] E0 (tCons (tVar 2) (tCons (tVar 4) tNil))) (tVar 2))))
variable{K:Frag}{vs:List V}{H:Hp}{Q:VK}{E:XK}
theorem El(h:mQ K vs H Q E):rC K (eD9 Q) (start ["masks","cell","sign"] vs) H:=by
 obtain⟨p,ms,c,s,rfl,hp,hn,hs,k⟩:=h;show rC K _ [some (.ref p),some (.int c),some (.int s)] H;unfold rC;symm;refine⟨p,rfl,⟨_,Ml hp⟩,?_⟩;refine pJ (xs:=ms.map V.int) (fun _=>true) (fun i=>.int (if (i:Int)=c then woI (ms.getD i 0) s else ms.getD i 0)) (by rw[LV];exact hn) (by decide) (Ml hp) ?_ ?_ ?_
 . intro i x H1 R hx s1 k1;exact k1 _ (L3 _)
 . intro i x H1 Q1 hx hb s1 k1;obtain⟨m,hm,rfl⟩:=aQ hx;have q:=k1 _ (L3 H1);rw[eI hm] at q;show tIf _ _ _ [none,some (.int i),some (.int m),some (.int c),some (.int s)] H1 Q1;symm;by_cases hc:(i:Int)=c
   . rw[Mp hc] at q;rw[LY hc];exact iteT ⟨m,s,rfl,hs,q⟩
   . rw[Md hc] at q;rw[L0 hc];exact iteF q
 . intro l H1 hl s1 el;refine k l H1 s1 hl ?_;rw[el,a9,LV];unfold stL;rw[MH];rfl
theorem rfmA{α β:Type}(d:α)(b:α->Bool)(f:α->β)(xs:List α):((List.range xs.length).filter fun i=>b (xs.getD i d)).map (fun i=>f (xs.getD i d))=(xs.filter b).map f:=by
 have e:xs=(List.range xs.length).map fun i=>xs.getD i d:=by
  refine Pm (by simp) fun i h1 h2=>?_;simp[List.getD,LW h1]
 conv=>rhs;rw[e,ON,MH]
 rfl
def LLp(Q:VK)(H:Hp)(LQ:List (List Int)):Prop:=∀(l:Addr) (as:List Addr) (H':Hp),Same H H'->H l=none->(∀ a∈as,H a=none)->IsLL H' l as LQ->Q (.ref l) H'
variable{H1:Hp}{LQ:List (List Int)}
theorem LLp.of(q:LLp Q H LQ)(s:Same H H1):LLp Q H1 LQ:=fun l as H' s' hl ha x=>q l as H' (s.trans s') (s.free hl) (fun a h=>s.free (ha a h)) x
variable{xs:List Int}
theorem rD {a:Addr} {k:Nat} {σ0:St} {tt:TT} {te:TE} {fin:Addr->Hp->Prop} (b:Int->Bool) (f:Int->List Int) (hn:xs.length<=900) (hq:SqL K H1 a (xs.map V.int))
  (ht:∀ x H R,x∈xs->Same H1 H->(∀ H',Same H H'->R (b x) H')->tt (σ0.set k (some (.int x))) H R)
  (he:∀ x H Q,x∈xs->b x=true->Same H1 H->(∀ a H',Same H H'->H a=none->H' a=some (.lst ((f x).map V.int))->Q (.ref a) H')->te (σ0.set k (some (.int x))) H Q)
  (hd:LLp (fun v H=>∀ l,v=.ref l->fin l H) H1 ((xs.filter b).map f)):CompR (Itl K a) (gName k) tt te fin σ0 H1:=by
 refine pL (xs:=xs.map V.int) (fun i=>b (xs.getD i 0)) (fun i=>.lst ((f (xs.getD i 0)).map V.int)) (by rw[LV];exact hn) hq ?_ ?_ ?_
 . intro i x H R hx s1 k1;obtain⟨y,hy,rfl⟩:=aQ hx;rw[eI hy] at k1;exact ht y H R (L5 hy) s1 k1
 . intro i x H Q hx hb s1 k1;obtain⟨y,hy,rfl⟩:=aQ hx;rw[eI hy] at k1 hb;exact he y H Q (L5 hy) hb s1 k1
 . intro l as H hl s1 el N;rw[LV] at N
   have e:((List.range xs.length).filter fun i=>b (xs.getD i 0)).map (fun i=>HO.lst ((f (xs.getD i 0)).map V.int))=((xs.filter b).map f).map fun ys=>.lst (ys.map V.int):=by
    rw[rfmA 0 b (fun x=>HO.lst ((f x).map V.int)) xs,MH];rfl
   rw[e] at N;exact hd l as H s1 hl N.fr (N.ll el) l rfl
variable{x:Int}
theorem sO(q:∀ a H',Same H H'->H a=none->H' a=some (.lst (([x]:List Int).map V.int))->Q (.ref a) H'):([V.int x]:List V).length<=sizeLine/\∀ p,H p=none->Q (.ref p) (upd H p (.lst [V.int x])):=
 ⟨lnR rfl,fun p hp=>q p _ ((L3 H).laid hp) hp ag⟩
def srtI(xs:List Int):List Int:=xs.mergeSort (fun a b=>decide (a<=b))
theorem BF:∀{xs ys:List Int},xs.Perm ys->xs.Pairwise (· <=·)->ys.Pairwise (· <=·)->xs=ys
 | [],ys,p,_,_=>(List.nil_perm.mp p).symm ▸ rfl
 | x::r,[],p,_,_=>absurd p (by simp)
 | x::r,y::t,p,h1,h2=>by
  rw[O5] at h1 h2
  have e:x=y:=by
   rcases Mn.mp (p.mem_iff.mp Mf) with e | m1
   . exact e
   . rcases Mn.mp (p.mem_iff.mpr Mf) with e | m2
     . exact e.symm
     . have a:=h2.1 x m1;have b:=h1.1 y m2;omega
  subst e;rw[BF (List.Perm.cons_inv p) h1.2 h2.2]
theorem HB{ns:List Int}(p:ns.Perm xs)(h:ns.Pairwise (· <=·)):ns=srtI xs:=by
 refine BF (p.trans (OV xs _).symm) h ?_;have:=List.pairwise_mergeSort (le:=fun a b:Int=>decide (a<=b)) (fun a b c h1 h2=>by simp at h1 h2 ⊢;omega) (fun a b=>by simp;omega) xs;exact this.imp fun h=>L4 h
theorem srt_mem:x∈srtI xs↔x∈xs:=(OV xs _).mem_iff
theorem sP:(srtI xs).length=xs.length:=(OV xs _).length_eq
variable{p:Addr}
theorem Aa{ns:List Int}(hp:H p=some (.lst (ns.map V.int)))(hn:ns.length<64)(h:∀ l,H l=none->Q (.ref l) (upd H l (.lst ((srtI ns).map V.int)))):d6 [.ref p] H Q:=
 EV hp hn fun ns' l hl pe pw=>by rw[HB pe pw];exact h l hl
abbrev othA(cs:List Int)(z:Int):List Int:=cs.filter fun x=>!decide (x=z)
def onlM(cs LI:List Int)(z s:Int):List (List Int):=((srtI (othA cs z)).filter fun o=>decide (woI (LI.getD o.toNat 0) s=0)).map fun o=>[o]
def kI(K:Frag)(c:RCl RK):Sp:=fun vs H Q _=>∃(k:RK) (r p A:Addr) (ws:List (List Nat)) (cs LI:List Int) (n m z s:Int),vs=[.ref r,.ref A,.int z,.int s]/\IsRule H c k r p ws cs n m/\aK cs LI.length/\H A=some (.lst (LI.map V.int))/\s<=1000/\LLp Q H (onlM cs LI z s)
def kJ(K:Frag)(c:RCl RK):TS:=
 (tRet (tComp [none,none,some 1,some 3] (iList K (tCB d6 (tCons (tCall (bC K c) [] E0 (tCons (tVar 0) (tCons (tVar 2) tNil))) tNil))) (gName 1) (tB (tCall (ce K) [] E0 (tCons (tOp cIx (tVar 2) (tVar 1)) (tCons (tVar 3) tNil)))) (tLst (tCons (tVar 1) tNil))))
variable{c:RCl RK}
theorem yF(h:kI K c vs H Q E):kJ K c (eD9 Q) (start ["rule","masks","cell","sign"] vs) H:=by
 obtain⟨k,r,p,A,ws,cs,LI,n,m,z,s,rfl,x,hin,hA,hs,q⟩:=h;have ol:(othA cs z).length<=cs.length:=Mh _ _;have hc:=hin.1;show kJ K c _ [some (.ref r),some (.ref A),some (.int z),some (.int s)] H;unfold kJ;symm;refine⟨k,r,p,ws,cs,n,m,z,rfl,x,hc,fun l H1 s1 hl el=>?_⟩;refine Aa (ns:=othA cs z) el (by omega) fun l2 hl2=>?_;obtain⟨H2,z9,s2,e2⟩:=aS (.lst ((srtI (othA cs z)).map V.int)) hl2;rw[z9];have s12:=s1.trans s2;refine⟨l2,rfl,⟨_,Ml e2⟩,?_⟩;refine rD (xs:=srtI (othA cs z)) (fun o=>decide (woI (LI.getD o.toNat 0) s=0)) (fun o=>[o]) (by rw[sP];omega) (Ml e2) ?_ ?_ ?_
 . intro y H3 R hy s3 k3;have yi:=hin.2 y (L8.mp (srt_mem.mp hy)).1;show tB _ [none,some (.int y),some (.ref A),some (.int s)] H3 R;symm;refine ixI ((s12.trans s3) _ _ hA) yi.1 (by omega) ?_;symm;exact⟨_,s,rfl,by omega,_,rfl,k3 _ (L3 _)⟩
 . intro y H3 Q3 hy hb s3 k3;show tLst _ [none,some (.int y),some (.ref A),some (.int s)] H3 Q3;symm;exact sO k3
 . exact fun l as H' s' hl ha xx l' e=>by cases e;exact q l as H' (s12.trans s') (s12.free hl) (fun a h=>s12.free (ha a h)) xx
def plaM(g s:Int):List (List Int):=((rngL 1 (g+1)).filter fun o=>!decide (o=s)).map fun o=>[o]
def jU(K:Frag):Sp:=fun vs H Q _=>∃(p:Addr) (h w g s:Int),vs=[.ref p,.int s]/\IsFl H p h w g/\1<=g/\g<=6/\LLp Q H (plaM g s)
def jV(K:Frag):TS:=
 (tRet (tComp [none,none,some 1] (pD (tCons (tC (.int 1)) (tCons (tOp cAdd (tOp cIx (tVar 0) (tC (.int 2))) (tC (.int 1))) tNil))) (gName 1) (tTest (tOp (cNe K) (tVar 1) (tVar 2))) (tLst (tCons (tVar 1) tNil))))
theorem xm(h:jU K vs H Q E):jV K (eD9 Q) (start ["floor","sign"] vs) H:=by
 obtain⟨p,h,w,g,s,rfl,hp,g0,g1,q⟩:=h;show jV K _ [some (.ref p),some (.int s)] H;unfold jV;symm;refine ixT hp (v:=V.int g) rfl ?_;symm;refine⟨1,g+1,rfl,⟨by omega,by omega,by omega,by omega⟩,?_⟩;refine nK (fun i=>!decide (1+(i:Int)=s)) (fun i=>.lst (([1+(i:Int)]:List Int).map V.int)) (by omega) ?_ ?_ ?_
 . intro i H2 R hi s2 k2;show tTest _ [none,some (.int (1+(i:Int))),some (.int s)] H2 R;symm;exact k2 _ (L3 _)
 . intro i H2 Q2 hi _ s2 k2;show tLst _ [none,some (.int (1+(i:Int))),some (.int s)] H2 Q2;symm;exact sO k2
 . intro l as H2 hl s2 el N
   have e:((List.range (g+1-1).toNat).filter fun(i:Nat)=>!decide (1+(i:Int)=s)).map (fun(i:Nat)=>HO.lst (([1+(i:Int)]:List Int).map V.int))=(plaM g s).map fun ys=>.lst (ys.map V.int):=by
    unfold plaM rngL;rw[ON,MH,MH];rfl
   rw[e] at N;exact q l as H2 s2 hl N.fr (N.ll el)
def squM(h w z:Int):List (List Int):=((squL h w).filter fun q=>decide (z∈q)).map fun q=>[q.getD 0 0]
def jm(K:Frag):Sp:=fun vs H Q _=>∃(p:Addr) (h w g z:Int),vs=[.ref p,.int z]/\IsFl H p h w g/\FlOk h w g/\LLp Q H (squM h w z)
def jn(K:Frag):TS:=
 (tRet (tComp [none,none,some 1] (iList K (tCall (iR K) [] E0 (tCons (tVar 0) tNil))) (gName 1) (tTest (tOp (cIn K false) (tVar 2) (tVar 1))) (tLst (tCons (tOp cIx (tVar 1) (tC (.int 0))) tNil))))
variable{h w g:Int}
theorem Fm(F:FlOk h w g):(squL h w).length<=16:=by
 have:=F.m;unfold squL;rw[LV];refine Mi (Mh _ _) ?_;rw[MR];omega
theorem vL(h:jm K vs H Q E):jn K (eD9 Q) (start ["floor","cell"] vs) H:=by
 obtain⟨p,h,w,g,z,rfl,hp,F,q⟩:=h;have sl:=Fm F;show jn K _ [some (.ref p),some (.int z)] H;unfold jn;symm;refine⟨p,h,w,g,rfl,hp,F,fun l as H1 s1 hl X nd nl fr=>?_⟩;have al:=X.len;refine⟨l,rfl,⟨_,Ml X.top⟩,?_⟩;refine pL (xs:=as.map V.ref) (fun i=>decide (z∈(squL h w).getD i [])) (fun i=>.lst (([((squL h w).getD i []).getD 0 0]:List Int).map V.int)) (by rw[LV];omega) (Ml X.top) ?_ ?_ ?_
 . intro i x H2 R hx s2 k2;obtain⟨b,hb,rfl⟩:=br hx;have hi:i<as.length:=(L1.mp hb).1;have e:(squL h w)[i]? =some (squL h w)[i]:=LW (by omega);have eb:=s2 _ _ (X.at_ i b _ hb e);have eg:(squL h w).getD i []=(squL h w)[i]:=by rw[List.getD,e];rfl
   rw[eg] at k2;show tTest _ [none,some (.ref b),some (.int z)] H2 R;symm;rw[nI eb];exact⟨_,rfl,k2 _ (L3 _)⟩
 . intro i x H2 Q2 hx hb2 s2 k2;obtain⟨b,hb,rfl⟩:=br hx;have hi:i<as.length:=(L1.mp hb).1;have e:(squL h w)[i]? =some (squL h w)[i]:=LW (by omega);have eb:=s2 _ _ (X.at_ i b _ hb e);have eg:(squL h w).getD i []=(squL h w)[i]:=by rw[List.getD,e];rfl
   rw[eg] at k2;obtain⟨j,_,_,ej⟩:=sN (ME (show i < (squL h w).length by omega));rw[ej] at eb k2;show tLst _ [none,some (.ref b),some (.int z)] H2 Q2;symm;refine ixI eb (by decide) (by show(0:Int)<4;decide) ?_;exact sO k2
 . intro T bs H2 hT s2 eT N;rw[LV,al,rfmA [] (fun q=>decide (z∈q)) (fun q=>HO.lst (([q.getD 0 0]:List Int).map V.int)) (squL h w)] at N;have e:((squL h w).filter fun q=>decide (z∈q)).map (fun q=>HO.lst (([q.getD 0 0]:List Int).map V.int))=(squM h w z).map fun ys=>.lst (ys.map V.int):=by unfold squM;rw[MH];rfl
   rw[e] at N;exact q T bs H2 (s1.trans s2) (s1.free hT) (fun a h=>s1.free (N.fr a h)) (N.ll eT)
def turM(h w z:Int):List (List Int):=[]::(besL h w z).map fun o=>[o]
def kK(K:Frag):Sp:=fun vs H Q _=>∃(p:Addr) (h w g z:Int),vs=[.ref p,.int z]/\IsFl H p h w g/\FlOk h w g/\LLp Q H (turM h w z)
def kL(K:Frag):TS:=
 (tRet (tOp cAdd (tLst (tCons (tLst tNil) tNil)) (tComp [none,none] (iList K (tCall (dG K) [] E0 (tCons (tVar 0) (tCons (tVar 1) tNil)))) (gName 1) tTrue (tLst (tCons (tVar 1) tNil)))))
theorem yG(h:kK K vs H Q E):kL K (eD9 Q) (start ["floor","cell"] vs) H:=by
 obtain⟨p,h,w,g,z,rfl,hp,F,q⟩:=h;have w0:=F.w0;have w1:=F.w1;have bl:=uc h w z;show kL K _ [some (.ref p),some (.int z)] H;unfold kL;symm;refine⟨aN (by decide),fun E0' hE=>?_⟩;obtain⟨H1,z9,s1,e1⟩:∃ z,upd H E0' (.lst [])=z/\Same H z/\z E0'=some (.lst (([]:List Int).map V.int)):=aS _ hE;rw[z9];refine⟨lnR rfl,fun Z hZ=>?_⟩;obtain⟨H2,z9,s2,e2⟩:=aS (.lst [V.ref E0']) hZ;rw[z9];have s12:=s1.trans s2;refine⟨p,h,w,g,z,rfl,s12 _ _ hp,by omega,by omega,fun l H3 s3 hl el=>?_⟩;refine⟨l,rfl,⟨_,Ml el⟩,?_⟩;refine rD (xs:=besL h w z) (fun _=>true) (fun o=>[o]) (by omega) (Ml el) ?_ ?_ ?_
 . intro y H4 R hy s4 k4;exact k4 _ (L3 _)
 . intro y H4 Q4 hy hb s4 k4;show tLst _ [none,some (.int y)] H4 Q4;symm;exact sO k4
 . intro T as H4 s4 hT ha X T' e;cases e;have s13:=s12.trans s3;have s34:=s3.trans s4;have s14:=s13.trans s4;have X':IsLL H4 T as ((besL h w z).map fun o=>[o]):=by rw[a9] at X;exact X
   have al:=X'.len;rw[LV] at al;symm;refine qU (s34 _ _ e2) X'.top (by simp;omega) fun R hR=>?_;have s5:Same H4 (upd H4 R (.lst ([V.ref E0']++as.map V.ref))):=(L3 H4).laid hR;refine q R (E0'::as) _ (s14.trans s5) (s14.free hR) (fun a h=>?_) ⟨ag,?_,fun j a xs h1 h2=>?_⟩
   . rcases Mn.mp h with rfl | h
     . exact hE
     . exact s13.free (ha a h)
   . unfold turM;simp[al]
   . cases j with
     | zero=>cases h1;cases h2;exact s5 _ _ (s34 _ _ (s2 _ _ e1))
     | succ j=>exact s5 _ _ (X'.at_ j a xs h1 h2)
def sureA(cs LI:List Int)(m z:Int):List Int:=(othA cs z).filter fun o=>decide (woI (LI.getD o.toNat 0) m=0)
noncomputable def reaM (h w:Int) (cs:List Int) (m:Int) (LI:List Int) (z s:Int):List (List Int):=
 if s=m then((sureA cs LI m z).filter fun o=>!rcB h w (thrL cs LI m z++[z]) z o).map fun o=>[o]
 else((sureA cs LI m z).filter fun o=>!rcB h w (thrL cs LI m z) ((sureA cs LI m z).getD 0 0) o).map fun o=>[(sureA cs LI m z).getD 0 0,o]
def jW(K:Frag)(c:RCl RK):Sp:=fun vs H Q _=>∃(k:RK) (f r p A:Addr) (ws:List (List Nat)) (cs LI:List Int) (n m z s h w g:Int),vs=[.ref f,.ref r,.ref A,.int z,.int s]/\IsFl H f h w g/\FlOk h w g/\IsRule H c k r p ws cs n m/\aK cs LI.length/\cs.length<=60/\H A=some (.lst (LI.map V.int))/\m<=1000/\LLp Q H (reaM h w cs m LI z s)
def gB(K:Frag)(c:RCl RK):TS:=
 (tRet (tComp [none,none,some 8,some 6] (iList K (tVar 6)) (gName 1) (tTest (tOp (cIn K true) (tVar 1) (tVar 2))) (tLst (tCons (tOp cIx (tVar 3) (tC (.int 0))) (tCons (tVar 1) tNil)))))
def kT(K:Frag)(c:RCl RK):TS:=
 (tSeq (tAsg (tIf (tTest (tOp (cNe K) (tVar 6) (tLst tNil))) (tCall (dR K) [] E0 (tCons (tVar 0) (tCons (tVar 7) (tCons (tOp cIx (tVar 6) (tC (.int 0))) tNil)))) (tLst tNil)) (gName 8))
  (gB K c))
def gC(K:Frag)(c:RCl RK):TS:=
 (tSeq (tIfS (tTest (tOp (cEq K) (tVar 4) (tVar 5))) (tSeq (tAsg (tCall (dR K) [] E0 (tCons (tVar 0) (tCons (tOp cAdd (tVar 7) (tLst (tCons (tVar 3) tNil))) (tCons (tVar 3) tNil)))) (gName 8))
  (tRet (tComp [none,none,some 8] (iList K (tVar 6)) (gName 1) (tTest (tOp (cIn K true) (tVar 1) (tVar 2))) (tLst (tCons (tVar 1) tNil))))) tNext)
  (kT K c))
def jX(K:Frag)(c:RCl RK):TS:=
 (tSeq (tAsg (aF c c.ok "sign" (iE K c) (tVar 1) tNil) (gName 5))
  (tSeq (tAsg (tComp [none,none,some 5,some 2] (iList K (tCall (bC K c) [] E0 (tCons (tVar 1) (tCons (tVar 3) tNil)))) (gName 1) (tB (tCall (ce K) [] E0 (tCons (tOp cIx (tVar 3) (tVar 1)) (tCons (tVar 2) tNil)))) (tVar 1)) (gName 6))
  (tSeq (sComp 7 [none,none,some 5,some 2] (iList K (tCall (bC K c) [] E0 (tCons (tVar 1) (tCons (tVar 3) tNil)))) (gName 1) (tB (tCall (fC K) [] E0 (tCons (tOp cIx (tVar 3) (tVar 1)) (tCons (tVar 2) tNil)))) (tVar 1))
  (gC K c))))
variable{cs:List Int}
theorem ninA{rs:List Int}{st o:Int}(ep:H p=some (.lst (rs.map V.int)))(hx:∀ x,x∈rs↔RC h w cs st x)(q:Q (.bl (!rcB h w cs st o)) H):cIn K true (.int o) (.ref p) H Q:=by
 rw[lc ep,zY (hx o)];exact q
theorem FI{y:Int}(q:∀ a H',Same H H'->H a=none->H' a=some (.lst (([x,y]:List Int).map V.int))->Q (.ref a) H'):([V.int x,V.int y]:List V).length<=sizeLine/\∀ p,H p=none->Q (.ref p) (upd H p (.lst [V.int x,V.int y])):=
 ⟨lnR rfl,fun p hp=>q p _ ((L3 H).laid hp) hp ag⟩
theorem LLp.fin(q:LLp Q H LQ)(s:Same H H1):LLp (fun v H'=>∀ l,v=.ref l->Q (.ref l) H') H1 LQ:=fun l as H' s' hl ha xx l' e=>by cases e;exact q l as H' (s.trans s') (s.free hl) (fun a h=>s.free (ha a h)) xx
variable{z s m:Int}{v2:Option V}
theorem sY {f S T:Addr} {LP thr:List Int} {v1:Option V} (hf:IsFl H f h w g) (F:FlOk h w g) (eS:H S=some (.lst (LP.map V.int))) (eT:H T=some (.lst (thr.map V.int))) (sn:LP.length<=60) (tn:thr.length<=60)
  (q:LLp Q H (if s=m then(LP.filter fun o=>!rcB h w (thr++[z]) z o).map fun o=>[o] else(LP.filter fun o=>!rcB h w thr (LP.getD 0 0) o).map fun o=>[LP.getD 0 0,o])):
  gC K c (eD9 Q) [some (.ref f),v1,v2,some (.int z),some (.int s),some (.int m),some (.ref S),some (.ref T),none] H:=by
 have w0:=F.w0;have w1:=F.w1;unfold gC;rw[aJ,ay];symm;by_cases e:s=m
 . rw[Mp e] at q;rw[LY e];symm;refine⟨lnR rfl,fun l hl=>?_⟩;obtain⟨H1,z9,s1,el⟩:=aS (.lst [V.int z]) hl;rw[z9];refine qU (s1 _ _ eT) el (by simp;omega) fun Y hY=>?_;have s2:Same H1 (upd H1 Y (.lst (thr.map V.int++[V.int z]))):=(L3 H1).laid hY;have eY:(upd H1 Y (.lst (thr.map V.int++[V.int z]))) Y=some (.lst ((thr++[z]).map V.int)):=by rw[ag];simp
   generalize upd H1 Y (.lst (thr.map V.int++[V.int z]))=H2 at*;have s12:=s1.trans s2;symm;refine⟨f,Y,h,w,g,z,_,rfl,s12 _ _ hf,by omega,by omega,eY,by simp;omega,fun p H3 rs s3 hp ep _ hx=>?_⟩;have s13:=s12.trans s3;symm;have eS3:=s13 _ _ eS;refine⟨⟨_,Ml eS3⟩,?_⟩;refine rD (xs:=LP) (fun o=>!rcB h w (thr++[z]) z o) (fun o=>[o]) (by omega) (Ml eS3) ?_ ?_ (q.fin s13)
   . intro y H4 R hy s4 k4;show tTest _ [none,some (.int y),some (.ref p)] H4 R;symm;exact ninA (s4 _ _ ep) hx ⟨_,rfl,k4 _ (L3 _)⟩
   . intro y H4 Q4 hy hb s4 k4;show tLst _ [none,some (.int y),some (.ref p)] H4 Q4;symm;exact sO k4
 . rw[Md e] at q;rw[L0 e];symm;unfold kT
   have fin:∀(p:Addr) (rs:List Int) (H3:Hp),Same H H3->H3 p=some (.lst (rs.map V.int))->(LP≠[]->∀ x,x∈rs↔RC h w thr (LP.getD 0 0) x)->gB K c (eD9 Q) [some (.ref f),v1,v2,some (.int z),some (.int s),some (.int m),some (.ref S),some (.ref T),some (.ref p)] H3:=fun p rs H3 s3 ep hx=>by
    have eS3:=s3 _ _ eS;unfold gB;symm;refine⟨⟨_,Ml eS3⟩,?_⟩;refine rD (xs:=LP) (fun o=>!rcB h w thr (LP.getD 0 0) o) (fun o=>[LP.getD 0 0,o]) (by omega) (Ml eS3) ?_ ?_ (q.fin s3)
    . intro y H4 R hy s4 k4;show tTest _ [none,some (.int y),some (.ref p),some (.ref S)] H4 R;symm;exact ninA (s4 _ _ ep) (hx (List.ne_nil_of_mem hy)) ⟨_,rfl,k4 _ (L3 _)⟩
    . intro y H4 Q4 hy hb s4 k4;have:0<LP.length:=Om hy;show tLst _ [none,some (.int y),some (.ref p),some (.ref S)] H4 Q4;symm;refine ixI (s4 _ _ eS3) (by decide) (by omega) ?_;exact FI k4
   symm;refine⟨aN (by decide),fun O hO=>?_⟩;obtain⟨H1,z9,s1,eO⟩:∃ z,upd H O (.lst [])=z/\Same H z/\z O=some (.lst (([]:List Int).map V.int)):=aS _ hO;rw[z9];refine sI (s1 _ _ eS) eO ?_;by_cases c1:LP=[]
   . rw[LY c1];refine⟨_,rfl,iteF ?_⟩;refine⟨aN (by decide),fun O2 hO2=>?_⟩;exact fin O2 [] _ (s1.trans ((L3 H1).laid hO2)) ag fun h=>absurd c1 h
   . rw[L0 c1];have:0<LP.length:=List.length_pos_iff.mpr c1;refine⟨_,rfl,iteT ?_⟩;refine ixI (s1 _ _ eS) (by decide) (by omega) ?_;rw[show(0:Int).toNat=0 from rfl];refine⟨f,T,h,w,g,_,_,rfl,s1 _ _ hf,by omega,by omega,s1 _ _ eT,by omega,fun p H3 rs s3 hp ep _ hx=>?_⟩;exact fin p rs H3 (s1.trans s3) ep fun _=>hx
theorem xn(h:jW K c vs H Q E):jX K c (eD9 Q) (start ["floor","rule","masks","cell","sign","mark","sure","through","joined"] vs) H:=by
 obtain⟨k,f,r,p,A,ws,cs,LI,n,m,z,s,h,w,g,rfl,hf,F,x,hin,hcs,hA,hm,q⟩:=h;obtain⟨dx,W,C,h1,h2,h3⟩:=x.ex;have ol:(othA cs z).length<=cs.length:=Mh _ _;show jX K c _ [some (.ref f),some (.ref r),some (.ref A),some (.int z),some (.int s),none,none,none,none] H;unfold jX;rw[aJ,bW];refine methE (k:=k) rfl x.ok h1 (by rfl) ?_;symm;refine⟨r,p,ws,cs,n,m,rfl,x,?_⟩;symm;refine⟨k,r,p,ws,cs,n,m,z,rfl,x,hin.1,fun O H1 s1 hO eO=>?_⟩;refine⟨O,rfl,⟨_,Ml eO⟩,?_⟩;refine bf (xs:=othA cs z) (fun o=>decide (woI (LI.getD o.toNat 0) m=0)) (fun o=>o) (by omega) (Ml eO) ?_ ?_ ?_
 . intro y H2 R hy s2 k2;have yi:=hin.2 y (L8.mp hy).1;show tB _ [none,some (.int y),some (.int m),some (.ref A)] H2 R;symm;refine ixI ((s1.trans s2) _ _ hA) yi.1 yi.2 ?_;symm;exact⟨_,m,rfl,by omega,_,rfl,k2 _ (L3 _)⟩
 . intro y H2 Q2 hy hb s2 k2;show tVar 1 [none,some (.int y),some (.int m),some (.ref A)] H2 Q2;symm;exact k2 _ (L3 _)
 . intro S H2 hS s2 eS;rw[Np] at eS;have s12:=s1.trans s2;have x2:=x.same s12;symm;refine⟨k,r,p,ws,cs,n,m,z,rfl,x2,hin.1,fun O2 H3 s3 hO2 eO2=>?_⟩;have s13:=s12.trans s3;refine⟨O2,rfl,⟨_,Ml eO2⟩,?_⟩;refine bf (xs:=othA cs z) (fun o=>stB (LI.getD o.toNat 0) m) (fun o=>o) (by omega) (Ml eO2) ?_ ?_ ?_
   . intro y H4 R hy s4 k4;have yi:=hin.2 y (L8.mp hy).1;show tB _ [none,some (.int y),some (.int m),some (.ref A)] H4 R;symm;refine ixI ((s13.trans s4) _ _ hA) yi.1 yi.2 ?_;symm;exact⟨_,m,rfl,_,rfl,k4 _ (L3 _)⟩
   . intro y H4 Q4 hy hb s4 k4;show tVar 1 [none,some (.int y),some (.int m),some (.ref A)] H4 Q4;symm;exact k4 _ (L3 _)
   . intro T H4 hT s4 eT;rw[Np] at eT;have s14:=s13.trans s4;have l1:=Mh (fun o=>decide (woI (LI.getD o.toNat 0) m=0)) (othA cs z);have l2:=Mh (fun o=>stB (LI.getD o.toNat 0) m) (othA cs z);exact sY (s14 _ _ hf) F ((s3.trans s4) _ _ eS) eT (by omega) (by omega) (q.of s14)
def fewA(cs LI:List Int)(z:Int):List Int:=(srtI (othA cs z)).filter fun o=>decide (((sgL (LI.getD o.toNat 0)).length:Int)<=2)
def paiR(cs few:List Int)(a:Int):List (List Int):=(few.filter fun b=>decide (((cs.findIdx (· ==a):Nat):Int) < ((cs.findIdx (· ==b):Nat):Int))).map fun b=>[a,b]
def paiM(cs LI:List Int)(z:Int):List (List Int):=(fewA cs LI z).flatMap (paiR cs (fewA cs LI z))
def kM(K:Frag)(c:RCl RK):Sp:=fun vs H Q _=>∃(k:RK) (r p A:Addr) (ws:List (List Nat)) (cs LI:List Int) (n m z:Int),vs=[.ref r,.ref A,.int z]/\IsRule H c k r p ws cs n m/\aK cs LI.length/\cs.length<=16/\H A=some (.lst (LI.map V.int))/\(∀ m∈LI,0<=m/\m<64)/\LLp Q H (paiM cs LI z)
def im(K:Frag)(c:RCl RK):TS:=
 (tSeq (tAsg (tLst tNil) (gName 5))
  (tSeq (tFor (iList K (tVar 4)) (gName 6)
  (tDrop (tBM K "list" lC (tVar 5) (tCons (tComp [none,none,some 6,some 3] (iList K (tVar 4)) (gName 1) (tTest (tOp (cCmp fun i j=>decide (i<j)) (tBM K "list" (iM K) (tVar 3) (tCons (tVar 2) tNil)) (tBM K "list" (iM K) (tVar 3) (tCons (tVar 1) tNil)))) (tLst (tCons (tVar 2) (tCons (tVar 1) tNil)))) tNil))))
  (tRet (tVar 5))))
def kN(K:Frag)(c:RCl RK):TS:=
 (tSeq (tAsg (aF c c.ok "spots" (dM K c) (tVar 0) tNil) (gName 3))
  (tSeq (sComp 4 [none,none,some 1] (iList K (tCB d6 (tCons (tCall (bC K c) [] E0 (tCons (tVar 0) (tCons (tVar 2) tNil))) tNil))) (gName 1) (tTest (tOp (cCmp fun i j=>decide (i<=j)) (tCB kLen (tCons (tCall (bu K) [] E0 (tCons (tOp cIx (tVar 2) (tVar 1)) tNil)) tNil)) (tC (.int 2)))) (tVar 1))
  (im K c)))
theorem bitsA(m0:0<=m)(m1:m<64):Builtin.Int.intBits m<=900:=by
 have t:=L4 (L6.mp ux m.toNat (Mb.mpr (by omega)));rw[show((m.toNat:Nat):Int)=m by omega] at t;omega
variable{a:Int}
theorem Ab{few:List Int}:(paiR cs few a).length<=few.length:=by
 unfold paiR;rw[LV];exact Mh _ _
theorem Ac{cs few:List Int}:∀ xs:List Int,(xs.flatMap (paiR cs few)).length<=xs.length*few.length
 | []=>by simp
 | x::r=>by
  have ih:=Ac (cs:=cs) (few:=few) r;have:=Ab (cs:=cs) (few:=few) (a:=x);rw[Pf,Mz,My,Nat.add_mul];omega
theorem uy{S W:Addr}{few:List Int}{v0 v1:Option V}(eS:H S=some (.lst (cs.map V.int)))(eW:H W=some (.lst (few.map V.int)))(cn:cs.length<=16)(fn:few.length<=16)(fi:∀ o∈few,o∈cs)(q:LLp Q H (few.flatMap (paiR cs few))):
  im K c (eD9 Q) [v0,v1,v2,some (.ref S),some (.ref W),none,none] H:=by
 unfold im;symm;refine⟨aN (by decide),fun F hF=>?_⟩;obtain⟨H1,z9,s1,e1⟩:∃ z,upd H F (.lst [])=z/\Same H z/\z F=some (.lst (([]:List Addr).map V.ref)):=aS _ hF;rw[z9];refine⟨⟨_,Ml (s1 _ _ eW)⟩,?_⟩;refine bi (K:=K) (xs:=few.map V.int) (fun i σ H'=>∃(v6:Option V) (as:List Addr),σ=[v0,v1,v2,some (.ref S),some (.ref W),some (.ref F),v6]/\Same H H'/\IsLL H' F as ((few.take i).flatMap (paiR cs few))/\(∀ a∈as,H a=none)/\F∉as) ⟨none,[],rfl,s1,⟨e1,rfl,fun j a xs e _=>by simp at e⟩,(fun a ha=>by cases ha),by simp⟩ (fun i σ H' _ ⟨_,_,_,s,_⟩=>Ml (s _ _ eW)) ?_ ?_
 . rintro i v σ H2 hv ⟨v6,as,rfl,s2,X,fr,nF⟩;obtain⟨a,ha,rfl⟩:=aQ hv;have am:=L5 ha;have hi:i<few.length:=(L1.mp ha).1;have al:=X.len;have fl:=Ac (cs:=cs) (few:=few) (few.take i);rw[Nb] at fl;have fl2:min i few.length*few.length<=16*16:=N6 (by omega) fn;symm;refine⟨bb X.top,⟨_,Ml (s2 _ _ eW)⟩,?_⟩;refine rD (xs:=few) (fun b=>decide (((cs.findIdx (· ==a):Nat):Int) < ((cs.findIdx (· ==b):Nat):Int))) (fun b=>[a,b]) (by omega) (Ml (s2 _ _ eW)) ?_ ?_ ?_
   . intro y H3 R hy s3 k3;have eS3:=(s2.trans s3) _ _ eS;show tTest _ [none,some (.int y),some (.int a),some (.ref S)] H3 R;symm;refine⟨bb eS3,?_⟩;refine jP eS3 (fi a am) (by omega) ?_;symm;refine⟨bb eS3,?_⟩;refine jP eS3 (fi y hy) (by omega) ?_;symm;exact k3 _ (L3 _)
   . intro y H3 Q3 hy hb s3 k3;show tLst _ [none,some (.int y),some (.int a),some (.ref S)] H3 Q3;symm;exact FI k3
   . intro T bs H3 s3 hT hb Y T' e;cases e;have pl:=Ab (cs:=cs) (few:=few) (a:=a);have bl:=Y.len;have Yl:bs.length<=16:=by rw[bl];exact Mi pl fn
     refine E3 (s3 _ _ X.top) Y.top (by rw[LV,LV,al];omega) ?_;have nb:∀ b∈bs,b≠F:=fun b hb' e=>by have:=hb b hb';rw[e,X.top] at this;cases this
     refine⟨_,as++bs,rfl,(s2.trans s3).own hF,⟨by rw[ag,NX],?_,fun j b xs h1 h2=>?_⟩,fun b hb'=>?_,fun hm=>?_⟩
     . rw[M8,ha,NA,Mz,Mz,al,bl];simp[paiR]
     . rw[M8,ha,NA] at h2;have e2:(some a).toList.flatMap (paiR cs few)=paiR cs few a:=by simp
       rw[e2] at h2;by_cases hj:j<as.length
       . rw[MG hj] at h1;rw[MG (by omega)] at h2;have nj:b≠F:=fun e=>nF (by rw[← e];exact L5 h1);rw[ai nj];exact s3 _ _ (X.at_ j b xs h1 h2)
       . rw[MO (by omega)] at h1;rw[MO (by omega),← al] at h2;rw[ai (nb b (L5 h1))];exact Y.at_ _ b xs h1 h2
     . rcases Mj.mp hb' with h | h
       . exact fr b h
       . exact s2.free (hb b h)
     . rcases Mj.mp hm with h | h
       . exact nF h
       . exact nb _ h rfl
 . rintro σ H2 ⟨v6,as,rfl,s2,X,fr,nF⟩;rw[LV,M0] at X;symm;exact q F as H2 s2 hF fr X
theorem yH(h:kM K c vs H Q E):kN K c (eD9 Q) (start ["rule","masks","cell","spots","few","found","first"] vs) H:=by
 obtain⟨k,r,p,A,ws,cs,LI,n,m,z,rfl,x,hin,hc,hA,mm,q⟩:=h;obtain⟨dx,Wd,C,h1,h2,h3⟩:=x.ex;have ol:(othA cs z).length<=cs.length:=Mh _ _;show kN K c _ [some (.ref r),some (.ref A),some (.int z),none,none,none,none] H;unfold kN;symm;refine methE (k:=k) rfl x.ok h1 (by rfl) ?_;symm;refine⟨r,p,ws,cs,n,m,rfl,x,fun S hS=>?_⟩;obtain⟨H1,z9,s1,eS⟩:=aS (.lst (cs.map V.int)) hS;rw[z9];symm;refine⟨k,r,p,ws,cs,n,m,z,rfl,x.same s1,hin.1,fun l H2 s2 hl el=>?_⟩;refine Aa (ns:=othA cs z) el (by omega) fun l2 hl2=>?_;obtain⟨H3,z9,s3,e3⟩:=aS (.lst ((srtI (othA cs z)).map V.int)) hl2;rw[z9];have s13:=(s1.trans s2).trans s3;refine⟨l2,rfl,⟨_,Ml e3⟩,?_⟩;refine bf (xs:=srtI (othA cs z)) (fun o=>decide (((sgL (LI.getD o.toNat 0)).length:Int)<=2)) (fun o=>o) (by rw[sP];omega) (Ml e3) ?_ ?_ ?_
 . intro y H4 R hy s4 k4;have yi:=hin.2 y (L8.mp (srt_mem.mp hy)).1;have ym:LI.getD y.toNat 0∈LI:=by rw[List.getD,LW (by omega)];exact ME _
   show tTest _ [none,some (.int y),some (.ref A)] H4 R;symm;refine ixI ((s13.trans s4) _ _ hA) yi.1 yi.2 ?_;symm;refine⟨_,rfl,bitsA (mm _ ym).1 (mm _ ym).2,fun U H5 s5 hU eU=>?_⟩;symm;rw[bd eU,LV];symm;exact k4 _ s5
 . intro y H4 Q4 hy hb s4 k4;show tVar 1 [none,some (.int y),some (.ref A)] H4 Q4;symm;exact k4 _ (L3 _)
 . intro W H4 hW s4 eW;rw[Np] at eW;have s34:=(s2.trans s3).trans s4;have l1:=Mh (fun o=>decide (((sgL (LI.getD o.toNat 0)).length:Int)<=2)) (srtI (othA cs z));rw[sP] at l1;exact uy (few:=fewA cs LI z) (s34 _ _ eS) eW hc (by unfold fewA;omega) (fun o ho=>(L8.mp (srt_mem.mp (L8.mp ho).1)).1) (q.of (s1.trans s34))
structure Tho where
 t:TK
 r:Int
 z:Int
 s:Int
 ms:List Int
noncomputable def mtF (h w g:Int) (LK:List RR) (LI:List Int) (t:TK) (r z s:Int):List (List Int):=
 if t=.place then plaM g s else if t=.square then squM h w z else if t=.turn then turM h w z else match LK[r.toNat]? with
  | none=>[[]]
  | some x=>if t=.only then onlM x.cs LI z s else if t=.reach then reaM h w x.cs x.m LI z s else if t=.pair then paiM x.cs LI z else [[]]
structure Lk(H:Hp)(c:RCl RK)(d:RCl PzK)(P L G A:Addr)(h w g:Int)(LK:List RR)(cl LI:List Int):Prop where
 P:IsPz H c d P L G h w g LK cl
 A:H A=some (.lst (LI.map V.int))
 n:LI.length=(h*w).toNat
 mm:∀ m∈LI,0<=m/\m<2^g.toNat
variable{H':Hp}{d:RCl PzK}{P L G A:Addr}{LK:List RR}{cl LI:List Int}
theorem Lk.same(x:Lk H c d P L G A h w g LK cl LI)(s:Same H H'):Lk H' c d P L G A h w g LK cl LI:=⟨x.P.same s,s _ _ x.A,x.n,x.mm⟩
theorem gW(g0:1<=g)(g6:g<=6):(2:Int)^g.toNat<=64:=by
 have e:g=1\/g=2\/g=3\/g=4\/g=5\/g=6:=by omega
 rcases e with rfl | rfl | rfl | rfl | rfl | rfl <;> decide
theorem Lk.m64(x:Lk H c d P L G A h w g LK cl LI):∀ m∈LI,0<=m/\m<64:=fun m hm=>by
 have:=gW x.P.R.F.g0 x.P.R.F.g1;have:=x.mm m hm;omega
def jo(K:Frag)(c:RCl RK)(d:RCl PzK):Sp:=fun vs H Q _=>∃(P L G A:Addr) (h w g:Int) (LK:List RR) (cl LI:List Int) (t:TK) (r z s:Int),vs=[.ref P,.ref A,.str (tx (tkC t)),.int r,.int z,.int s]/\Lk H c d P L G A h w g LK cl LI/\formB h w g LK t r z s=true/\LLp Q H (mtF h w g LK LI t r z s)
def fL(K:Frag)(c:RCl RK)(d:RCl PzK):TS:=
 (tSeq (tIfS (tTest (tOp (cEq K) (tVar 2) (tC (.str (tx [111,110,108,121]))))) (tRet (tCall (kI K c) [] E0 (tCons (tOp cIx (aF d d.ok "rules" (cu K c d) (tVar 0) tNil) (tVar 3)) (tCons (tVar 1) (tCons (tVar 4) (tCons (tVar 5) tNil)))))) tNext)
  (tSeq (tIfS (tTest (tOp (cEq K) (tVar 2) (tC (.str (tx [114,101,97,99,104]))))) (tRet (tCall (jW K c) [] E0 (tCons (tVar 6) (tCons (tOp cIx (aF d d.ok "rules" (cu K c d) (tVar 0) tNil) (tVar 3)) (tCons (tVar 1) (tCons (tVar 4) (tCons (tVar 5) tNil))))))) tNext)
  (tSeq (tIfS (tTest (tOp (cEq K) (tVar 2) (tC (.str (tx [112,97,105,114]))))) (tRet (tCall (kM K c) [] E0 (tCons (tOp cIx (aF d d.ok "rules" (cu K c d) (tVar 0) tNil) (tVar 3)) (tCons (tVar 1) (tCons (tVar 4) tNil))))) tNext)
  (tRet (tLst (tCons (tLst tNil) tNil))))))
def jp(K:Frag)(c:RCl RK)(d:RCl PzK):TS:=
 (tSeq (tAsg (aF d d.ok "place" (hX K c d) (tVar 0) tNil) (gName 6))
  (tSeq (tIfS (tTest (tOp (cEq K) (tVar 2) (tC (.str (tx [112,108,97,99,101]))))) (tRet (tCall (jU K) [] E0 (tCons (tVar 6) (tCons (tVar 5) tNil)))) tNext)
  (tSeq (tIfS (tTest (tOp (cEq K) (tVar 2) (tC (.str (tx [115,113,117,97,114,101]))))) (tRet (tCall (jm K) [] E0 (tCons (tVar 6) (tCons (tVar 4) tNil)))) tNext)
  (tSeq (tIfS (tTest (tOp (cEq K) (tVar 2) (tC (.str (tx [116,117,114,110]))))) (tRet (tCall (kK K) [] E0 (tCons (tVar 6) (tCons (tVar 4) tNil)))) tNext)
  (fL K c d)))))
variable{t:TK}{r:Int}
theorem A4(X:Lk H c d P L G A h w g LK cl LI)(hp:IsFl H p h w g)(f:formB h w g LK t r z s=true)(n1:t≠.place)(n2:t≠.square)(n3:t≠.turn)(q:LLp Q H (mtF h w g LK LI t r z s)):
  fL K c d (eD9 Q) [some (.ref P),some (.ref A),some (.str (tx (tkC t))),some (.int r),some (.int z),some (.int s),some (.ref p)] H:=by
 obtain⟨dx,p0,rs,h1,h2,h3⟩:=X.P.ex;obtain⟨z0,z1,s0,s1',LU⟩:=bD f;have hg:=X.P.R.F.g1;unfold mtF at q;rw[Md n1,Md n2,Md n3] at q
 have row:t≠.clue->∃ y,0<=r/\LK[r.toNat]? =some y/\goesB t y.k=true:=fun hc=>by
  obtain⟨r0,y,ey,hgo,hz⟩:=dC hc LU;exact⟨y,r0,ey,hgo⟩
 unfold fL;rw[aJ,ay];symm;rw[bg,By];by_cases e1:t=.only
 . subst e1;obtain⟨y,r0,ey,hgo⟩:=row (by decide);have O:=X.P.R.ok y (L5 ey);have hin:aK y.cs LI.length:=by rw[X.n];exact OH O X.P.R.F
   rw[ey] at q;rw[LY rfl];refine iteT ?_;refine methE (k:=.Puzzle) rfl X.P.ok h1 (by rfl) ?_;symm;refine⟨P,L,G,h,w,g,LK,cl,rfl,X.P,fun l p2 rs2 hl hp2 Y=>?_⟩;have s2:Same H (upd H l (.lst (rs2.map V.ref))):=(L3 H).laid hl;generalize upd H l (.lst (rs2.map V.ref))=H1 at*;have hlt:=(L1.mp ey).1;have LS:=Y.len;have ea:rs2[r.toNat]? =some rs2[r.toNat]:=LW (by omega);dsimp only;refine ixL Y.top (dJ r0 ea) ?_;symm;exact⟨_,_,p2,A,_,y.cs,LI,_,_,z,s,rfl,Y.at_ _ _ _ ea ey,hin,s2 _ _ X.A,by omega,q.of s2⟩
 . rw[L0 e1];refine iteF ?_;rw[ay];symm;rw[bg,uw];by_cases e2:t=.reach
   . subst e2;obtain⟨y,r0,ey,hgo⟩:=row (by decide);have O:=X.P.R.ok y (L5 ey);have ym:=(O.m0 (mP hgo)).2;have hin:aK y.cs LI.length:=by rw[X.n];exact OH O X.P.R.F
     rw[ey] at q;rw[LY rfl];refine iteT ?_;refine methE (k:=.Puzzle) rfl X.P.ok h1 (by rfl) ?_;symm;refine⟨P,L,G,h,w,g,LK,cl,rfl,X.P,fun l p2 rs2 hl hp2 Y=>?_⟩;have s2:Same H (upd H l (.lst (rs2.map V.ref))):=(L3 H).laid hl;generalize upd H l (.lst (rs2.map V.ref))=H1 at*;have hlt:=(L1.mp ey).1;have LS:=Y.len;have ea:rs2[r.toNat]? =some rs2[r.toNat]:=LW (by omega);dsimp only;refine ixL Y.top (dJ r0 ea) ?_;symm;exact⟨_,p,_,p2,A,_,y.cs,LI,_,_,z,s,h,w,g,rfl,s2 _ _ hp,X.P.R.F,Y.at_ _ _ _ ea ey,hin,RR.len26 O X.P.R.F,s2 _ _ X.A,by omega,q.of s2⟩
   . rw[L0 e2];refine iteF ?_;symm;rw[ay];symm;rw[bg,Gs];by_cases e3:t=.pair
     . subst e3;obtain⟨y,r0,ey,hgo⟩:=row (by decide);have O:=X.P.R.ok y (L5 ey);have hin:aK y.cs LI.length:=by rw[X.n];exact OH O X.P.R.F
       have yk:allK y.k=false:=by revert hgo;cases y.k <;> intro hgo <;> first | rfl | (cases hgo;done)
       have y16:y.cs.length<=16:=by
        obtain⟨_,c2,_,_,e⟩:=O.cl.told yk;rw[e,LV];exact c2
       rw[ey] at q;rw[LY rfl];refine iteT ?_;refine methE (k:=.Puzzle) rfl X.P.ok h1 (by rfl) ?_;symm;refine⟨P,L,G,h,w,g,LK,cl,rfl,X.P,fun l p2 rs2 hl hp2 Y=>?_⟩;have s2:Same H (upd H l (.lst (rs2.map V.ref))):=(L3 H).laid hl;generalize upd H l (.lst (rs2.map V.ref))=H1 at*;have hlt:=(L1.mp ey).1;have LS:=Y.len;have ea:rs2[r.toNat]? =some rs2[r.toNat]:=LW (by omega);dsimp only;refine ixL Y.top (dJ r0 ea) ?_;symm;exact⟨_,_,p2,A,_,y.cs,LI,_,_,z,rfl,Y.at_ _ _ _ ea ey,hin,y16,s2 _ _ X.A,X.m64,q.of s2⟩
     . rw[L0 e3]
       have q':LLp Q H [[]]:=by
        cases ey:LK[r.toNat]? with
        | none=>rw[ey] at q;exact q
        | some y=>
         rw[ey] at q;dsimp only at q;rw[Md e1,Md e2,Md e3] at q;exact q
       refine iteF ?_;symm;refine⟨aN (by decide),fun a ha=>?_⟩;obtain⟨H1,z9,s1,e1⟩:∃ z,upd H a (.lst [])=z/\Same H z/\z a=some (.lst (([]:List Int).map V.int)):=aS _ ha;rw[z9];refine⟨lnR rfl,fun l hl=>?_⟩;have s2:Same H1 (upd H1 l (.lst [V.ref a])):=(L3 H1).laid hl;refine q' l [a] _ (s1.trans s2) (s1.free hl) (fun b hb=>by rw[Ma.mp hb];exact ha) ⟨ag,rfl,fun j b xs h1 h2=>?_⟩
       cases j with
       | zero=>cases h1;cases h2;exact s2 _ _ e1
       | succ j=>simp at h1
theorem vM(h:jo K c d vs H Q E):jp K c d (eD9 Q) (start ["puzzle","masks","kind","number","cell","sign","floor"] vs) H:=by
 obtain⟨P,L,G,A,h,w,g,LK,cl,LI,t,r,z,s,rfl,X,f,q⟩:=h;obtain⟨dx,p0,rs,h1,h2,h3⟩:=X.P.ex;show jp K c d _ [some (.ref P),some (.ref A),some (.str (tx (tkC t))),some (.int r),some (.int z),some (.int s),none] H;unfold jp;symm;refine methE (k:=.Puzzle) rfl X.P.ok h1 (by rfl) ?_;symm;refine⟨P,L,G,h,w,g,LK,cl,rfl,X.P,fun p hp=>?_⟩;symm;rw[ay];symm;rw[bg,zQ];by_cases e1:t=.place
 . subst e1;rw[LY rfl];unfold mtF at q;rw[Mp rfl] at q;symm;exact⟨p,h,w,g,s,rfl,hp,X.P.R.F.g0,X.P.R.F.g1,q⟩
 . rw[L0 e1];symm;rw[ay];symm;rw[bg,xU];by_cases e2:t=.square
   . subst e2;rw[LY rfl];unfold mtF at q;rw[Md (by decide),Mp rfl] at q;symm;exact⟨p,h,w,g,z,rfl,hp,X.P.R.F,q⟩
   . rw[L0 e2];symm;rw[ay];symm;rw[bg,Gu];by_cases e3:t=.turn
     . subst e3;rw[LY rfl];unfold mtF at q;rw[Md (by decide),Md (by decide),Mp rfl] at q;symm;exact⟨p,h,w,g,z,rfl,hp,X.P.R.F,q⟩
     . rw[L0 e3];symm;exact A4 X hp f e1 e2 e3 q
theorem HC:∀ ms∈mtF h w g LK LI t r z s,ms.length<=2:=fun ms hm=>by
 unfold mtF at hm
 split at hm
 . unfold plaM at hm;obtain⟨_,_,rfl⟩:=Mg.mp hm;simp
 . split at hm
   . unfold squM at hm;obtain⟨_,_,rfl⟩:=Mg.mp hm;simp
   . split at hm
     . unfold turM at hm;rcases Mn.mp hm with rfl | hm
       . simp
       . obtain⟨_,_,rfl⟩:=Mg.mp hm;simp
     . split at hm
       . rw[Ma.mp hm];simp
       . split at hm
         . unfold onlM at hm;obtain⟨_,_,rfl⟩:=Mg.mp hm;simp
         . split at hm
           . unfold reaM at hm
             split at hm <;> (obtain⟨_,_,rfl⟩:=Mg.mp hm;simp)
           . split at hm
             . unfold paiM at hm;obtain⟨a,_,hm⟩:=NU.mp hm;unfold paiR at hm;obtain⟨_,_,rfl⟩:=Mg.mp hm;simp
             . rw[Ma.mp hm];simp
noncomputable def faF (h w g:Int) (LK:List RR) (cl LI:List Int) (t:TK) (r z s:Int):Option (List Int):=(mtF h w g LK LI t r z s).find? fun ms=>strA h w g LK cl LI t r z s ms
def oq(K:Frag)(c:RCl RK)(d:RCl PzK):Sp:=fun vs H Q _=>∃(P L G A:Addr) (h w g:Int) (LK:List RR) (cl LI:List Int) (t:TK) (r z s:Int),vs=[.ref P,.ref A,.str (tx (tkC t)),.int r,.int z,.int s]/\Lk H c d P L G A h w g LK cl LI/\formB h w g LK t r z s=true/\
 (faF h w g LK cl LI t r z s=none->∀ H',Same H H'->Q .non H')/\(∀(ms:List Int) (T M:Addr) (H':Hp),faF h w g LK cl LI t r z s=some ms->Same H H'->H T=none->H M=none->IsTh H' T M t r z s ms->Q (.ref T) H')
def or(K:Frag)(c:RCl RK)(d:RCl PzK):TS:=
 (tSeq (tFor (iList K (tCall (jo K c d) [] E0 (tCons (tVar 0) (tCons (tVar 1) (tCons (tVar 2) (tCons (tVar 3) (tCons (tVar 4) (tCons (tVar 5) tNil)))))))) (gName 6)
  (tSeq (tAsg (tTup (tCons (tVar 2) (tCons (tVar 3) (tCons (tVar 4) (tCons (tVar 5) (tCons (tVar 6) tNil)))))) (gName 7))
  (tIfS (tB (tCall (kf K c d) [] E0 (tCons (tVar 0) (tCons (tVar 1) (tCons (tVar 7) tNil))))) (tRet (tVar 7)) tNext)))
  (tRet (tC .non)))
theorem A5(h:oq K c d vs H Q E):or K c d (eD9 Q) (start ["puzzle","masks","kind","number","cell","sign","more","thought"] vs) H:=by
 obtain⟨P,L,G,A,h,w,g,LK,cl,LI,t,r,z,s,rfl,X,f,q1,q2⟩:=h;show or K c d _ [some (.ref P),some (.ref A),some (.str (tx (tkC t))),some (.int r),some (.int z),some (.int s),none,none] H;unfold or;symm;refine⟨P,L,G,A,h,w,g,LK,cl,LI,t,r,z,s,rfl,X,f,fun l as H1 s1 hl fr Y=>?_⟩;have al:=Y.len;have ml:=HC (h:=h) (w:=w) (g:=g) (LK:=LK) (LI:=LI) (t:=t) (r:=r) (z:=z) (s:=s);unfold faF at q1 q2;generalize mtF h w g LK LI t r z s=LQ at*;refine⟨l,rfl,⟨_,Ml Y.top⟩,?_⟩;refine bi (K:=K) (xs:=as.map V.ref) (fun i σ H'=>∃(v6 v7:Option V),σ=[some (.ref P),some (.ref A),some (.str (tx (tkC t))),some (.int r),some (.int z),some (.int s),v6,v7]/\Same H1 H'/\∀ ms∈LQ.take i,strA h w g LK cl LI t r z s ms=false) ⟨none,none,rfl,L3 H1,fun ms hm=>by cases hm⟩ (fun i σ H' _ ⟨_,_,_,s,_⟩=>Ml (s _ _ Y.top)) ?_ ?_
 . rintro i v σ H2 hv ⟨v6,v7,rfl,s2,hno⟩;obtain⟨b,hb,rfl⟩:=br hv;have hi:i<as.length:=(L1.mp hb).1;have ex:LQ[i]? =some LQ[i]:=LW (by omega);have ebm:=s2 _ _ (Y.at_ i b _ hb ex);have xl:=ml _ (ME (show i<LQ.length by omega));have et:LQ.take (i+1)=LQ.take i++[LQ[i]]:=by rw[M8,ex];rfl
   have hfind:strA h w g LK cl LI t r z s LQ[i]=true->LQ.find? (fun ms=>strA h w g LK cl LI t r z s ms)=some LQ[i]:=fun ht=>by
    rw[Oz];refine⟨ht,i,by omega,rfl,fun j hj=>?_⟩;have:=hno LQ[j] (by rw[List.mem_take_iff_getElem];exact⟨j,by omega,rfl⟩);rw[this];rfl
   generalize LQ[i]=ms at*;have frb:=fr b (L5 hb);symm;refine⟨lnR rfl,fun T hT=>?_⟩;have s3:Same H2 (upd H2 T (.tup [V.str (tx (tkC t)),V.int r,V.int z,V.int s,V.ref b])):=(L3 H2).laid hT;have Th:IsTh (upd H2 T (.tup [V.str (tx (tkC t)),V.int r,V.int z,V.int s,V.ref b])) T b t r z s ms:=⟨ag,s3 _ _ ebm,by omega⟩;generalize upd H2 T (.tup [V.str (tx (tkC t)),V.int r,V.int z,V.int s,V.ref b])=H3 at*;have s12:=s1.trans s2;have s13:=s12.trans s3;have X3:=X.same s13;rw[ay];symm;refine⟨P,L,G,A,T,b,h,w,g,LK,cl,LI,t,r,z,s,ms,rfl,⟨X3.P,Th,X3.A,X.n⟩,X.m64,f,fun H4 s4=>?_⟩
   cases hb2:strA h w g LK cl LI t r z s ms with
   | true=>
    refine⟨true,rfl,iteT ?_⟩;symm;exact q2 ms T b H4 (hfind hb2) (s13.trans s4) (s12.free hT) frb (Th.same s4)
   | false=>
    refine⟨false,rfl,iteF ?_⟩;refine⟨_,_,rfl,(s2.trans s3).trans s4,fun y hy=>?_⟩;rw[et] at hy;rcases Mj.mp hy with hy | hy
    . exact hno y hy
    . rw[Ma.mp hy];exact hb2
 . rintro σ H2 ⟨v6,v7,rfl,s2,hno⟩;rw[LV,al,M0] at hno;symm;exact q1 (O9.mpr fun ms hm=>by rw[hno ms hm];exact L7) H2 (s1.trans s2)
def rnF(LK:List RR)(t:TK):List Int:=if t=.clue then [0] else((List.range LK.length).filter fun i=>goesB t ((LK[i]?.map RR.k).getD .Rule)).map fun(i:Nat)=>(i:Int)
def jq(K:Frag)(c:RCl RK)(d:RCl PzK):Sp:=fun vs H Q _=>∃(P L G:Addr) (h w g:Int) (LK:List RR) (cl:List Int) (t:TK),vs=[.ref P,.str (tx (tkC t))]/\IsPz H c d P L G h w g LK cl/\∀ l H',Same H H'->H l=none->H' l=some (.lst ((rnF LK t).map V.int))->Q (.ref l) H'
def jr(K:Frag)(c:RCl RK)(d:RCl PzK):TS:=
 (tSeq (tIfS (tTest (tOp (cEq K) (tVar 1) (tC (.str (tx [99,108,117,101]))))) (tRet (tLst (tCons (tC (.int 0)) tNil))) tNext)
  (tRet (tComp [none,none,none,some 1] (iEnum K (tCons (aF d d.ok "rules" (cu K c d) (tVar 0) tNil) tNil)) (gTup K 2 (gCons (gName 1) (gCons (gName 2) gNil))) (tB (tCall (lw K c) [] E0 (tCons (tVar 3) (tCons (tVar 2) tNil)))) (tVar 1))))
theorem vN(h:jq K c d vs H Q E):jr K c d (eD9 Q) (start ["puzzle","kind"] vs) H:=by
 obtain⟨P,L,G,h,w,g,LK,cl,t,rfl,X,q⟩:=h;obtain⟨dx,p0,rs,h1,h2,h3⟩:=X.ex;have rn:=X.R.n;show jr K c d _ [some (.ref P),some (.str (tx (tkC t)))] H;unfold jr;rw[aJ,ay];symm;rw[bg,sM];unfold rnF at q;by_cases hc:t=.clue
 . rw[Mp hc] at q;rw[LY hc];symm;exact⟨lnR rfl,fun l hl=>q l _ ((L3 H).laid hl) hl ag⟩
 . rw[Md hc] at q;rw[L0 hc];symm
   first
   | refine methE (k:=.Puzzle) rfl X.ok h1 (by rfl) ?_
   | (rw[aF];symm;refine methE (k:=.Puzzle) rfl X.ok h1 (by rfl) ?_)
   symm;refine⟨P,L,G,h,w,g,LK,cl,rfl,X,fun l p2 rs2 hl hp2 Y=>?_⟩;have s2:Same H (upd H l (.lst (rs2.map V.ref))):=(L3 H).laid hl;generalize upd H l (.lst (rs2.map V.ref))=H1 at*;have LS:=Y.len;symm;refine⟨l,rfl,⟨_,Ml Y.top⟩,?_⟩;refine pJ (xs:=rs2.map V.ref) (fun i=>goesB t ((LK[i]?.map RR.k).getD .Rule)) (fun i=>.int (i:Int)) (by rw[LV];omega) (by decide) (Ml Y.top) ?_ ?_ ?_
   . intro i x H2 R hx s3 k3;obtain⟨b,hb,rfl⟩:=br hx;have hi:i<rs2.length:=(L1.mp hb).1;have er:LK[i]? =some LK[i]:=LW (by omega);have zz:=(Y.at_ i b _ hb er).same s3;rw[er] at k3;show tB _ [none,some (.int (i:Int)),some (.ref b),some (.str (tx (tkC t)))] H2 R;symm;exact⟨t,LK[i].k,b,p2,_,_,_,_,rfl,hc,zz,_,rfl,k3 _ (L3 _)⟩
   . intro i x H2 Q2 hx hb s3 k3;obtain⟨b,hb,rfl⟩:=br hx;show tVar 1 [none,some (.int (i:Int)),some (.ref b),some (.str (tx (tkC t)))] H2 Q2;symm;exact k3 _ (L3 _)
   . intro T H2 hT s3 eT;rw[LV,LS] at eT;refine q T H2 (s2.trans s3) (s2.free hT) ?_;rw[eT,MH];rfl
def celF(h w:Int)(LK:List RR)(t:TK)(r:Int):List Int:=if t=.clue then rngL 0 (h*w) else match LK[r.toNat]? with
 | none=>[]
 | some x=>srtI x.cs
def js(K:Frag)(c:RCl RK)(d:RCl PzK):Sp:=fun vs H Q _=>∃(P L G:Addr) (h w g:Int) (LK:List RR) (cl:List Int) (t:TK) (r:Int),vs=[.ref P,.str (tx (tkC t)),.int r]/\IsPz H c d P L G h w g LK cl/\(t≠.clue->0<=r/\r<LK.length)/\∀ l H',Same H H'->H l=none->H' l=some (.lst ((celF h w LK t r).map V.int))->Q (.ref l) H'
def jt(K:Frag)(c:RCl RK)(d:RCl PzK):TS:=
 (tSeq (tIfS (tTest (tOp (cEq K) (tVar 1) (tC (.str (tx [99,108,117,101]))))) (tRet (kj (tCons (tCall (bM K) [] E0 (tCons (aF d d.ok "place" (hX K c d) (tVar 0) tNil) tNil)) tNil))) tNext)
  (tRet (tCB d6 (tCons (aF c c.ok "spots" (dM K c) (tOp cIx (aF d d.ok "rules" (cu K c d) (tVar 0) tNil) (tVar 2)) tNil) tNil))))
theorem vO(h:js K c d vs H Q E):jt K c d (eD9 Q) (start ["puzzle","kind","number"] vs) H:=by
 obtain⟨P,L,G,h,w,g,LK,cl,t,r,rfl,X,hr,q⟩:=h;obtain⟨dx,p0,rs,h1,h2,h3⟩:=X.ex;have F:=X.R.F;have m16:=F.m;have mpos:0<=h*w:=NJ (by have:=F.h0;omega) (by have:=F.w0;omega);show jt K c d _ [some (.ref P),some (.str (tx (tkC t))),some (.int r)] H;unfold jt;rw[aJ,ay];symm;rw[bg,sM];unfold celF at q;by_cases hc:t=.clue
 . rw[Mp hc] at q;rw[LY hc];symm;refine methE (k:=.Puzzle) rfl X.ok h1 (by rfl) ?_;symm;refine⟨P,L,G,h,w,g,LK,cl,rfl,X,fun p hp=>?_⟩;symm;refine⟨p,h,w,g,rfl,hp,F.h0,F.h1,?_⟩;exact⟨h*w,rfl,by omega,by omega,fun l hl=>q l _ ((L3 H).laid hl) hl ag⟩
 . obtain⟨r0,r1⟩:=hr hc;have ey:LK[r.toNat]? =some LK[r.toNat]:=LW (by omega);rw[Md hc,ey] at q;have O:=X.R.ok _ (L5 ey);have yl:=RR.len26 O F;rw[L0 hc];symm
   first
   | refine methE (k:=.Puzzle) rfl X.ok h1 (by rfl) ?_
   | (rw[aF];symm;refine methE (k:=.Puzzle) rfl X.ok h1 (by rfl) ?_)
   symm;refine⟨P,L,G,h,w,g,LK,cl,rfl,X,fun l p2 rs2 hl hp2 Y=>?_⟩;have s2:Same H (upd H l (.lst (rs2.map V.ref))):=(L3 H).laid hl;generalize upd H l (.lst (rs2.map V.ref))=H1 at*;have LS:=Y.len;have ea:rs2[r.toNat]? =some rs2[r.toNat]:=LW (by omega);have y:=Y.at_ _ _ _ ea ey;generalize rs2[r.toNat]=b at*;obtain⟨dy,Wy,Cy,y1,y2,y3⟩:=y.ex;dsimp only;refine ixL Y.top (dJ r0 ea) ?_;refine⟨b,LK[r.toNat].k,dy,_,rfl,y.ok,y1,by rfl,?_⟩;symm;refine⟨b,p2,_,_,_,_,rfl,y,fun l2 hl2=>?_⟩;obtain⟨H2,z9,s3,e3⟩:=aS (.lst (LK[r.toNat].cs.map V.int)) hl2;rw[z9];refine Aa e3 (by omega) fun l3 hl3=>?_;have s4:=(s2.trans s3).trans ((L3 H2).laid (o:=.lst ((srtI LK[r.toNat].cs).map V.int)) hl3);exact q l3 _ s4 ((s2.trans s3).free hl3) ag
structure IsBk(H:Hp)(l:Addr)(bs Ms:List Addr)(LR:List Tho):Prop where
 top:H l=some (.lst (bs.map V.ref))
 len:bs.length=LR.length
 lnM:Ms.length=LR.length
 nl:l∉Ms
 at_:∀(i:Nat) (b M:Addr) (th:Tho),bs[i]? =some b->Ms[i]? =some M->LR[i]? =some th->IsTh H b M th.t th.r th.z th.s th.ms
variable{l:Addr}{Ms:List Addr}{LR:List Tho}
theorem IsBk.same{bs:List Addr}(x:IsBk H l bs Ms LR)(s:Same H H'):IsBk H' l bs Ms LR:=⟨s _ _ x.top,x.len,x.lnM,x.nl,fun i b M th h1 h2 h3=>(x.at_ i b M th h1 h2 h3).same s⟩
theorem IsBk.nil(h:H l=some (.lst [])):IsBk H l [] [] []:=⟨h,rfl,rfl,by simp,fun i b M th e _ _=>by simp at e⟩
theorem IsBk.app{T M:Addr}{bs:List Addr}{th:Tho}(x:IsBk H l bs Ms LR)(s:Same H H')(y:IsTh H' T M th.t th.r th.z th.s th.ms)(hM:M≠l):IsBk (upd H' l (.lst (bs.map V.ref++[V.ref T]))) l (bs++[T]) (Ms++[M]) (LR++[th]):=by
 have e:=s _ _ x.top;have up:∀{b N:Addr} {t:Tho},IsTh H' b N t.t t.r t.z t.s t.ms->N≠l->IsTh (upd H' l (.lst (bs.map V.ref++[V.ref T]))) b N t.t t.r t.z t.s t.ms:=fun z hn=>⟨by rw[ai (fun e'=>by have:=z.T;rw[e',e] at this;cases this)];exact z.T,by rw[ai hn];exact z.M,z.n⟩;have l1:=x.len;have l2:=x.lnM;refine⟨by rw[ag];simp,by simp[l1],by simp[l2],fun hm=>?_,fun i b N t h1 h2 h3=>?_⟩
 . rcases Mj.mp hm with hm | hm
   . exact x.nl hm
   . exact hM (Ma.mp hm).symm
 . by_cases hi:i<LR.length
   . rw[MG (by omega)] at h1;rw[MG (by omega)] at h2;rw[MG hi] at h3;exact up ((x.at_ i b N t h1 h2 h3).same s) fun e'=>x.nl (by rw[← e'];exact L5 h2)
   . rw[MO (by omega)] at h1 h2 h3;have i0:i-LR.length=0:=by have:=(L1.mp h3).1;simp at this;omega
     rw[i0] at h3;rw[show i-bs.length=0 by omega] at h1;rw[show i-Ms.length=0 by omega] at h2;cases h1;cases h2;cases h3;exact up y hM
def BkP(Q:VK)(H:Hp)(LR:List Tho):Prop:=∀(l:Addr) (bs Ms:List Addr) (H':Hp),Same H H'->H l=none->(∀ b∈bs,H b=none)->(∀ M∈Ms,H M=none)->IsBk H' l bs Ms LR->Q (.ref l) H'
theorem BkP.of(q:BkP Q H LR)(s:Same H H1):BkP Q H1 LR:=fun l bs Ms H' s' hl hb hM x=>q l bs Ms H' (s.trans s') (s.free hl) (fun b h=>s.free (hb b h)) (fun b h=>s.free (hM b h)) x
structure MkP(g:Int)(n:Nat)(ms:List Int):Prop where
 len:ms.length=n
 mm:∀ m∈ms,0<=m/\m<2^g.toNat
theorem Gv:((List.range 64).all fun m=>(List.range 6).all fun s=>decide (0<=woI (m:Int) (1+(s:Int))/\woI (m:Int) (1+(s:Int))<=m)&&((List.range 6).all fun x=>decide (x=s)||decide (stB (woI (m:Int) (1+(s:Int))) (1+(x:Int))=stB (m:Int) (1+(x:Int))))&&(!stB (m:Int) (1+(s:Int))||decide ((sgL (woI (m:Int) (1+(s:Int)))).length+1=(sgL (m:Int)).length)))=true:=by decide+kernel
theorem rE(m0:0<=m)(m1:m<64)(s0:1<=s)(s6:s<=6):(0<=woI m s/\woI m s<=m)/\(∀ x,1<=x->x<=6->x≠s->stB (woI m s) x=stB m x)/\(stB m s=true->(sgL (woI m s)).length+1=(sgL m).length):=by
 have t:=L6.mp (L6.mp Gv m.toNat (Mb.mpr (by omega))) (s-1).toNat (Mb.mpr (by omega));rw[show((m.toNat:Nat):Int)=m by omega,show 1+(((s-1).toNat:Nat):Int)=s by omega,LZ,LZ] at t;refine⟨L4 t.1.1,fun x x0 x6 ne=>?_,fun hs=>?_⟩
 . have:=L6.mp t.1.2 (x-1).toNat (Mb.mpr (by omega));rw[show 1+(((x-1).toNat:Nat):Int)=x by omega,L0 (by omega),Nc] at this;exact L4 this
 . have:=t.2;rw[hs,NG,Nc] at this;exact L4 this
theorem Gw:((List.range 7).all fun g=>(List.range 64).all fun m=>!decide ((m:Int)<2^g)||(sgL (m:Int)).all fun x=>decide (1<=x/\x<=(g:Int)))=true:=by decide+kernel
theorem oG(g0:1<=g)(g6:g<=6)(m0:0<=m)(m1:m<2^g.toNat)(hx:x∈sgL m):1<=x/\x<=g:=by
 have p:=gW g0 g6;have t:=L6.mp (L6.mp Gw g.toNat (Mb.mpr (by omega))) m.toNat (Mb.mpr (by omega));rw[show((m.toNat:Nat):Int)=m by omega,LY m1,NG,Nc] at t;have:=L4 (L6.mp t x hx);omega
variable{ms:List Int}
theorem vP{k:Nat}(hk:k<ms.length):(stL ms z s).getD k 0=if (k:Int)=z then woI (ms.getD k 0) s else ms.getD k 0:=by
 unfold stL;rw[List.getD,L9,Nf hk];rfl
theorem xo:(stL ms z s).length=ms.length:=by unfold stL;rw[LV,MR]
theorem bv{k:Nat}(hk:k<ms.length):ms.getD k 0∈ms:=by rw[List.getD,LW hk];exact ME _
variable{n:Nat}
theorem MkP.stL(X:MkP g n ms)(g0:1<=g)(g6:g<=6)(s0:1<=s)(s6:s<=6):MkP g n (stL ms z s):=by
 have p:=gW g0 g6;refine⟨by rw[xo];exact X.len,fun m hm=>?_⟩;unfold L2.stL at hm;obtain⟨i,hi,rfl⟩:=Mg.mp hm;have b:=X.mm _ (bv (Mb.mp hi))
 split
 . have:=(rE (s:=s) b.1 (by omega) s0 s6).1;omega
 . exact b
theorem Lk.mkp(x:Lk H c d P L G A h w g LK cl LI):MkP g (h*w).toNat LI:=⟨x.n,x.mm⟩
def RuOk(LK:List RR)(t:TK)(r:Int):Prop:=(t=.clue->r=0)/\(t≠.clue->0<=r/\∃ x,LK[r.toNat]? =some x/\goesB t x.k=true)
theorem FJ(h:r∈rnF LK t):RuOk LK t r:=by
 unfold rnF at h;by_cases hc:t=.clue
 . rw[Mp hc] at h;exact⟨fun _=>Ma.mp h,fun n=>absurd hc n⟩
 . rw[Md hc] at h;obtain⟨i,hi,rfl⟩:=Mg.mp h;obtain⟨hi,hg⟩:=L8.mp hi;have hl:=Mb.mp hi;have e:LK[i]? =some LK[i]:=LW hl;refine⟨fun n=>absurd n hc,fun _=>⟨by omega,LK[i],by rw[NN];exact e,?_⟩⟩;rw[e] at hg;exact hg
theorem Ad(R:bB c h w g LK)(ok:RuOk LK t r)(hz:z∈celF h w LK t r)(s0:1<=s)(s1:s<=g):formB h w g LK t r z s=true:=by
 have inn:(0<=z/\z<h*w)/\hitB t LK r z=true:=by
  unfold celF at hz;unfold hitB;by_cases hc:t=.clue
  . rw[Mp hc] at hz;rw[ok.1 hc,Md (by decide),Mp hc];exact⟨xf hz,rfl⟩
  . obtain⟨r0,x,ex,hg⟩:=ok.2 hc;rw[Md hc,ex] at hz;have hz':=srt_mem.mp hz;have ci:=(OH (R.ok x (L5 ex)) R.F).2 z hz';rw[Md (by omega),Md hc,ex];refine⟨by omega,?_⟩;dsimp only;rw[hg,LY hz'];rfl
 unfold formB;rw[LY inn.1.1,LY inn.1.2,LY s0,LY s1,inn.2];rfl
noncomputable def fbS (h w g:Int) (LK:List RR) (cl:List Int) (t:TK) (r z:Int) (nb:List Int × List Tho) (s:Int):List Int × List Tho:=match faF h w g LK cl nb.1 t r z s with
 | none=>nb
 | some ms=>(stL nb.1 z s,nb.2++[⟨t,r,z,s,ms⟩])
noncomputable def fbC (h w g:Int) (LK:List RR) (cl:List Int) (t:TK) (r:Int) (nb:List Int × List Tho) (z:Int):List Int × List Tho:=(sgL (nb.1.getD z.toNat 0)).foldl (fbS h w g LK cl t r z) nb
noncomputable def fbL (h w g:Int) (LK:List RR) (cl:List Int) (t:TK) (r:Int):List Int->List Int × List Tho->List Tho
 | [],nb=>nb.2
 | z::zs,nb=>if 0∈(fbC h w g LK cl t r nb z).1 then(fbC h w g LK cl t r nb z).2 else fbL h w g LK cl t r zs (fbC h w g LK cl t r nb z)
noncomputable def fbF (h w g:Int) (LK:List RR) (cl LI:List Int) (t:TK) (r:Int):List Tho:=fbL h w g LK cl t r (celF h w LK t r) (LI,[])
variable{nb:List Int × List Tho}
theorem HD(X:MkP g n nb.1)(g0:1<=g)(g6:g<=6)(s0:1<=s)(s6:s<=6):MkP g n (fbS h w g LK cl t r z nb s).1:=by
 unfold fbS
 split
 . exact X
 . exact X.stL g0 g6 s0 s6
def io(K:Frag)(c:RCl RK)(d:RCl PzK):Sp:=fun vs H Q _=>∃(P L G A:Addr) (h w g:Int) (LK:List RR) (cl LI:List Int) (t:TK) (r:Int),vs=[.ref P,.ref A,.str (tx (tkC t)),.int r]/\Lk H c d P L G A h w g LK cl LI/\RuOk LK t r/\BkP Q H (fbF h w g LK cl LI t r)
def fbin(K:Frag)(c:RCl RK)(d:RCl PzK):TS:=
 (tFor (iList K (tCall (bu K) [] E0 (tCons (tOp cIx (tVar 4) (tVar 6)) tNil))) (gName 7)
  (tSeq (tAsg (tCall (oq K c d) [] E0 (tCons (tVar 0) (tCons (tVar 4) (tCons (tVar 2) (tCons (tVar 3) (tCons (tVar 6) (tCons (tVar 7) tNil))))))) (gName 8))
  (tIfS (tTest (tOp rNotN (tVar 8) (tC .non))) (tSeq (tDrop (tBM K "list" bm (tVar 5) (tCons (tVar 8) tNil)))
  (tAsg (tCall (mQ K) [] E0 (tCons (tVar 4) (tCons (tVar 6) (tCons (tVar 7) tNil)))) (gName 4))) tNext)))
def ip(K:Frag)(c:RCl RK)(d:RCl PzK):TS:=
 (tSeq (tAsg (tCB kList (tCons (tVar 1) tNil)) (gName 4))
  (tSeq (tAsg (tLst tNil) (gName 5))
  (tSeq (tFor (iList K (tCall (js K c d) [] E0 (tCons (tVar 0) (tCons (tVar 2) (tCons (tVar 3) tNil))))) (gName 6)
  (tSeq (fbin K c d)
  (tIfS (tB (tCall (gk K) [] E0 (tCons (tVar 4) tNil))) (tRet (tVar 5)) tNext)))
  (tRet (tVar 5)))))
structure Fb(H0 H:Hp)(c:RCl RK)(d:RCl PzK)(P L G N B:Addr)(bs Ms:List Addr)(h w g:Int)(LK:List RR)(cl:List Int)(nb:List Int × List Tho):Prop where
 sm:Same H0 H
 pz:IsPz H0 c d P L G h w g LK cl
 nw:H N=some (.lst (nb.1.map V.int))
 mp:MkP g (h*w).toNat nb.1
 bk:IsBk H B bs Ms nb.2
 nB:N≠B
 fB:H0 B=none
 fb:∀ b∈bs,H0 b=none
 fM:∀ M∈Ms,H0 M=none
variable{H0:Hp}
theorem Fb.same{N B:Addr}{bs:List Addr}(X:Fb H0 H c d P L G N B bs Ms h w g LK cl nb)(t:Same H H'):Fb H0 H' c d P L G N B bs Ms h w g LK cl nb:=⟨X.sm.trans t,X.pz,t _ _ X.nw,X.mp,X.bk.same t,X.nB,X.fB,X.fb,X.fM⟩
theorem Fb.lk{N B:Addr}{bs:List Addr}(X:Fb H0 H c d P L G N B bs Ms h w g LK cl nb):Lk H c d P L G N h w g LK cl nb.1:=⟨X.pz.same X.sm,X.nw,X.mp.len,X.mp.mm⟩
theorem Em{α:Type}{f:α->Int->α}{x:α}{ss:List Int}{i:Nat}(e:ss[i]? =some s):(ss.take (i+1)).foldl f x=f ((ss.take i).foldl f x) s:=by
 rw[M8,e,N1];rfl
theorem Gx:(fbS h w g LK cl t r z nb s).2.length<=nb.2.length+1:=by
 unfold fbS
 split
 . omega
 . simp
theorem Ae(m0:0<=m)(m1:m<64):(sgL m).length<=6:=by
 have t:=L4 (L6.mp ux m.toNat (Mb.mpr (by omega)));rw[show((m.toNat:Nat):Int)=m by omega] at t;unfold sgL;rw[LV];refine Mi (Mh _ _) ?_;rw[MR];exact t
variable{D:Ends}
theorem Fn {N B:Addr} {bs:List Addr} {v7 v8:Option V} (X:Fb H0 H c d P L G N B bs Ms h w g LK cl nb) (ok:RuOk LK t r) (hz:z∈celF h w LK t r) (bl:nb.2.length<=800) {C:Addr} {cs:List Int} (eC:H C=some (.lst (cs.map V.int))) (nCB:C≠B)
  (k:∀(N2:Addr) (bs2 Ms2:List Addr) (v7 v8:Option V) (H':Hp),Fb H0 H' c d P L G N2 B bs2 Ms2 h w g LK cl (fbC h w g LK cl t r nb z)->H' C=some (.lst (cs.map V.int))->(fbC h w g LK cl t r nb z).2.length<=nb.2.length+6->D.nx [some (.ref P),some (.ref A),some (.str (tx (tkC t))),some (.int r),some (.ref N2),some (.ref B),some (.int z),v7,v8] H'):
  fbin K c d D [some (.ref P),some (.ref A),some (.str (tx (tkC t))),some (.int r),some (.ref N),some (.ref B),some (.int z),v7,v8] H:=by
 have g0:=X.pz.R.F.g0;have g6:=X.pz.R.F.g1;have p64:=gW g0 g6;have zf:=bD (Ad (s:=1) X.pz.R ok hz (by decide) g0);have nl:=X.mp.len;have mz:=X.mp.mm _ (bv (k:=z.toNat) (ms:=nb.1) (by omega));have sb:∀ s∈sgL (nb.1.getD z.toNat 0),1<=s/\s<=g:=fun s hs=>oG g0 g6 mz.1 mz.2 hs;have sl6:=Ae mz.1 (by omega);unfold fbin;symm;refine ixI X.nw zf.1 (by omega) ?_;symm;unfold fbC at k;refine⟨_,rfl,bitsA mz.1 (by omega),fun S H1 s1 hS eS=>?_⟩;generalize sgL (nb.1.getD z.toNat 0)=ss at*;refine⟨S,rfl,⟨_,Ml eS⟩,?_⟩
 refine bi (K:=K) (xs:=ss.map V.int) (fun i σ H'=>∃(N2:Addr) (bs2 Ms2:List Addr) (v7 v8:Option V),σ=[some (.ref P),some (.ref A),some (.str (tx (tkC t))),some (.int r),some (.ref N2),some (.ref B),some (.int z),v7,v8]/\Fb H0 H' c d P L G N2 B bs2 Ms2 h w g LK cl ((ss.take i).foldl (fbS h w g LK cl t r z) nb)/\H' S=some (.lst (ss.map V.int))/\H' C=some (.lst (cs.map V.int))/\((ss.take i).foldl (fbS h w g LK cl t r z) nb).2.length<=nb.2.length+i)
  ⟨N,bs,Ms,_,_,rfl,X.same s1,eS,s1 _ _ eC,Mu _⟩ (fun i σ H' _ ⟨_,_,_,_,_,_,_,e,_⟩=>Ml e) ?_ ?_
 . rintro i v σ H2 hv ⟨N2,bs2,Ms2,v7,v8,rfl,X2,eS2,eC2,l2⟩;obtain⟨s,hs,rfl⟩:=aQ hv;have hi:i<ss.length:=(L1.mp hs).1;have sm:=sb s (L5 hs);rw[Em hs];generalize (ss.take i).foldl (fbS h w g LK cl t r z) nb=n2 at*;have f:=Ad (s:=s) X.pz.R ok hz sm.1 sm.2;have l3:=Gx (h:=h) (w:=w) (g:=g) (LK:=LK) (cl:=cl) (t:=t) (r:=r) (z:=z) (s:=s) (nb:=n2);have o3:=HD (h:=h) (w:=w) (LK:=LK) (cl:=cl) (t:=t) (r:=r) (z:=z) X2.mp g0 g6 sm.1 (by omega);symm;refine⟨P,L,G,N2,h,w,g,LK,cl,n2.1,t,r,z,s,rfl,X2.lk,f,fun e H3 s3=>?_,fun ms T M H3 e s3 hT hM Th=>?_⟩
   . have e2:fbS h w g LK cl t r z n2 s=n2:=by unfold fbS;rw[e]
     rw[e2];symm;rw[ay];symm;exact⟨N2,bs2,Ms2,_,_,rfl,X2.same s3,s3 _ _ eS2,s3 _ _ eC2,by omega⟩
   . have e2:fbS h w g LK cl t r z n2 s=(stL n2.1 z s,n2.2++[⟨t,r,z,s,ms⟩]):=by unfold fbS;rw[e]
     rw[e2] at l3 o3;rw[e2];have X3:=X2.same s3;have hMB:M≠B:=fun e'=>by rw[e',X2.bk.top] at hM;cases hM
     have b2:=X2.bk.len;have nSB:S≠B:=fun e'=>by rw[e',X.bk.top] at hS;cases hS
     symm;rw[ay];symm;rw[L0 (fun e'=>by cases e')];symm;refine⟨bb X3.bk.top,?_⟩;rw[cP X3.bk.top];refine⟨by rw[LV];exact aD (by omega),?_⟩;have Bk:=X2.bk.app (th:=⟨t,r,z,s,ms⟩) s3 Th hMB;have s4:=X3.sm.own (o:=.lst (bs2.map V.ref++[V.ref T])) X.fB;have n4:(upd H3 B (.lst (bs2.map V.ref++[V.ref T]))) N2=some (.lst (n2.1.map V.int)):=by rw[ai X2.nB];exact X3.nw
     have S4:(upd H3 B (.lst (bs2.map V.ref++[V.ref T]))) S=some (.lst (ss.map V.int)):=by rw[ai nSB];exact s3 _ _ eS2
     have C4:(upd H3 B (.lst (bs2.map V.ref++[V.ref T]))) C=some (.lst (cs.map V.int)):=by rw[ai nCB];exact s3 _ _ eC2
     generalize upd H3 B (.lst (bs2.map V.ref++[V.ref T]))=H4 at*;symm;refine⟨N2,n2.1,z,s,rfl,n4,by have:=X2.mp.len;have:=X.pz.R.F.m;omega,by omega,fun N3 H5 s5 hN3 eN3=>?_⟩;refine⟨N3,bs2++[T],Ms2++[M],_,_,rfl,⟨s4.trans s5,X.pz,eN3,o3,Bk.same s5,fun e'=>?_,X.fB,fun b hb=>?_,fun b hb=>?_⟩,s5 _ _ S4,s5 _ _ C4,Mi l3 (by omega)⟩
     . rw[e',Bk.top] at hN3;cases hN3
     . rcases Mj.mp hb with hb | hb
       . exact X2.fb b hb
       . rw[Ma.mp hb];exact X2.sm.free hT
     . rcases Mj.mp hb with hb | hb
       . exact X2.fM b hb
       . rw[Ma.mp hb];exact X2.sm.free hM
 . rintro σ H2 ⟨N2,bs2,Ms2,v7,v8,rfl,X2,eS2,eC2,l2⟩;rw[LV,M0] at X2 l2;exact k N2 bs2 Ms2 v7 v8 H2 X2 eC2 (by omega)
theorem Gy(R:bB c h w g LK):(celF h w LK t r).length<=60:=by
 have:=R.F.m;unfold celF
 split
 . rw[jM];omega
 . split
   . simp
   . rename_i x e
     rw[sP];exact RR.len26 (R.ok x (L5 e)) R.F
theorem uA(h:io K c d vs H Q E):ip K c d (eD9 Q) (start ["puzzle","masks","kind","number","now","book","cell","sign","thought"] vs) H:=by
 obtain⟨P,L,G,A,h,w,g,LK,cl,LI,t,r,rfl,X,ok,q⟩:=h;show ip K c d _ [some (.ref P),some (.ref A),some (.str (tx (tkC t))),some (.int r),none,none,none,none,none] H;have cln:=Gy (t:=t) (r:=r) X.P.R;unfold ip;symm;refine oz X.A fun N hN=>?_;obtain⟨H1,z9,s1,eN⟩:=aS (.lst (LI.map V.int)) hN;rw[z9];symm;refine⟨aN (by decide),fun B hB=>?_⟩;have s2:Same H1 (upd H1 B (.lst [])):=(L3 H1).laid hB;have eB:(upd H1 B (.lst [])) B=some (.lst []):=ag;have nNB:N≠B:=fun e=>by rw[e] at eN;rw[eN] at hB;cases hB
 generalize upd H1 B (.lst [])=H2 at*;have s12:=s1.trans s2;have X0:Fb H H2 c d P L G N B [] [] h w g LK cl (LI,[]):=⟨s12,X.P,s2 _ _ eN,X.mkp,IsBk.nil eB,nNB,s1.free hB,(fun b hb=>by cases hb),(fun b hb=>by cases hb)⟩;refine⟨P,L,G,h,w,g,LK,cl,t,r,rfl,X.P.same s12,fun hc=>?_,fun C H3 s3 hC eC=>?_⟩
 . obtain⟨r0,x,ex,_⟩:=ok.2 hc;have:=(L1.mp ex).1;omega
 . have nCB:C≠B:=fun e=>by rw[e,eB] at hC;cases hC
   unfold fbF at q;have hce:∀ z∈celF h w LK t r,z∈celF h w LK t r:=fun z hz=>hz;generalize hcs:celF h w LK t r=cs at*;refine⟨C,rfl,⟨_,Ml eC⟩,?_⟩
   refine bi (K:=K) (xs:=cs.map V.int) (fun i σ H'=>∃(N2:Addr) (bs2 Ms2:List Addr) (v6 v7 v8:Option V) (nb:List Int × List Tho),σ=[some (.ref P),some (.ref A),some (.str (tx (tkC t))),some (.int r),some (.ref N2),some (.ref B),v6,v7,v8]/\Fb H H' c d P L G N2 B bs2 Ms2 h w g LK cl nb/\H' C=some (.lst (cs.map V.int))/\fbL h w g LK cl t r cs (LI,[])=fbL h w g LK cl t r (cs.drop i) nb/\nb.2.length<=6*i)
    ⟨N,[],[],none,none,none,(LI,[]),rfl,X0.same s3,eC,rfl,Mu _⟩ (fun i σ H' _ ⟨_,_,_,_,_,_,_,_,_,e,_⟩=>Ml e) ?_ ?_
   . rintro i v σ H4 hv ⟨N2,bs2,Ms2,v6,v7,v8,nb,rfl,X4,eC4,ef,bl⟩;obtain⟨z,hz,rfl⟩:=aQ hv;have hi:i<cs.length:=(L1.mp hz).1;have zm:z∈celF h w LK t r:=by rw[hcs];exact L5 hz
     have ed:cs.drop i=z::cs.drop (i+1):=by
      rw[Nr hi]
      congr 1
      exact(L1.mp hz).2
     rw[ed] at ef;symm;refine Fn X4 ok zm (by omega) eC4 nCB fun N3 bs3 Ms3 v7 v8 H5 X5 eC5 l5=>?_;have ef':fbL h w g LK cl t r cs (LI,[])=if 0∈(fbC h w g LK cl t r nb z).1 then(fbC h w g LK cl t r nb z).2 else fbL h w g LK cl t r (cs.drop (i+1)) (fbC h w g LK cl t r nb z):=ef;generalize fbC h w g LK cl t r nb z=n5 at*;symm;rw[ay];symm;refine⟨N3,n5.1,rfl,X5.nw,?_⟩;by_cases h0:(0:Int)∈n5.1
     . rw[Mp h0] at ef';rw[LY h0];refine⟨true,rfl,iteT ?_⟩;symm;rw[ef'] at q;exact q B bs3 Ms3 H5 X5.sm X5.fB X5.fb X5.fM X5.bk
     . rw[Md h0] at ef';rw[L0 h0];refine⟨false,rfl,iteF ?_⟩;exact⟨N3,bs3,Ms3,_,_,_,n5,rfl,X5,eC5,ef',by omega⟩
   . rintro σ H4 ⟨N2,bs2,Ms2,v6,v7,v8,nb,rfl,X4,eC4,ef,bl⟩;rw[LV,OA] at ef;symm;rw[ef] at q;exact q B bs2 Ms2 H4 X4.sm X4.fB X4.fb X4.fM X4.bk
theorem Same.sqt{a:Addr}{xs:List V}(e:Same H H')(h:SqT K H a xs):SqT K H' a xs:=by
 rcases h with (h | ⟨o,h⟩) | h
 . exact .inl (.inl (e _ _ h))
 . exact .inl (.inr ⟨o,e _ _ h⟩)
 . exact .inr h
theorem En {a:Addr} {k:Nat} {tt:TT} {te:TE} {fin:Addr->Hp->Prop} {σ0:St} {xs:List Str} (b:Str->Bool) (hn:xs.length<=900) (hq:SqT K H1 a (xs.map V.str))
  (ht:∀ x H R,x∈xs->Same H1 H->(∀ H',Same H H'->R (b x) H')->tt (σ0.set k (some (.str x))) H R)
  (he:∀ x H Q,x∈xs->b x=true->Same H1 H->(∀ H',Same H H'->Q (.str x) H')->te (σ0.set k (some (.str x))) H Q)
  (hd:∀ l H,H1 l=none->Same H1 H->H l=some (.lst ((xs.filter b).map V.str))->fin l H):CompR (Itt K a) (gName k) tt te fin σ0 H1:=by
 refine zE (xs:=xs.map V.str) (fun l i σ H=>(σ=σ0\/∃ cv,σ=σ0.set k cv)/\Same H1 H/\H l=some (.lst (((xs.take i).filter b).map V.str))) (fun l hl=>⟨.inl rfl,(L3 H1).laid hl,by rw[ag];rfl⟩) (fun l i σ H _ _ p=>p.2.1.sqt hq) ?_ (fun l σ H hl p=>hd l H hl p.2.1 (by have:=p.2.2;rw[LV,M0] at this;exact this));rintro l i x σ H hl hx ⟨hσ,s1,el⟩;rw[L9] at hx;obtain⟨z,hz,rfl⟩:=NC.mp hx;have hi:i<xs.length:=(L1.mp hz).1;have et:xs.take (i+1)=xs.take i++[z]:=by rw[M8,hz];rfl
 rw[aY]
 have e:σ.set k (some (.str z))=σ0.set k (some (.str z)):=by
  rcases hσ with rfl | ⟨cv,rfl⟩
  . rfl
  . exact ND ..
 rw[e];refine ht z H _ (L5 hz) s1 fun H2 s2=>?_;have el2:=s2 _ _ el;have s12:=s1.trans s2
 cases hb:b z with
 | false=>
  rw[Md L7];refine⟨.inr ⟨_,rfl⟩,s12,?_⟩;rw[et,MP,MN,hb]
  simpa using el2
 | true=>
  rw[Mp rfl];refine he z H2 _ (L5 hz) hb s12 fun H3 s3=>⟨_,s3 _ _ el2,?_,.inr ⟨_,rfl⟩,(s12.trans s3).own hl,?_⟩
  . rw[LV];exact aD (Mi (Mh _ _) (by rw[Nb];omega))
  . rw[ag,et,MP,MN,hb];simp
def dBk(th:Tho):PyData:=dTh th.t th.r th.z th.s th.ms
theorem FK{bs:List Addr}(x:IsBk H l bs Ms LR):DV K H (.ref l) (.list (LR.map dBk)):=by
 have l1:=x.len;have l2:=x.lnM;refine .lst (Ml x.top) (DVs.of_get (by simp[x.len]) fun i y d h1 h2=>?_);obtain⟨a,ha,rfl⟩:=br h1;rw[L9] at h2;obtain⟨th,hth,rfl⟩:=NC.mp h2;have hi:i<LR.length:=(L1.mp hth).1;exact Iz (x.at_ i a _ th ha (LW (by omega)) hth)
theorem BG(t:TK)(r z s:Int)(ms:List Int):PyData.canLay0 (dTh t r z s ms)=true/\PyData.depth (dTh t r z s ms)<=2:=by
 have a1:PyData.strOk (tx (tkC t))=true:=FE (by cases t <;> decide);unfold dTh;simp[PyData.canLay0,PyData.canLayAll0,a1,pG,PyData.depth,PyData.depthAll,k9]
theorem mR(LR:List Tho):SeqAt.shaped (.list (LR.map dBk))=true:=by
 have h1:PyData.canLayAll0 (LR.map dBk)=true:=wV fun d hd=>by obtain⟨x,_,rfl⟩:=Mg.mp hd;exact(BG _ _ _ _ _).1
 have h2:PyData.depthAll (LR.map dBk)<=2:=qS fun d hd=>by obtain⟨x,_,rfl⟩:=Mg.mp hd;exact(BG _ _ _ _ _).2
 simp[SeqAt.shaped,PyData.canLay0,h1,PyData.depth];omega
theorem BH(LR:List Tho):PyData.eqv (.list (LR.map dBk)) (.list [])=decide (LR.length=0):=by
 cases LR <;> simp[PyData.eqv,PyData.eqvAll]
theorem HE{E:Addr}{bs:List Addr}(x:IsBk H l bs Ms LR)(e:H E=some (.lst []))(q:Q (.bl (!decide (LR.length=0))) H):cNe K (.ref l) (.ref E) H Q:=by
 show rNeD K (.ref l) (.ref E) H Q;refine⟨_,.list [],FK x,.lst (Ml e) .nil,mR LR,mR [],?_⟩;rw[BH];exact q
theorem HF{E:Addr}{bs:List Addr}(x:IsBk H l bs Ms LR)(e:H E=some (.lst []))(q:Q (.bl (decide (LR.length=0))) H):cEq K (.ref l) (.ref E) H Q:=by
 show rEqD K (.ref l) (.ref E) H Q;refine⟨_,.list [],FK x,.lst (Ml e) .nil,mR LR,mR [],?_⟩;rw[BH];exact q
abbrev txk(t:TK):Str:=tx (tkC t)
def allT:List TK:=[.clue,.only,.place,.count,.step,.sum,.square,.reach,.turn,.pair,.ways]
theorem vQ:gt_KINDS=allT.map txk:=by decide+kernel
theorem BK{a b:TK}:decide (txk a=txk b)=decide (a=b):=by cases a <;> cases b <;> decide+kernel
variable{ks:List TK}
theorem Gz:decide (txk t∈ks.map txk)=decide (t∈ks):=by
 rw[MA,LX,LX,Mg];constructor
 . rintro⟨a,ha,e⟩;have:=BK (a:=a) (b:=t);rw[LY e] at this;exact(L4 this.symm) ▸ ha
 . exact fun h=>⟨t,h,rfl⟩
noncomputable def ffR (h w g:Int) (LK:List RR) (cl LI:List Int) (t:TK):List Int->List Tho
 | []=>[]
 | r::rs=>if (fbF h w g LK cl LI t r).length=0 then ffR h w g LK cl LI t rs else fbF h w g LK cl LI t r
noncomputable def ffT (h w g:Int) (LK:List RR) (cl LI:List Int):List TK->List Tho
 | []=>[]
 | t::ts=>if (ffR h w g LK cl LI t (rnF LK t)).length=0 then ffT h w g LK cl LI ts else ffR h w g LK cl LI t (rnF LK t)
noncomputable def ffF (h w g:Int) (LK:List RR) (cl LI:List Int) (ks:List TK):List Tho:=ffT h w g LK cl LI (allT.filter fun t=>decide (t∈ks))
def KdL(H:Hp)(Kd:Addr)(ks:List TK):Prop:=H Kd=some (.lst ((ks.map txk).map V.str))
def KdK(K:Frag)(H:Hp)(Kd:Addr)(ks:List TK):Prop:=KdL H Kd ks\/SqT K H Kd ((ks.map txk).map V.str)
theorem KdK.same{Kd:Addr}(x:KdK K H Kd ks)(s:Same H H'):KdK K H' Kd ks:=x.elim (fun a=>.inl (s _ _ a)) (fun a=>.inr (s.sqt a))
theorem IB{Kd:Addr}{x:Str}(h:KdK K H Kd ks)(q:Q (.bl (decide (x∈ks.map txk))) H):rIn K false (.str x) (.ref Kd) H Q:=by
 refine⟨Kd,(ks.map txk).map V.str,rfl,h.elim (fun a=>.inl (Ml a)) .inr,rfl,iC _,?_⟩;rw[jN];exact q
def jY(K:Frag)(c:RCl RK)(d:RCl PzK):Sp:=fun vs H Q _=>∃(P L G A Kd:Addr) (h w g:Int) (LK:List RR) (cl LI:List Int) (ks:List TK),vs=[.ref P,.ref A,.ref Kd]/\Lk H c d P L G A h w g LK cl LI/\KdK K H Kd ks/\BkP Q H (ffF h w g LK cl LI ks)
def ffin(K:Frag)(c:RCl RK)(d:RCl PzK):TS:=
 (tFor (iList K (tCall (jq K c d) [] E0 (tCons (tVar 0) (tCons (tVar 3) tNil)))) (gName 4)
  (tSeq (tAsg (tCall (io K c d) [] E0 (tCons (tVar 0) (tCons (tVar 1) (tCons (tVar 3) (tCons (tVar 4) tNil))))) (gName 5))
  (tIfS (tTest (tOp (cNe K) (tVar 5) (tLst tNil))) (tRet (tVar 5)) tNext)))
def jZ(K:Frag)(c:RCl RK)(d:RCl PzK):TS:=
 (tSeq (tFor (iList K (tComp [none,none,some 2] (iTup K (tGT K gt_KINDS)) (gName 1) (tTest (tOp (rIn K false) (tVar 1) (tVar 2))) (tVar 1))) (gName 3)
  (ffin K c d))
  (tRet (tLst tNil)))
theorem GA {v4 v5:Option V} (X:Lk H c d P L G A h w g LK cl LI)
  (k1:(ffR h w g LK cl LI t (rnF LK t)).length=0->∀(v4 v5:Option V) (H':Hp),Same H H'->D.nx [some (.ref P),some (.ref A),v2,some (.str (txk t)),v4,v5] H')
  (k2:¬ (ffR h w g LK cl LI t (rnF LK t)).length=0->BkP D.rt H (ffR h w g LK cl LI t (rnF LK t))):
  ffin K c d D [some (.ref P),some (.ref A),v2,some (.str (txk t)),v4,v5] H:=by
 unfold ffin;symm;refine⟨P,L,G,h,w,g,LK,cl,t,rfl,X.P,fun R H1 s1 hR eR=>?_⟩;have hok:∀ r∈rnF LK t,RuOk LK t r:=fun r hr=>FJ hr;generalize rnF LK t=rs at*;refine⟨R,rfl,⟨_,Ml eR⟩,?_⟩;refine bi (K:=K) (xs:=rs.map V.int) (fun i σ H'=>∃(v4 v5:Option V),σ=[some (.ref P),some (.ref A),v2,some (.str (txk t)),v4,v5]/\Same H1 H'/\ffR h w g LK cl LI t rs=ffR h w g LK cl LI t (rs.drop i)) ⟨_,_,rfl,L3 H1,rfl⟩ (fun i σ H' _ ⟨_,_,_,s,_⟩=>Ml (s _ _ eR)) ?_ ?_
 . rintro i v σ H2 hv ⟨v4,v5,rfl,s2,ef⟩;obtain⟨r,hr,rfl⟩:=aQ hv;have hi:i<rs.length:=(L1.mp hr).1
   have ed:rs.drop i=r::rs.drop (i+1):=by
    rw[Nr hi]
    congr 1
    exact(L1.mp hr).2
   rw[ed] at ef;have ef':ffR h w g LK cl LI t rs=if (fbF h w g LK cl LI t r).length=0 then ffR h w g LK cl LI t (rs.drop (i+1)) else fbF h w g LK cl LI t r:=ef;have s12:=s1.trans s2;symm;refine⟨P,L,G,A,h,w,g,LK,cl,LI,t,r,rfl,X.same s12,hok r (L5 hr),fun B bs Ms H3 s3 hB hb hM bk=>?_⟩;symm;rw[ay];symm;refine⟨aN (by decide),fun E hE=>?_⟩;obtain⟨H4,z9,s4,eE⟩:=aS (.lst []) hE;rw[z9];have s34:=s3.trans s4;refine HE (bk.same s4) eE ?_;by_cases h0:(fbF h w g LK cl LI t r).length=0
   . rw[Mp h0] at ef';rw[LY h0];refine⟨_,rfl,iteF ?_⟩;exact⟨_,_,rfl,s2.trans s34,ef'⟩
   . rw[Md h0] at ef';rw[L0 h0];refine⟨_,rfl,iteT ?_⟩;symm;refine k2 (by rw[ef'];exact h0) B bs Ms H4 (s12.trans s34) (s12.free hB) (fun b h=>s12.free (hb b h)) (fun b h=>s12.free (hM b h)) ?_;rw[ef'];exact bk.same s4
 . rintro σ H2 ⟨v4,v5,rfl,s2,ef⟩;rw[LV,OA] at ef;exact k1 (by rw[ef];rfl) v4 v5 H2 (s1.trans s2)
theorem xp(h:jY K c d vs H Q E):jZ K c d (eD9 Q) (start ["puzzle","masks","kinds","kind","number","found"] vs) H:=by
 obtain⟨P,L,G,A,Kd,h,w,g,LK,cl,LI,ks,rfl,X,hK,q⟩:=h;show jZ K c d _ [some (.ref P),some (.ref A),some (.ref Kd),none,none,none] H;unfold jZ;symm;rw[wY,Hz];intro p hp;refine⟨p,rfl,⟨_,hp⟩,?_⟩;rw[vQ] at hp;refine En (xs:=allT.map txk) (fun x=>decide (x∈ks.map txk)) (by decide) hp ?_ ?_ ?_
 . intro x H1 R hx s1 k1;show tTest _ [none,some (.str x),some (.ref Kd)] H1 R;symm;exact IB (hK.same s1) ⟨_,rfl,k1 _ (L3 _)⟩
 . intro x H1 Q1 hx hb s1 k1;show tVar 1 [none,some (.str x),some (.ref Kd)] H1 Q1;symm;exact k1 _ (L3 _)
 . intro S H1 hS s1 eS
   have ef:((allT.map txk).filter fun x=>decide (x∈ks.map txk))=(allT.filter fun t=>decide (t∈ks)).map txk:=by
    rw[ON];refine congrArg _ (List.filter_congr fun t _=>?_);exact Gz
   rw[ef] at eS;unfold ffF at q;generalize (allT.filter fun t=>decide (t∈ks))=ts at*;refine⟨S,rfl,⟨_,Ml eS⟩,?_⟩;refine bi (K:=K) (xs:=(ts.map txk).map V.str) (fun i σ H'=>∃(v3 v4 v5:Option V),σ=[some (.ref P),some (.ref A),some (.ref Kd),v3,v4,v5]/\Same H1 H'/\ffT h w g LK cl LI ts=ffT h w g LK cl LI (ts.drop i)) ⟨_,_,_,rfl,L3 H1,rfl⟩ (fun i σ H' _ ⟨_,_,_,_,s,_⟩=>Ml (s _ _ eS)) ?_ ?_
   . rintro i v σ H2 hv ⟨v3,v4,v5,rfl,s2,ef⟩;rw[L9,L9] at hv;obtain⟨u,hu,rfl⟩:=NC.mp hv;obtain⟨t,ht,rfl⟩:=NC.mp hu;have hi:i<ts.length:=(L1.mp ht).1
     have ed:ts.drop i=t::ts.drop (i+1):=by
      rw[Nr hi]
      congr 1
      exact(L1.mp ht).2
     rw[ed] at ef;have ef':ffT h w g LK cl LI ts=if (ffR h w g LK cl LI t (rnF LK t)).length=0 then ffT h w g LK cl LI (ts.drop (i+1)) else ffR h w g LK cl LI t (rnF LK t):=ef;have s12:=s1.trans s2;symm;refine GA (X.same s12) (fun h0 v4 v5 H3 s3=>?_) (fun h0=>?_)
     . rw[Mp h0] at ef';exact⟨_,_,_,rfl,s2.trans s3,ef'⟩
     . rw[Md h0] at ef';rw[ef'] at q;exact q.of s12
   . rintro σ H2 ⟨v3,v4,v5,rfl,s2,ef⟩;rw[LV,LV,OA] at ef;rw[ef] at q;symm;refine⟨aN (by decide),fun E hE=>?_⟩;exact(q.of (s1.trans s2)) E [] [] _ ((L3 H2).laid hE) hE (fun b hb=>by cases hb) (fun b hb=>by cases hb) (IsBk.nil ag)
def OkT(h w g:Int)(LK:List RR)(cl:List Int)(ks:List TK)(m:List Int)(th:Tho):Prop:=0∉m/\th.t∈ks/\(0<=th.z/\th.z<h*w)/\(1<=th.s/\th.s<=g)/\stB (m.getD th.z.toNat 0) th.s=true/\alwA h w g LK cl m th.t th.r th.z th.s th.ms=true
def Wlk(h w g:Int)(LK:List RR)(cl:List Int)(ks:List TK):List Int->List Tho->List Int->Prop
 | m,[],m'=>m=m'
 | m,th::r,m'=>OkT h w g LK cl ks m th/\Wlk h w g LK cl ks (stL m th.z th.s) r m'
theorem Wlk.trans{h w g:Int}{LK:List RR}{cl:List Int}{ks:List TK}:∀{a b:List Tho} {m m1 m2:List Int},Wlk h w g LK cl ks m a m1->Wlk h w g LK cl ks m1 b m2->Wlk h w g LK cl ks m (a++b) m2
 | [],_,_,_,_,h1,h2=>by cases (show _=_ from h1);exact h2
 | _::_,_,_,_,_,h1,h2=>⟨h1.1,Wlk.trans h1.2 h2⟩
theorem Wlk.snoc{a:List Tho}{m m1:List Int}{th:Tho}(h1:Wlk h w g LK cl ks m a m1)(h2:OkT h w g LK cl ks m1 th):Wlk h w g LK cl ks m (a++[th]) (stL m1 th.z th.s):=h1.trans ⟨h2,rfl⟩
theorem HG:stB 0 s=false:=by
 unfold stB;rw[show Builtin.Int.intBits 0=0 from rfl]
 cases h1:decide (1<=s) with
 | false=>rfl
 | true=>
  have:=L4 h1;rw[L0 (show ¬ s<=((0:Nat):Int) by omega)];rfl
theorem HH(f:formB h w g LK t r z s=true)(e:faF h w g LK cl LI t r z s=some ms):alwA h w g LK cl LI t r z s ms=true:=by
 unfold alwA;rw[f,Mq];unfold faF at e;exact PB e
theorem uB{h w g:Int}{LK:List RR}{cl:List Int}{ks:List TK}{t:TK}{r z:Int}{n:Nat}{m0:List Int}(g0:1<=g)(g6:g<=6)(tk:t∈ks)(hn:n=(h*w).toNat)(f:∀ s,1<=s->s<=g->formB h w g LK t r z s=true):
  ∀(ss:List Int) (nb:List Int × List Tho),ss.Nodup->(∀ s∈ss,(1<=s/\s<=g)/\stB (nb.1.getD z.toNat 0) s=true)->MkP g n nb.1->(∀ k,k<n->(k:Int)≠z->nb.1.getD k 0≠0)->Wlk h w g LK cl ks m0 nb.2 nb.1->
  Wlk h w g LK cl ks m0 (ss.foldl (fbS h w g LK cl t r z) nb).2 (ss.foldl (fbS h w g LK cl t r z) nb).1/\MkP g n (ss.foldl (fbS h w g LK cl t r z) nb).1
 | [],nb,_,_,M,_,W=>⟨W,M⟩
 | s::ss,nb,nd,hs,M,nz,W=>by
  have p64:=gW g0 g6;have h1:=hs s Mf;have zf:=bD (f 1 (by decide) g0);have ml:=M.len;have mz:=M.mm _ (bv (k:=z.toNat) (ms:=nb.1) (by omega));rw[M6] at nd;rw[Nj]
  have no0:(0:Int)∉nb.1:=fun h0=>by
   obtain⟨k,hk,e⟩:=Nw.mp h0;have ek:nb.1.getD k 0=0:=by rw[List.getD,LW hk,e];rfl
   by_cases kz:(k:Int)=z
   . have:z.toNat=k:=by omega
     rw[this,ek,HG] at h1;cases h1.2
   . exact nz k (by omega) kz ek
  have hst:=rE (s:=s) mz.1 (by omega) h1.1.1 (by omega)
  cases e:faF h w g LK cl nb.1 t r z s with
  | none=>
   have e2:fbS h w g LK cl t r z nb s=nb:=by unfold fbS;rw[e]
   rw[e2];exact uB g0 g6 tk hn f ss nb nd.2 (fun x hx=>hs x (Mc _ hx)) M nz W
  | some ms=>
   have e2:fbS h w g LK cl t r z nb s=(stL nb.1 z s,nb.2++[⟨t,r,z,s,ms⟩]):=by unfold fbS;rw[e]
   rw[e2];refine uB g0 g6 tk hn f ss _ nd.2 (fun x hx=>?_) (M.stL g0 g6 h1.1.1 (by omega)) (fun k hk kz=>?_) ?_
   . have hx2:=hs x (Mc _ hx);refine⟨hx2.1,?_⟩;show stB ((stL nb.1 z s).getD z.toNat 0) x=true;rw[vP (by omega),Mp (by omega),hst.2.1 x hx2.1.1 (by omega) (fun e'=>nd.1 (e' ▸ hx))];exact hx2.2
   . show(stL nb.1 z s).getD k 0≠0;rw[vP (by omega),Md kz];exact nz k hk kz
   . exact W.snoc (th:=⟨t,r,z,s,ms⟩) ⟨no0,tk,⟨zf.1,zf.2.1⟩,h1.1,h1.2,HH (f s h1.1.1 h1.1.2) e⟩
theorem Af{h w g:Int}{LK:List RR}{cl:List Int}{ks:List TK}{t:TK}{r:Int}{n:Nat}{m0:List Int}(g0:1<=g)(g6:g<=6)(tk:t∈ks)(hn:n=(h*w).toNat):
  ∀(zs:List Int) (nb:List Int × List Tho),(∀ z∈zs,∀ s,1<=s->s<=g->formB h w g LK t r z s=true)->0∉nb.1->MkP g n nb.1->Wlk h w g LK cl ks m0 nb.2 nb.1->∃ m',Wlk h w g LK cl ks m0 (fbL h w g LK cl t r zs nb) m'
 | [],nb,_,_,_,W=>⟨_,W⟩
 | z::zs,nb,f,h0,M,W=>by
  have zf:=bD (f z Mf 1 (by decide) g0);have ml:=M.len;have p64:=gW g0 g6;have mz:=M.mm _ (bv (k:=z.toNat) (ms:=nb.1) (by omega));have c:=uB (cl:=cl) g0 g6 tk hn (f z Mf) (sgL (nb.1.getD z.toNat 0)) nb (rB _) (fun s hs=>⟨oG g0 g6 mz.1 mz.2 hs,(iG mz.1 s).mp hs⟩) M (fun k hk _ e=>h0 (by rw[← e];exact bv (by omega))) W;unfold fbL
  split
  . exact⟨_,c.1⟩
  . rename_i hn0
    exact Af g0 g6 tk hn zs _ (fun z hz=>f z (Mc _ hz)) hn0 c.2 c.1
theorem Ag{c:RCl RK}{h w g:Int}{LK:List RR}{cl:List Int}{ks:List TK}{t:TK}{LI:List Int}(R:bB c h w g LK)(tk:t∈ks)(M:MkP g (h*w).toNat LI)(h0:0∉LI):∀ rs:List Int,(∀ r∈rs,RuOk LK t r)->∃ m',Wlk h w g LK cl ks LI (ffR h w g LK cl LI t rs) m'
 | [],_=>⟨_,rfl⟩
 | r::rs,ok=>by
  unfold ffR
  split
  . exact Ag R tk M h0 rs fun r hr=>ok r (Mc _ hr)
  . exact Af R.F.g0 R.F.g1 tk rfl _ (LI,[]) (fun z hz s s0 s1=>Ad R (ok r Mf) hz s0 s1) h0 M rfl
theorem Fo(R:bB c h w g LK)(M:MkP g (h*w).toNat LI)(h0:0∉LI):∃ m',Wlk h w g LK cl ks LI (ffF h w g LK cl LI ks) m':=by
 have go:∀ ts:List TK,(∀ t∈ts,t∈ks)->∃ m',Wlk h w g LK cl ks LI (ffT h w g LK cl LI ts) m':=fun ts=>by
  induction ts with
  | nil=>exact fun _=>⟨_,rfl⟩
  | cons t ts ih=>
   intro ht;unfold ffT
   split
   . exact ih fun t h=>ht t (Mc _ h)
   . exact Ag R (ht t Mf) M h0 _ fun r hr=>FJ hr
 exact go _ fun t ht=>L4 (L8.mp ht).2
def btA(ms:List Int):Nat:=(ms.map fun m=>(sgL m).length).sum
theorem Ah(f:Int->Nat):∀(ms:List Int) (k:Nat) (x:Int),k<ms.length->((ms.set k x).map f).sum+f (ms.getD k 0)=(ms.map f).sum+f x
 | [],_,_,h=>by simp at h
 | m::r,0,x,_=>by simp;omega
 | m::r,k+1,x,h=>by
  have ih:=Ah f r k x (by simpa using h);simp only[List.set_cons_succ,Mx,NZ,List.getD_cons_succ];omega
theorem BL(z0:0<=z):stL ms z s=ms.set z.toNat (woI (ms.getD z.toNat 0) s):=by
 refine No fun i=>?_;unfold stL;rw[L9,List.getElem?_set];by_cases hi:i<ms.length
 . rw[Nf hi];show some (if (i:Int)=z then woI (ms.getD i 0) s else ms.getD i 0)=_;by_cases e:z.toNat=i
   . rw[Mp (by omega),Mp e,Mp (by omega),e]
   . rw[Md (by omega),Md e,List.getD,LW hi];rfl
 . rw[Mt (by rw[MR];omega)]
   split
   . rw[Md (by omega)];rfl
   . rw[Mt (by omega)];rfl
theorem OkT.bits{m:List Int}{th:Tho}(X:OkT h w g LK cl ks m th)(M:MkP g (h*w).toNat m)(g0:1<=g)(g6:g<=6):btA (stL m th.z th.s)+1=btA m:=by
 obtain⟨_,_,z,s,st,_⟩:=X;have p64:=gW g0 g6;have ml:=M.len;have mz:=M.mm _ (bv (k:=th.z.toNat) (ms:=m) (by omega));have a:=(rE (s:=th.s) mz.1 (by omega) s.1 (by omega)).2.2 st;have b:=Ah (fun m=>(sgL m).length) m th.z.toNat (woI (m.getD th.z.toNat 0) th.s) (by omega);unfold btA;rw[BL z.1]
 try dsimp only at b
 omega
abbrev runA(m:List Int)(LR:List Tho):List Int:=LR.foldl (fun m th=>stL m th.z th.s) m
theorem Wlk.run{h w g:Int}{LK:List RR}{cl:List Int}{ks:List TK}:∀{a:List Tho} {m m':List Int},Wlk h w g LK cl ks m a m'->m'=runA m a
 | [],_,_,h=>(show _=_ from h).symm
 | th::r,m,m',h=>Wlk.run (a:=r) h.2
theorem Wlk.pre{h w g:Int}{LK:List RR}{cl:List Int}{ks:List TK}:∀{a b:List Tho} {m m':List Int},Wlk h w g LK cl ks m (a++b) m'->Wlk h w g LK cl ks m a (runA m a)/\Wlk h w g LK cl ks (runA m a) b m'
 | [],_,_,_,h=>⟨rfl,h⟩
 | th::r,b,m,m',h=>⟨⟨h.1,(Wlk.pre (a:=r) h.2).1⟩,(Wlk.pre (a:=r) h.2).2⟩
theorem Wlk.okM{h w g:Int}{LK:List RR}{cl:List Int}{ks:List TK}(g0:1<=g)(g6:g<=6):∀{a:List Tho} {m m':List Int},Wlk h w g LK cl ks m a m'->MkP g (h*w).toNat m->MkP g (h*w).toNat m'/\btA m'+a.length=btA m
 | [],_,_,h,M=>by cases (show _=_ from h);exact⟨M,by simp⟩
 | th::r,m,m',h,M=>by
  have s:=h.1.2.2.2.1;have b:=h.1.bits M g0 g6;have:=Wlk.okM g0 g6 (a:=r) h.2 (M.stL g0 g6 s.1 (by omega));refine⟨this.1,?_⟩;rw[My];omega
theorem HI(g0:1<=g)(g6:g<=6)(M:MkP g n ms)(hn:n<=16):btA ms<=96:=by
 have p64:=gW g0 g6
 have go:∀ xs:List Int,(∀ m∈xs,0<=m/\m<64)->btA xs<=6*xs.length:=fun xs=>by
  induction xs with
  | nil=>exact fun _=>Mu _
  | cons x r ih=>
   intro hx;have a:=ih fun m hm=>hx m (Mc _ hm);have b:=hx x Mf;have c:=Ae b.1 b.2;unfold btA at a ⊢;rw[Mx,NZ,My];omega
 have:=go ms fun m hm=>by have:=M.mm m hm;omega
 have:=M.len;omega
inductive Go(h w g:Int)(LK:List RR)(cl:List Int)(ks:List TK)(m0:List Int):List Tho->List Int->Prop
 | nil:Go h w g LK cl ks m0 [] m0
 | step {b:List Tho} {m:List Int}:Go h w g LK cl ks m0 b m->0∉m->ffF h w g LK cl m ks≠[]->Go h w g LK cl ks m0 (b++ffF h w g LK cl m ks) (runA m (ffF h w g LK cl m ks))
inductive ThR(h w g:Int)(LK:List RR)(cl:List Int)(ks:List TK):List Int->List Tho->List Int->Prop
 | stop {m:List Int}:(0∈m\/ffF h w g LK cl m ks=[])->ThR h w g LK cl ks m [] m
 | go {m:List Int} {r:List Tho} {x:List Int}:0∉m->ffF h w g LK cl m ks≠[]->ThR h w g LK cl ks (runA m (ffF h w g LK cl m ks)) r x->ThR h w g LK cl ks m (ffF h w g LK cl m ks++r) x
variable{m0:List Int}
theorem Go.th{b:List Tho}{m:List Int}(a:Go h w g LK cl ks m0 b m):∀{r:List Tho} {x:List Int},ThR h w g LK cl ks m r x->ThR h w g LK cl ks m0 (b++r) x:=by
 induction a with
 | nil=>exact fun t=>t
 | step a n f ih=>
  intro r x t;rw[M3];exact ih (.go n f t)
abbrev End(h w g:Int)(LK:List RR)(cl:List Int)(ks:List TK)(m:List Int):Prop:=0∈m\/ffF h w g LK cl m ks=[]
theorem Go.full{b:List Tho}{m:List Int}(a:Go h w g LK cl ks m0 b m)(e:End h w g LK cl ks m):ThR h w g LK cl ks m0 b m:=by
 have:=a.th (.stop e);rw[OK] at this;exact this
theorem IsBk.keep{x:Addr}{bs:List Addr}{xs ys:List V}(X:IsBk H l bs Ms LR)(hx:H x=some (.lst xs))(nl:l≠x)(nM:x∉Ms):IsBk (upd H x (.lst ys)) l bs Ms LR:=
 ⟨by rw[ai nl];exact X.top,X.len,X.lnM,X.nl,fun i b M th h1 h2 h3=>by
  have z:=X.at_ i b M th h1 h2 h3;have nM':M≠x:=fun e=>nM (by rw[← e];exact L5 h2);exact⟨by rw[ai (fun e=>by have:=z.T;rw[e,hx] at this;cases this)];exact z.T,by rw[ai nM'];exact z.M,z.n⟩⟩
def ThkP(Q:VK)(H:Hp)(h w g:Int)(LK:List RR)(cl LI:List Int)(ks:List TK):Prop:=∀(T N B:Addr) (bs Ms:List Addr) (now:List Int) (LR:List Tho) (H':Hp),Same H H'->H T=none->H N=none->H B=none->(∀ b∈bs,H b=none)->(∀ M∈Ms,H M=none)->H' T=some (.tup [.ref N,.ref B])->H' N=some (.lst (now.map V.int))->IsBk H' B bs Ms LR->N≠B->Wlk h w g LK cl ks LI LR now->(0∈now\/ffF h w g LK cl now ks=[])->ThR h w g LK cl ks LI LR now->Q (.ref T) H'
def uC(K:Frag)(c:RCl RK)(d:RCl PzK):Sp:=fun vs H Q _=>∃(P L G A Kd:Addr) (h w g:Int) (LK:List RR) (cl LI:List Int) (ks:List TK),vs=[.ref P,.ref A,.ref Kd]/\Lk H c d P L G A h w g LK cl LI/\KdK K H Kd ks/\ThkP Q H h w g LK cl LI ks
def thin(K:Frag)(c:RCl RK)(d:RCl PzK):TS:=
 (tFor (iList K (tVar 5)) (gName 6)
  (tSeq (tDrop (tBM K "list" bm (tVar 4) (tCons (tVar 6) tNil)))
  (tAsg (tCall (mQ K) [] E0 (tCons (tVar 3) (tCons (tOp cIx (tVar 6) (tC (.int 2))) (tCons (tOp cIx (tVar 6) (tC (.int 3))) tNil)))) (gName 3))))
def uD(K:Frag)(c:RCl RK)(d:RCl PzK):TS:=
 (tSeq (tAsg (tCB kList (tCons (tVar 1) tNil)) (gName 3))
  (tSeq (tAsg (tLst tNil) (gName 4))
  (tSeq (zb (tNot (tB (tCall (gk K) [] E0 (tCons (tVar 3) tNil))))
  (tSeq (tAsg (tCall (jY K c d) [] E0 (tCons (tVar 0) (tCons (tVar 3) (tCons (tVar 2) tNil)))) (gName 5))
  (tSeq (tIfS (tTest (tOp (cEq K) (tVar 5) (tLst tNil))) (tRet (tTup (tCons (tVar 3) (tCons (tVar 4) tNil)))) tNext)
  (thin K c d))))
  (tRet (tTup (tCons (tVar 3) (tCons (tVar 4) tNil)))))))
theorem GB {N B F:Addr} {bs bs2 Ms2:List Addr} {LR m':_} {v1 v6:Option V} (X:Fb H0 H c d P L G N B bs Ms h w g LK cl nb) (fN:H0 N=none) (Y:IsBk H F bs2 Ms2 LR) (nF:F≠B) (nM:B∉Ms2) (fb2:∀ b∈bs2,H0 b=none) (fM2:∀ M∈Ms2,H0 M=none) (W:Wlk h w g LK cl ks nb.1 LR m') (bl:nb.2.length+LR.length<=96)
  (k:∀(N2:Addr) (v6:Option V) (H':Hp),Fb H0 H' c d P L G N2 B (bs++bs2) (Ms++Ms2) h w g LK cl (m',nb.2++LR)->H0 N2=none->D.nx [some (.ref P),v1,v2,some (.ref N2),some (.ref B),some (.ref F),v6] H'):
  thin K c d D [some (.ref P),v1,v2,some (.ref N),some (.ref B),some (.ref F),v6] H:=by
 have g0:=X.pz.R.F.g0;have g6:=X.pz.R.F.g1;have m16:=X.pz.R.F.m;have l1:=Y.len;have l2:=Y.lnM;unfold thin;symm;refine⟨⟨_,Ml Y.top⟩,?_⟩
 refine bi (K:=K) (xs:=bs2.map V.ref) (fun i σ H'=>∃(N2:Addr) (v6:Option V),σ=[some (.ref P),v1,v2,some (.ref N2),some (.ref B),some (.ref F),v6]/\Fb H0 H' c d P L G N2 B (bs++bs2.take i) (Ms++Ms2.take i) h w g LK cl (runA nb.1 (LR.take i),nb.2++LR.take i)/\H0 N2=none/\IsBk H' F bs2 Ms2 LR)
  ⟨N,_,rfl,by simpa using X,fN,Y⟩ (fun i σ H' _ ⟨_,_,_,_,_,y⟩=>Ml y.top) ?_ ?_
 . rintro i v σ H1 hv ⟨N2,v6,rfl,X1,fN2,Y1⟩;obtain⟨b,hb,rfl⟩:=br hv;have hi:i<bs2.length:=(L1.mp hb).1;have eM:Ms2[i]? =some Ms2[i]:=LW (by omega);have et:LR[i]? =some LR[i]:=LW (by omega);have Th:=Y1.at_ i b _ _ hb eM et;have hMm:Ms2[i]∈Ms2:=ME _;have tb:bs2.take (i+1)=bs2.take i++[b]:=by rw[M8,hb];rfl
   have tM:Ms2.take (i+1)=Ms2.take i++[Ms2[i]]:=by rw[M8,eM];rfl
   have tt:LR.take (i+1)=LR.take i++[LR[i]]:=by rw[M8,et];rfl
   have W1:Wlk h w g LK cl ks nb.1 (LR.take i++LR.drop i) m':=by rw[PH];exact W
   have W2:=W1.pre.2;rw[Nr (show i<LR.length by omega)] at W2;have ok:=W2.1;have M1:=X1.mp;dsimp only at M1;have tl:(LR.take i).length<=LR.length:=by rw[Nb];omega
   generalize hM:Ms2[i]=M at*;generalize hth:LR[i]=th at*;rw[tb,tM,tt];have er:runA nb.1 (LR.take i++[th])=stL (runA nb.1 (LR.take i)) th.z th.s:=by unfold runA;rw[N1];rfl
   rw[er];generalize runA nb.1 (LR.take i)=nw at*;have MB:M≠B:=fun e=>nM (e ▸ hMm);have bkl:=X1.bk.len;rw[Mz] at bkl;symm;refine⟨bb X1.bk.top,?_⟩;rw[cP X1.bk.top];refine⟨by rw[LV,X1.bk.len,Mz];exact aD (by omega),?_⟩;have Bk:=X1.bk.app (th:=th) (L3 H1) Th MB;have s4:=X1.sm.own (o:=.lst ((bs++bs2.take i).map V.ref++[V.ref b])) X.fB;have n4:(upd H1 B (.lst ((bs++bs2.take i).map V.ref++[V.ref b]))) N2=some (.lst (nw.map V.int)):=by rw[ai X1.nB];exact X1.nw
   have Y4:=Y1.keep (ys:=(bs++bs2.take i).map V.ref++[V.ref b]) X1.bk.top nF nM;have Th4:=Y4.at_ i b M th hb (by rw[eM]) (by rw[et]);generalize upd H1 B (.lst ((bs++bs2.take i).map V.ref++[V.ref b]))=H4 at*;symm;refine ixT Th4.T (v:=V.int th.z) rfl ?_;symm;refine ixT Th4.T (v:=V.int th.s) rfl ?_;symm;have sb:=ok.2.2.2.1;refine⟨N2,nw,th.z,th.s,rfl,n4,by have:=M1.len;omega,by omega,fun N3 H5 s5 hN3 eN3=>?_⟩;refine⟨N3,_,rfl,⟨s4.trans s5,X.pz,eN3,M1.stL g0 g6 sb.1 (by omega),?_,fun e'=>?_,X.fB,fun x hx=>?_,fun x hx=>?_⟩,s4.free hN3,Y4.same s5⟩
   . have:=Bk.same s5;rw[M3,M3,M3] at this;exact this
   . rw[e',Bk.top] at hN3;cases hN3
   . rw[← M3] at hx;rcases Mj.mp hx with hx | hx
     . exact X1.fb x hx
     . rw[Ma.mp hx];exact fb2 b (L5 hb)
   . rw[← M3] at hx;rcases Mj.mp hx with hx | hx
     . exact X1.fM x hx
     . rw[Ma.mp hx];exact fM2 M hMm
 . rintro σ H1 ⟨N2,v6,rfl,X1,fN2,Y1⟩;rw[LV,M0,show bs2.length=Ms2.length by omega,M0,show Ms2.length=LR.length by omega,M0] at X1;rw[← W.run] at X1;exact k N2 v6 H1 X1 fN2
theorem Fp(h:uC K c d vs H Q E):uD K c d (eD9 Q) (start ["puzzle","masks","kinds","now","book","found","thought"] vs) H:=by
 obtain⟨P,L,G,A,Kd,h,w,g,LK,cl,LI,ks,rfl,X,hK,q⟩:=h;have g0:=X.P.R.F.g0;have g6:=X.P.R.F.g1;have m16:=X.P.R.F.m;have b96:=HI g0 g6 X.mkp (by omega);show uD K c d _ [some (.ref P),some (.ref A),some (.ref Kd),none,none,none,none] H;unfold uD;symm;refine oz X.A fun N hN=>?_;obtain⟨H1,z9,s1,eN⟩:=aS (.lst (LI.map V.int)) hN;rw[z9];symm;refine⟨aN (by decide),fun B hB=>?_⟩;have s2:Same H1 (upd H1 B (.lst [])):=(L3 H1).laid hB;have eB:(upd H1 B (.lst [])) B=some (.lst []):=ag;have nNB:N≠B:=fun e=>by rw[e] at eN;rw[eN] at hB;cases hB
 generalize upd H1 B (.lst [])=H2 at*;have s12:=s1.trans s2;have X0:Fb H H2 c d P L G N B [] [] h w g LK cl (LI,[]):=⟨s12,X.P,s2 _ _ eN,X.mkp,IsBk.nil eB,nNB,s1.free hB,(fun b hb=>by cases hb),(fun b hb=>by cases hb)⟩
 refine⟨fun m σ H'=>∃(N:Addr) (bs Ms:List Addr) (v5 v6:Option V) (nb:List Int × List Tho),σ=[some (.ref P),some (.ref A),some (.ref Kd),some (.ref N),some (.ref B),v5,v6]/\Fb H H' c d P L G N B bs Ms h w g LK cl nb/\H N=none/\Wlk h w g LK cl ks LI nb.2 nb.1/\Go h w g LK cl ks LI nb.2 nb.1/\m=btA nb.1,
  ⟨_,N,[],[],none,none,(LI,[]),rfl,X0,hN,rfl,.nil,rfl⟩,?_⟩
 rintro m σ H3 ⟨N2,bs,Ms,v5,v6,nb,rfl,X3,fN,W,Gg,rfl⟩
 have ret:∀(H4:Hp),Same H3 H4->(0∈nb.1\/ffF h w g LK cl nb.1 ks=[])->([V.ref N2,V.ref B]:List V).length<=sizeLine/\∀ p,H4 p=none->Q (.ref p) (upd H4 p (.tup [V.ref N2,V.ref B])):=fun H4 s4 hend=>by
  have X4:=X3.same s4;refine⟨lnR rfl,fun T hT=>?_⟩;have s5:Same H4 (upd H4 T (.tup [V.ref N2,V.ref B])):=(L3 H4).laid hT;exact q T N2 B bs Ms nb.1 nb.2 _ (X4.sm.trans s5) (X4.sm.free hT) fN X3.fB X3.fb X3.fM ag (s5 _ _ X4.nw) (X4.bk.same s5) X3.nB W hend (Gg.full hend)
 have ob:=W.okM g0 g6 X.mkp;symm;refine⟨N2,nb.1,rfl,X3.nw,?_⟩;by_cases h0:(0:Int)∈nb.1
 . rw[LY h0];refine⟨true,rfl,iteF ?_⟩;symm;exact ret H3 (L3 _) (.inl h0)
 . rw[L0 h0];refine⟨false,rfl,iteT ?_⟩
   refine⟨fun σ H'=>∃(N:Addr) (bs Ms:List Addr) (v5 v6:Option V) (nb2:List Int × List Tho),σ=[some (.ref P),some (.ref A),some (.ref Kd),some (.ref N),some (.ref B),v5,v6]/\Fb H H' c d P L G N B bs Ms h w g LK cl nb2/\H N=none/\Wlk h w g LK cl ks LI nb2.2 nb2.1/\Go h w g LK cl ks LI nb2.2 nb2.1/\btA nb2.1<btA nb.1,
    fun σ' H' ⟨N',bs',Ms',v5',v6',nb',e,X',fN',W',G',lt⟩=>⟨_,lt,N',bs',Ms',v5',v6',nb',e,X',fN',W',G',rfl⟩,?_⟩
   symm;refine⟨P,L,G,N2,Kd,h,w,g,LK,cl,nb.1,ks,rfl,X3.lk,hK.same X3.sm,fun F bs2 Ms2 H4 s4 hF hb2 hM2 Y=>?_⟩;obtain⟨m',W2⟩:=Fo (cl:=cl) (ks:=ks) X.P.R X3.mp h0;symm;rw[ay];symm;refine⟨aN (by decide),fun E hE=>?_⟩;obtain⟨H5,z9,s5,eE⟩:=aS (.lst []) hE;rw[z9];have s45:=s4.trans s5;refine HF (Y.same s5) eE ?_;by_cases hl:(ffF h w g LK cl nb.1 ks).length=0
   . rw[LY hl];refine⟨_,rfl,iteT ?_⟩;symm;exact ret H5 s45 (.inr (Og.mp hl))
   . rw[L0 hl];refine⟨_,rfl,iteF ?_⟩;have ob2:=W2.okM g0 g6 X3.mp;have X5:=X3.same s45;have nF:F≠B:=fun e=>by rw[e,X3.bk.top] at hF;cases hF
     have nM:B∉Ms2:=fun hm=>by have:=hM2 B hm;rw[X3.bk.top] at this;cases this
     refine GB X5 fN (Y.same s5) nF nM (fun b hb=>X3.sm.free (hb2 b hb)) (fun M hM=>X3.sm.free (hM2 M hM)) W2 (by omega) fun N3 v6 H6 X6 fN3=>?_;exact⟨N3,_,_,_,_,_,rfl,X6,fN3,W.trans W2,(by have:=Go.step Gg h0 (fun e=>hl (by rw[e];rfl));rw[← W2.run] at this;exact this),by show btA m'<btA nb.1;omega⟩
theorem Ai(m0:0<=m)(m1:m<64):x∈sgL m↔∃ j:Nat,j<6/\stB m (1+(j:Int))=true/\x=1+(j:Int):=by
 rw[(dE m0 m1).2,Mg];constructor
 . rintro⟨j,hj,rfl⟩;obtain⟨h1,h2⟩:=L8.mp hj;exact⟨j,by simp at h1;omega,h2,rfl⟩
 . rintro⟨j,hj,h2,rfl⟩;refine⟨j,L8.mpr ⟨?_,h2⟩,rfl⟩;have:j=0\/j=1\/j=2\/j=3\/j=4\/j=5:=by omega
   rcases this with rfl | rfl | rfl | rfl | rfl | rfl <;> simp
variable{b:Int}
theorem Sub30.sg(X:Sub30 a b):∀ x∈sgL a,x∈sgL b:=fun x hx=>by
 obtain⟨j,hj,h2,rfl⟩:=(Ai X.a0 X.a1).mp hx;exact(Ai X.b0 X.b1).mpr ⟨j,hj,X.st _ h2,rfl⟩
theorem Sub30.len(X:Sub30 a b):(sgL a).length<=(sgL b).length:=by
 rw[(dE X.a0 X.a1).2,(dE X.b0 X.b1).2,LV,LV,← OO,← OO];exact List.countP_mono_left fun j _ hj=>X.st _ hj
theorem Sub30.zero(X:Sub30 a b)(hb:b=0):a=0:=by
 subst hb;by_cases h:a=0
 . exact h
 . have h1:=(Cn X.a0 X.a1 h).1.1;have h2:=X.len;rw[DX] at h2;simp at h2;rw[h2] at h1;simp at h1
theorem HJ:((List.range 64).all fun m=>decide (m=0)||((decide (loM (m:Int)∈sgL (m:Int))&&decide (hiM (m:Int)∈sgL (m:Int)))&&(sgL (m:Int)).all fun x=>decide (loM (m:Int)<=x)&&decide (x<=hiM (m:Int))))=true:=by decide+kernel
theorem FL(m0:0<=m)(m1:m<64)(hm:m≠0):(loM m∈sgL m/\hiM m∈sgL m)/\∀ x∈sgL m,loM m<=x/\x<=hiM m:=by
 have t:=L6.mp HJ m.toNat (Mb.mpr (by omega));have e1:((m.toNat:Nat):Int)=m:=by omega
 rw[e1,Nk,LX,LZ,LZ,LX,LX,L6] at t;rcases t with t | ⟨t1,t2⟩
 . omega
 . refine⟨t1,fun x hx=>?_⟩;have:=t2 x hx;rw[LZ,LX,LX] at this;exact this
theorem Sub30.lo(X:Sub30 a b)(ha:a≠0):loM b<=loM a/\hiM a<=hiM b:=by
 have hb:b≠0:=fun e=>ha (X.zero e);have ka:=FL X.a0 X.a1 ha;have kb:=FL X.b0 X.b1 hb;exact⟨(kb.2 _ (X.sg _ ka.1.1)).1,(kb.2 _ (X.sg _ ka.1.2)).2⟩
def d3(rest LI less:List Int):Prop:=∀ o∈rest,Sub30 (less.getD o.toNat 0) (LI.getD o.toNat 0)
theorem Fq{less:List Int}{n:Int}(X:d3 (othL cs z) LI less)(s0:1<=s)(s6:s<=6)(h:cntB cs n m LI z s ms=true):cntB cs n m less z s ms=true:=by
 unfold cntB at h ⊢;rw[LZ] at h ⊢;refine⟨h.1,?_⟩;have h2:=h.2
 split at h2
 . rename_i e
   rw[Mp e];rw[LX] at h2 ⊢
   have:=il (f:=fun c=>LI.getD c.toNat 0) (g:=fun c=>less.getD c.toNat 0) (p:=fun k=>decide (woI k s=0)) (q:=fun k=>decide (woI k s=0)) (cs:=othL cs z) fun c hc hp=>by
    rw[LX] at hp ⊢;exact(X c hc).wo s0 s6 hp
   unfold sgAt at h2 ⊢;omega
 . rename_i e
   rw[Md e];rw[LX] at h2 ⊢;have:=il (f:=fun c=>less.getD c.toNat 0) (g:=fun c=>LI.getD c.toNat 0) (p:=fun k=>stB k m) (q:=fun k=>stB k m) (cs:=othL cs z) fun c hc hp=>(X c hc).st _ hp;unfold sgAt at h2 ⊢;omega
theorem xY{rest less:List Int}(X:d3 rest LI less)(h:0∈sgAt LI rest):0∈sgAt less rest:=by
 unfold sgAt at h ⊢;obtain⟨o,ho,e⟩:=Mg.mp h;exact Mg.mpr ⟨o,ho,(X o ho).zero e⟩
theorem Aj{LI less:List Int}:∀{rest:List Int},d3 rest LI less->0∉sgAt less rest->((sgAt LI rest).map loM).sum<=((sgAt less rest).map loM).sum/\((sgAt less rest).map hiM).sum<=((sgAt LI rest).map hiM).sum
 | [],_,_=>⟨Int.le_refl _,Int.le_refl _⟩
 | o::r,X,h=>by
  have X1:d3 r LI less:=fun c hc=>X c (Mc _ hc);have e:∀ l:List Int,sgAt l (o::r)=l.getD o.toNat 0::sgAt l r:=fun l=>rfl;rw[e] at h;have ih:=Aj X1 fun hm=>h (Mc _ hm);have h1:=(X o Mf).lo fun e0=>h (by rw[e0];exact Mf);rw[e,e,Mx,Mx,Mx,Mx,NZ,NZ,NZ,NZ];omega
theorem Fr{rest less:List Int}{n:Int}(X:d3 rest LI less)(h:smB (sgAt LI rest) n s=true):smB (sgAt less rest) n s=true:=by
 unfold smB at h ⊢;by_cases h0:0∈sgAt less rest
 . rw[LY h0,N8]
 . have h1:0∉sgAt LI rest:=fun e=>h0 (xY X e);rw[L0 h0,Nc];rw[L0 h1,Nc] at h;have sm:=Aj X h0;rw[Nk,LX,LX] at h ⊢;omega
theorem Fs(X:Sub30 a b)(h:nogB s b=true):nogB s a=true:=by
 unfold nogB at h ⊢;rw[L6] at h ⊢;exact fun x hx=>h x (X.sg x hx)
theorem Ft(X:Sub30 a b)(h:nolB s b=true):nolB s a=true:=by
 unfold nolB at h ⊢;rw[L6] at h ⊢;exact fun x hx=>h x (X.sg x hx)
theorem Fu{less:List Int}(X:d3 (ahdL cs z++behL cs z) LI less)(h:stpB cs LI z s=true):stpB cs less z s=true:=by
 unfold stpB at h ⊢;rw[Nk,NI,NI] at h ⊢;rcases h with ⟨o,ho,hh⟩ | ⟨o,ho,hh⟩
 . exact .inl ⟨o,ho,Fs (X o (Mj.mpr (.inl ho))) hh⟩
 . exact .inr ⟨o,ho,Ft (X o (Mj.mpr (.inr ho))) hh⟩
theorem xZ{LI less:List Int}:∀{rest:List Int} {n n':Nat},d3 rest LI less->n'<=n->(sgAt less rest).foldl (fun p m=>p*(sgL m).length) n'<=(sgAt LI rest).foldl (fun p m=>p*(sgL m).length) n
 | [],_,_,_,h=>h
 | o::r,n,n',X,h=>by
  have X1:d3 r LI less:=fun c hc=>X c (Mc _ hc);have e:∀ l:List Int,sgAt l (o::r)=l.getD o.toNat 0::sgAt l r:=fun l=>rfl;rw[e,e,Nj,Nj];exact xZ X1 (N6 h (X o Mf).len)
theorem vR{LI less:List Int}:∀{rest:List Int} {fs fs':List (List Int)},d3 rest LI less->(∀ f∈fs',f∈fs)->∀ f∈wfold less rest fs',f∈wfold LI rest fs
 | [],_,_,_,h,f,hf=>h f hf
 | o::r,fs,fs',X,h,f,hf=>by
  have X1:d3 r LI less:=fun c hc=>X c (Mc _ hc);refine vR (rest:=r) (fs:=extS fs o (sgL (LI.getD o.toNat 0))) (fs':=extS fs' o (sgL (less.getD o.toNat 0))) X1 (fun g hg=>?_) f hf;obtain⟨a,ha,s,hs,rfl⟩:=mem_extS.mp hg;exact mem_extS.mpr ⟨a,h a ha,s,(X o Mf).sg s hs,rfl⟩
theorem Eo{k:RK}{less:List Int}{n:Int}(X:d3 (othL cs z) LI less)(el:less.length=LI.length)(hb:waysB k h w cs n m LI z s ms=true):waysB k h w cs n m less z s ms=true:=by
 unfold waysB at hb ⊢;rw[LZ,LZ,Nk] at hb ⊢;refine⟨hb.1,?_,?_⟩
 . have h1:=L4 hb.2.1;have h2:prodW (sgAt less (othL cs z))<=prodW (sgAt LI (othL cs z)):=xZ X (Mu 1);exact LY (by omega)
 . rcases hb.2.2 with h0 | h0
   . exact .inl (LY (xY X (L4 h0)))
   . refine .inr ?_;rw[M7,List.any_eq_false] at h0 ⊢;intro f hf;refine h0 f ?_;unfold wfill at hf ⊢;rw[el] at hf;exact vR X (fun g hg=>hg) f hf
theorem HK{x:RR}{less:List Int}(ht:K39 t)(X:d3 (Hy x t z) LI less)(el:less.length=LI.length)(s0:1<=s)(s6:s<=6)(hb:d2 h w x LI t z s ms=true):d2 h w x less t z s ms=true:=by
 rcases ht with rfl | rfl | rfl | rfl
 . exact Fq X s0 s6 hb
 . have hb:sumB x.cs x.n LI z s ms=true:=hb;show sumB x.cs x.n less z s ms=true;unfold sumB at hb ⊢;rw[LZ] at hb ⊢;exact⟨hb.1,Fr X hb.2⟩
 . have hb:stepB x.cs LI z s ms=true:=hb;show stepB x.cs less z s ms=true;unfold stepB at hb ⊢;rw[LZ] at hb ⊢;exact⟨hb.1,Fu X hb.2⟩
 . exact Eo X el hb
variable{s:Int}
theorem Fv{m:Int}(nz:m≠0)(h:woI m s=0):stB m s=true:=by
 unfold woI at h
 split at h
 . assumption
 . exact absurd h nz
variable{cs:List Int}
theorem GC{h w:Int}{st x:Int}:rcB h w cs st x=true↔RC h w cs st x:=by unfold rcB;exact @Of _ (Classical.propDecidable _)
theorem rcB_no{h w:Int}{st x:Int}:(!rcB h w cs st x)=true↔¬ RC h w cs st x:=by rw[M7,← OB,GC]
variable{LK:List RR}{LI:List Int}
theorem Ep{h w g:Int}{t:TK}{r z:Int}(n1:t≠.place)(n2:t≠.square)(n3:t≠.turn)(n4:t≠.only)(n5:t≠.reach)(n6:t≠.pair):mtF h w g LK LI t r z s=[[]]:=by
 unfold mtF;rw[Md n1,Md n2,Md n3]
 split
 . rfl
 . rw[Md n4,Md n5,Md n6]
variable{ms:List Int}
theorem gP(h:ms.length=1):ms=[ms.getD 0 0]:=by
 match ms,h with
 | [a],_=>rfl
theorem vS(h:ms.length=2):ms=[ms.getD 0 0,ms.getD 1 0]:=by
 match ms,h with
 | [a,b],_=>rfl
theorem IC(nz:0∉LI){o:Int}(h:o.toNat<LI.length):LI.getD o.toNat 0≠0:=fun e=>nz (e ▸ bv h)
theorem rng1_mem{g o:Int}:o∈rngL 1 (g+1)↔1<=o/\o<=g:=by
 unfold rngL;rw[Mg];constructor
 . rintro⟨k,hk,rfl⟩;have:=Mb.mp hk;omega
 . intro⟨a,b⟩;exact⟨(o-1).toNat,Mb.mpr (by omega),by omega⟩
theorem CA{p:Int->Bool}{a b:Int}(ha:a∈cs.filter p)(hb:b∈cs.filter p)(h:(cs.filter p).findIdx (· ==a) < (cs.filter p).findIdx (· ==b)):cs.findIdx (· ==a)<cs.findIdx (· ==b):=by
 induction cs with
 | nil=>cases ha
 | cons x cs ih=>
  rw[Op,Op];by_cases hx:p x=true
  . rw[MN,Mp hx] at ha hb h;rw[Op,Op] at h;by_cases e1:(x==a)=true
    . rw[e1] at h ⊢;by_cases e2:(x==b)=true
      . rw[e2] at h;simp at h
      . rw[OB] at e2;rw[e2];simp
    . rw[OB] at e1;rw[e1] at h ⊢;by_cases e2:(x==b)=true
      . rw[e2] at h;simp at h
      . rw[OB] at e2;rw[e2] at h ⊢;have ha':a∈cs.filter p:=(Mn.mp ha).elim (fun e=>by rw[e] at e1;simp at e1) id;have hb':b∈cs.filter p:=(Mn.mp hb).elim (fun e=>by rw[e] at e2;simp at e2) id;have:=ih ha' hb' (by simpa using h)
        simpa using this
  . rw[MN,Md hx] at ha hb h
    have e1:(x==a)=false:=by
     rw[Bool.eq_false_iff];intro e;exact hx (NO.mp e ▸ (L8.mp ha).2)
    have e2:(x==b)=false:=by
     rw[Bool.eq_false_iff];intro e;exact hx (NO.mp e ▸ (L8.mp hb).2)
    rw[e1,e2];have:=ih ha hb h
    simpa using this
theorem HL{xs:List Int}(h:(xs.filter fun x=>!decide (x=s)).length<=1)(nd:xs.Nodup):xs.length<=2:=by
 have:=dI (ys:=s::xs.filter fun x=>!decide (x=s)) nd fun x hx=>by
  by_cases e:x=s
  . rw[e];exact Mf
  . exact Mc _ (L8.mpr ⟨hx,by simpa using e⟩)
 rw[My] at this;omega
theorem CB{k:RK}(h:goesB .reach k=true):allK k=true:=by cases k <;> first | rfl | cases h
theorem compA{c:RCl RK}{h w g:Int}{cl:List Int}{t:TK}{r z:Int}(R:bB c h w g LK)(X:MkP g (h*w).toNat LI)(nz:0∉LI)(f:formB h w g LK t r z s=true)(hb:strA h w g LK cl LI t r z s ms=true):
  ∃ ms'∈mtF h w g LK LI t r z s,strA h w g LK cl LI t r z s ms'=true:=by
 obtain⟨z0,z1,s0,s1,LU⟩:=bD f;have F:=R.F;have g0:=F.g0;have g6:=F.g1;have p64:=gW g0 g6
 have mb:∀ o:Int,0<=o->o<h*w->(0<=LI.getD o.toNat 0/\LI.getD o.toNat 0<64)/\LI.getD o.toNat 0≠0:=fun o o0 o1=>by
  have hl:o.toNat<LI.length:=by rw[X.len];omega
  have:=X.mm _ (bv hl);exact⟨by omega,IC nz hl⟩
 by_cases hc:t=.clue
 . subst hc
   have e:ms=[]:=by
    have:clueB cl z s ms=true:=hb;unfold clueB at this;rw[LZ] at this;exact L4 this.1
   exact⟨[],by rw[Ep (by decide) (by decide) (by decide) (by decide) (by decide) (by decide)];simp,e ▸ hb⟩
 obtain⟨r0,y,ey,hgo,hz⟩:=dC hc LU;have O:=R.ok y (L5 ey);have keep:∀ t',t=t'->(ms∈mtF h w g LK LI t' r z s)->∃ ms'∈mtF h w g LK LI t r z s,strA h w g LK cl LI t r z s ms'=true:=fun t' e q=>⟨ms,e ▸ q,hb⟩;have nil:(t≠.place)->(t≠.square)->(t≠.turn)->(t≠.only)->(t≠.reach)->(t≠.pair)->ms=[]->∃ ms'∈mtF h w g LK LI t r z s,strA h w g LK cl LI t r z s ms'=true:=fun a1 a2 a3 a4 a5 a6 e=>⟨[],by rw[Ep a1 a2 a3 a4 a5 a6];simp,e ▸ hb⟩
 cases t with
 | clue=>exact absurd rfl hc
 | only=>
  have q:onlyB y.cs LI z s ms=true:=by
   have:=hb;unfold strA dZ at this;simp only[lineK,NB,ey] at this;exact this
  unfold onlyB at q;simp only[LZ,LX] at q;refine⟨ms,?_,hb⟩;unfold mtF;rw[Md (by decide),Md (by decide),Md (by decide),ey];dsimp only;rw[Mp rfl];unfold onlM;rw[gP q.1,Mg];exact⟨_,L8.mpr ⟨srt_mem.mpr q.2.1,LY q.2.2⟩,rfl⟩
 | place=>
  have q:gN g y.cs LI z s ms=true:=by
   have:=hb;unfold strA dZ at this;simp only[lineK,NB,ey] at this;exact this
  unfold gN at q;simp only[LZ,LX,M7,Ng] at q;refine⟨ms,?_,hb⟩;unfold mtF;rw[Mp rfl];unfold plaM;rw[gP q.2.1,Mg];exact⟨_,L8.mpr ⟨rng1_mem.mpr q.2.2.2.1,by simpa using q.2.2.1⟩,rfl⟩
 | pair=>
  have q:pairB y.cs LI z s ms=true:=by
   have:=hb;unfold strA dZ at this;simp only[lineK,NB,ey] at this;exact this
  unfold pairB ordB at q;simp only[LZ,LX] at q;obtain⟨⟨l2,a1,a2,a3⟩,few⟩:=q;refine⟨ms,?_,hb⟩;unfold mtF;rw[Md (by decide),Md (by decide),Md (by decide),ey];dsimp only;rw[Md (by decide),Md (by decide),Mp rfl];have inr:∀ o∈y.cs,0<=o/\o<h*w:=fun o ho=>by have:=(OH O F).2 o ho;omega
  have b1:=inr _ (L8.mp a1).1;have b2:=inr _ (L8.mp a2).1;have m1:=(mb _ b1.1 b1.2).1;have m2:=(mb _ b2.1 b2.2).1;have e2:(sgL (orM LI ms)).length<=2:=HL few (rB _)
  have small:∀ o:Int,(0<=LI.getD o.toNat 0/\LI.getD o.toNat 0<64)->(∀ x,1<=x->x<=6->stB (LI.getD o.toNat 0) x=true->stB (orM LI ms) x=true)->((sgL (LI.getD o.toNat 0)).length:Int)<=2:=fun o b q=>by
   have bo:0<=orM LI ms:=by
    have:=(LZ _ _ ▸ L6.mp (L6.mp DU (LI.getD (ms.getD 0 0).toNat 0).toNat (Mb.mpr (by omega))) (LI.getD (ms.getD 1 0).toNat 0).toNat (Mb.mpr (by omega)):_/\_).1;rw[show(((LI.getD (ms.getD 0 0).toNat 0).toNat:Nat):Int)=LI.getD (ms.getD 0 0).toNat 0 by omega,show(((LI.getD (ms.getD 1 0).toNat 0).toNat:Nat):Int)=LI.getD (ms.getD 1 0).toNat 0 by omega] at this;exact L4 this
   have:=dI (rB (LI.getD o.toNat 0)) fun x hx=>by
    have hx':=(iG b.1 x).mp hx;have bx:=oG (g:=6) (m:=LI.getD o.toNat 0) (by decide) (by decide) b.1 (by simpa using b.2) hx;exact(iG bo x).mpr (q x bx.1 bx.2 hx')
   omega
  unfold paiM;rw[vS l2,NU];refine⟨ms.getD 0 0,L8.mpr ⟨srt_mem.mpr a1,LY ?_⟩,Mg.mpr ⟨ms.getD 1 0,L8.mpr ⟨L8.mpr ⟨srt_mem.mpr a2,LY ?_⟩,LY ?_⟩,rfl⟩⟩
  . exact small _ m1 fun x x0 x6 hx=>by unfold orM;rw[y7 m1.1 m1.2 m2.1 m2.2 x0 x6,hx];rfl
  . exact small _ m2 fun x x0 x6 hx=>by unfold orM;rw[y7 m1.1 m1.2 m2.1 m2.2 x0 x6,hx,Bool.or_true]
  . have:=CA a1 a2 a3;omega
 | square=>
  have q:squB h w y.m LI z s ms=true:=by
   have:=hb;unfold strA fK at this;simp only[lineK,nbrK,NR,MX,ey,km] at this;exact this
  unfold squB at q;simp only[LZ,LX,M7,Ng] at q;refine⟨ms,?_,hb⟩;unfold mtF;rw[Md (by decide),Mp rfl];unfold squM;rw[gP q.2.1,Mg];have ne:=q.2.2.1;unfold rosL at ne
  cases e:(squL h w).find? (rosP (ms.getD 0 0) z) with
  | none=>rw[e] at ne;exact absurd rfl ne
  | some sq=>
   have hp:=PB e;unfold rosP at hp;rw[LZ,LX] at hp;exact⟨sq,L8.mpr ⟨N9 e,hp.2⟩,by rw[hp.1]⟩
 | turn=>
  have q:turnB h w y.m LI z s ms=true:=by
   have:=hb;unfold strA fK at this;simp only[lineK,nbrK,NR,MX,ey,km] at this;exact this
  refine⟨ms,?_,hb⟩;unfold mtF;rw[Md (by decide),Md (by decide),Mp rfl];unfold turM;unfold turnB at q;by_cases e:ms=[]
  . rw[e];exact Mf
  . rw[Md e] at q;simp only[LZ,LX] at q;rw[gP q.1];exact Mc _ (Mg.mpr ⟨_,q.2.1,rfl⟩)
 | reach=>
  have str:∀ ms',strA h w g LK cl LI .reach r z s ms'=reaB h w y.cs y.m LI z s ms':=fun ms'=>by
   unfold strA fK;simp only[lineK,nbrK,NR,MX,ey,km]
  have mt:mtF h w g LK LI .reach r z s=reaM h w y.cs y.m LI z s:=by
   unfold mtF;rw[Md (by decide),Md (by decide),Md (by decide),ey];dsimp only;rw[Md (by decide),Mp rfl]
  rw[str] at hb;simp only[str,mt];have hcs:y.cs=rngL 0 (h*w):=(O.cl.all (CB hgo)).2;have mm0:=O.m0 (mP hgo)
  have insure:∀ o,anoB h w LI z y.m o=true->o∈sureA y.cs LI y.m z:=fun o ho=>by
   unfold anoB at ho;simp only[LZ,LX,M7,Ng] at ho;exact L8.mpr ⟨L8.mpr ⟨by rw[hcs];exact mem_rngL.mpr ho.1,by simpa using ho.2.1⟩,LY ho.2.2⟩
  have sure_in:∀ o∈sureA y.cs LI y.m z,anoB h w LI z y.m o=true:=fun o ho=>by
   obtain⟨h1,h2⟩:=L8.mp ho;obtain⟨h3,h4⟩:=L8.mp h1;rw[hcs] at h3;have:=mem_rngL.mp h3;unfold anoB;rw[LY this.1,LY this.2,h4,h2];rfl
  have thr:∀ o∈sureA y.cs LI y.m z,o∈thrL y.cs LI y.m z:=fun o ho=>by
   obtain⟨h1,h2⟩:=L8.mp ho;have h3:=(L8.mp h1).1;rw[hcs] at h3;have b:=mem_rngL.mp h3;exact L8.mpr ⟨h1,Fv (mb o b.1 b.2).2 (L4 h2)⟩
  unfold reaB at hb;rw[LZ,L6] at hb;obtain⟨al,hb⟩:=hb;by_cases e:s=y.m
  . rw[Mp e,LZ,LX] at hb;have em:=gP hb.1;have ha:anoB h w LI z y.m (ms.getD 0 0)=true:=al _ (em ▸ Ma.mpr rfl |> fun q=>by rw[em];simp);refine⟨ms,?_,?_⟩
    . unfold reaM;rw[Mp e,em,Mg];exact⟨_,L8.mpr ⟨insure _ ha,hb.2⟩,rfl⟩
    . unfold reaB;rw[LZ,L6,Mp e,LZ,LX];exact⟨al,hb⟩
  . rw[Md e,LZ,LZ,LX,M7,Ng,rcB_no] at hb;obtain⟨l2,ne,nr⟩:=hb;have em:=vS l2;have ha:anoB h w LI z y.m (ms.getD 0 0)=true:=al _ (by rw[em];simp);have hb':anoB h w LI z y.m (ms.getD 1 0)=true:=al _ (by rw[em];simp);have i1:=insure _ ha;have i2:=insure _ hb'
    have hr:∀ x∈thrL y.cs LI y.m z,0<=x/\x<h*w:=fun x hx=>by
     have h3:=(L8.mp (L8.mp hx).1).1;rw[hcs] at h3;exact mem_rngL.mp h3
    have i0:(sureA y.cs LI y.m z).getD 0 0∈sureA y.cs LI y.m z:=bv (Om i1);generalize hq:(sureA y.cs LI y.m z).getD 0 0=q0 at i0
    have go:∀ o∈sureA y.cs LI y.m z,¬ RC h w (thrL y.cs LI y.m z) q0 o->∃ ms'∈reaM h w y.cs y.m LI z s,reaB h w y.cs y.m LI z s ms'=true:=fun o ho nq=>by
     refine⟨[q0,o],?_,?_⟩
     . unfold reaM;rw[Md e,hq,Mg];exact⟨o,L8.mpr ⟨ho,rcB_no.mpr nq⟩,rfl⟩
     . unfold reaB;rw[LZ,L6,Md e];refine⟨fun x hx=>?_,?_⟩
       . rcases Mn.mp hx with rfl | hx
         . exact sure_in _ i0
         . rw[Ma.mp hx];exact sure_in _ ho
       . have n2:q0≠o:=fun e'=>nq (e' ▸ .start (thr _ i0));show(decide (2=2)&&(!decide (q0=o)&&!rcB h w (thrL y.cs LI y.m z) q0 o))=true;rw[L0 n2,rcB_no.mpr nq];rfl
    by_cases c1:RC h w (thrL y.cs LI y.m z) q0 (ms.getD 0 0)
    . refine go _ i2 fun c2=>nr ((c1.symm (by have:=F.w0;omega) hr).trans c2)
    . exact go _ i1 c1
 | count=>refine nil (by decide) (by decide) (by decide) (by decide) (by decide) (by decide) ?_
          have q:cntB y.cs y.n y.m LI z s ms=true:=by
           have:=hb;unfold strA cw at this;simp only[lineK,nbrK,NB,NR,MX,ey,d2] at this;exact this
          unfold cntB at q;rw[LZ] at q;exact L4 q.1
 | step=>refine nil (by decide) (by decide) (by decide) (by decide) (by decide) (by decide) ?_
         have q:stepB y.cs LI z s ms=true:=by
          have:=hb;unfold strA cw at this;simp only[lineK,nbrK,NB,ey,d2] at this;exact this
         unfold stepB at q;rw[LZ] at q;exact L4 q.1
 | sum=>refine nil (by decide) (by decide) (by decide) (by decide) (by decide) (by decide) ?_
        have q:sumB y.cs y.n LI z s ms=true:=by
         have:=hb;unfold strA cw at this;simp only[lineK,nbrK,NB,NR,MX,ey,d2] at this;exact this
        unfold sumB at q;rw[LZ] at q;exact L4 q.1
 | ways=>refine nil (by decide) (by decide) (by decide) (by decide) (by decide) (by decide) ?_
         have q:waysB y.k h w y.cs y.n y.m LI z s ms=true:=by
          have:=hb;unfold strA cw at this;simp only[lineK,nbrK,NB,NR,MX,ey,d2] at this;exact this
         unfold waysB at q;rw[LZ] at q;exact L4 q.1
section
variable{c:RCl RK}{h w g:Int}{LK:List RR}{cl LI:List Int}{t:TK}{r z s:Int}{ms:List Int}{ks:List TK}
theorem Ak:∀{l:List Int} {nb:List Int × List Tho},(l.foldl (fbS h w g LK cl t r z) nb).2=[]->(∀ s∈l,faF h w g LK cl nb.1 t r z s=none)/\l.foldl (fbS h w g LK cl t r z) nb=nb
 | [],nb,_=>⟨(fun s hs=>nomatch hs),rfl⟩
 | s::l,nb,e=>by
  rw[Nj] at e ⊢;obtain⟨a,b⟩:=Ak e;rw[b] at e
  have:faF h w g LK cl nb.1 t r z s=none:=by
   unfold fbS at e
   split at e
   . assumption
   . simp at e
  have eq:fbS h w g LK cl t r z nb s=nb:=by unfold fbS;rw[this]
  rw[eq] at a b;rw[eq];exact⟨fun x hx=>(Mn.mp hx).elim (fun e=>e ▸ this) (a x),b⟩
theorem BM:∀{l:List Int} {nb:List Int × List Tho},∃ q,(l.foldl (fbS h w g LK cl t r z) nb).2=nb.2++q
 | [],nb=>⟨[],by simp⟩
 | s::l,nb=>by
  obtain⟨q,e⟩:=BM (l:=l) (nb:=fbS h w g LK cl t r z nb s);rw[Nj,e];unfold fbS
  split
  . exact⟨q,rfl⟩
  . exact⟨_,M3 ..⟩
theorem BN:∀{zs:List Int} {nb:List Int × List Tho},∃ q,fbL h w g LK cl t r zs nb=nb.2++q
 | [],nb=>⟨[],by simp[fbL]⟩
 | z::zs,nb=>by
  obtain⟨q,e⟩:=BM (h:=h) (w:=w) (g:=g) (LK:=LK) (cl:=cl) (t:=t) (r:=r) (z:=z) (l:=sgL (nb.1.getD z.toNat 0)) (nb:=nb);unfold fbL
  split
  . exact⟨q,e⟩
  . obtain⟨q2,e2⟩:=BN (zs:=zs) (nb:=fbC h w g LK cl t r nb z);exact⟨q++q2,by rw[e2];unfold fbC;rw[e,M3]⟩
theorem BO:∀{zs:List Int} {nb:List Int × List Tho},0∉nb.1->fbL h w g LK cl t r zs nb=[]->∀ z∈zs,∀ s∈sgL (nb.1.getD z.toNat 0),faF h w g LK cl nb.1 t r z s=none
 | [],nb,_,_,z,hz=>nomatch hz
 | z::zs,nb,n0,e,x,hx=>by
  have e2:(fbC h w g LK cl t r nb z).2=[]:=by
   unfold fbL at e
   split at e
   . exact e
   . obtain⟨q,e3⟩:=BN (h:=h) (w:=w) (g:=g) (LK:=LK) (cl:=cl) (t:=t) (r:=r) (zs:=zs) (nb:=fbC h w g LK cl t r nb z);rw[e3] at e;exact(List.append_eq_nil_iff.mp e).1
  obtain⟨a,b⟩:=Ak e2;have b':fbC h w g LK cl t r nb z=nb:=b;rcases Mn.mp hx with rfl | hx
  . exact a
  . unfold fbL at e;rw[b',Md n0] at e;exact BO n0 e x hx
theorem BP:∀{rs:List Int},ffR h w g LK cl LI t rs=[]->∀ r∈rs,fbF h w g LK cl LI t r=[]
 | [],_,r,hr=>nomatch hr
 | r::rs,e,x,hx=>by
  unfold ffR at e
  split at e
  . rename_i q
    rcases Mn.mp hx with rfl | hx
    . exact Og.mp q
    . exact BP e x hx
  . rename_i q
    rw[e] at q;exact absurd rfl q
theorem BQ:∀{ts:List TK},ffT h w g LK cl LI ts=[]->∀ t∈ts,ffR h w g LK cl LI t (rnF LK t)=[]
 | [],_,t,ht=>nomatch ht
 | t::ts,e,x,hx=>by
  unfold ffT at e
  split at e
  . rename_i q
    rcases Mn.mp hx with rfl | hx
    . exact Og.mp q
    . exact BQ e x hx
  . rename_i q
    rw[e] at q;exact absurd rfl q
theorem HM(R:bB c h w g LK)(X:MkP g (h*w).toNat LI)(nz:0∉LI)(e:ffF h w g LK cl LI ks=[])(ht:t∈ks)(a:alwA h w g LK cl LI t r z s ms=true):stB (LI.getD z.toNat 0) s=false:=by
 cases st:stB (LI.getD z.toNat 0) s with
 | false=>rfl
 | true=>
  unfold alwA at a;rw[LZ] at a;obtain⟨f,q⟩:=a;obtain⟨ms',hm,hs⟩:=compA R X nz f q;obtain⟨z0,z1,s0,s1,LU⟩:=bD f;have hl:z.toNat<LI.length:=by rw[X.len];omega
  have b:=X.mm _ (bv hl);have hT:t∈allT.filter fun t=>decide (t∈ks):=L8.mpr ⟨by cases t <;> decide,LY ht⟩;have h1:=BQ e t hT
  have hr:r∈rnF LK t/\z∈celF h w LK t r:=by
   unfold rnF celF;by_cases hc:t=.clue
   . rw[Mp hc,Mp hc];unfold hitB at LU
     split at LU
     . cases LU
     . first | rw[Mp hc] at LU | skip
       exact⟨by rw[L4 LU];simp,mem_rngL.mpr ⟨z0,z1⟩⟩
   . obtain⟨r0,y,ey,hgo,hz⟩:=dC hc LU;rw[Md hc,Md hc,ey];refine⟨Mg.mpr ⟨r.toNat,L8.mpr ⟨Mb.mpr (L1.mp ey).1,?_⟩,by omega⟩,srt_mem.mpr hz⟩;rw[ey];exact hgo
  have h2:=BP h1 r hr.1;have h3:=BO (nb:=(LI,[])) nz h2 z hr.2 s ((iG b.1 s).mpr st);unfold faF at h3;have:=O9.mp h3 ms' hm;exact absurd hs this
theorem lessA{less:List Int}(R:bB c h w g LK)(X:aW LI less)(el:less.length=LI.length)(a:alwA h w g LK cl LI t r z s ms=true):alwA h w g LK cl less t r z s ms=true:=by
 by_cases hk:K30 t
 . have e:∀ m,alwA h w g LK cl m t r z s ms=rA h w g LK cl m t r z s ms:=fun m=>by
    unfold alwA rA strA z4;rcases hk with (rfl | rfl | rfl | rfl) | (rfl | rfl | rfl) <;> rfl
   rw[e] at a ⊢;exact Hx R X hk a
 . have hk':K39 t:=by
    unfold K39;cases t <;> first | (exact absurd (.inl (by unfold K28;decide)) hk) | (exact absurd (.inr (by unfold Cv;decide)) hk) | decide
   unfold alwA at a ⊢;rw[LZ] at a ⊢;obtain⟨f,q⟩:=a;refine⟨f,?_⟩;obtain⟨z0,z1,s0,s1,LU⟩:=bD f;have g6:=R.F.g1
   have e:∀ m,strA h w g LK cl m t r z s ms=cw h w LK m t r z s ms:=fun m=>by
    unfold strA;rcases hk' with rfl | rfl | rfl | rfl <;> rfl
   rw[e] at q ⊢;obtain⟨r0,y,ey,hgo,hz⟩:=dC (IA hk') LU;unfold cw at q ⊢;rw[ey] at q ⊢;exact HK hk' (fun o _=>X o.toNat) el s0 (by omega) q
end
def fq(K:Frag):Sp:=fun vs H Q _=>∃(num many:Int),vs=[.int num,.int many]/\0<=many/\many<=16/\
 ∀(l:Addr) (H':Hp) (cs:List Nat),Same H H'->H l=none->H' l=some (.lst (nsV cs))->cs.Nodup->(∀ c∈cs,(c:Int)<many)->(cs.length:Int)=many->Q (.ref l) H'
def ju(K:Frag):TS:=
 (tSeq (tAsg (kj (tCons (tVar 1) tNil)) (gName 2))
  (tSeq (tAsg (tLst tNil) (gName 3))
  (tSeq (tFor (de (tCons (tVar 1) tNil)) (gName 4)
  (tDrop (tBM K "list" bm (tVar 3) (tCons (tBM K "list" vh (tVar 2) (tCons (tOp cMod (tOp cDiv (tVar 0) (tOp cAdd (tVar 4) (tC (.int 1)))) (tCB kLen (tCons (tVar 2) tNil))) tNil)) tNil))))
  (tRet (tVar 3)))))
variable{K:Frag}{vs:List V}{H:Hp}{Q:VK}{E:XK}
theorem vT(h:fq K vs H Q E):ju K (eD9 Q) (start ["_law_number","_law_many","_law_left","_law_found","_law_k"] vs) H:=by
 obtain⟨num,many,rfl,c0,m1,q⟩:=h;show ju K _ [some (.int num),some (.int many),none,none,none] H;unfold ju;symm;refine⟨many,rfl,by omega,by omega,fun L hL=>?_⟩;obtain⟨H1,z9,s1,eL⟩:=aS (.lst ((rngL 0 many).map V.int)) hL;rw[z9];symm;refine⟨aN (by decide),fun R hR=>?_⟩;have nRL:R≠L:=fun e=>by rw[e,eL] at hR;cases hR
 refine⟨many,rfl,by omega,by omega,?_⟩
 refine cF (fun i σ H'=>∃(kv:Option V) (fs ls:List Int),σ=[some (.int num),some (.int many),some (.ref L),some (.ref R),kv]/\Same H H'/\H' L=some (.lst (ls.map V.int))/\H' R=some (.lst (fs.map V.int))/\(fs++ls).Perm (rngL 0 many)/\fs.length=i)
  ⟨none,[],rngL 0 many,rfl,s1.laid hR,by rw[ai nRL.symm];exact eL,by rw[ag];rfl,List.Perm.refl _,rfl⟩ ?_ ?_
 . rintro i σ H2 hi ⟨kv,fs,ls,rfl,s2,e1,e2,hp,hl⟩;have LS:=hp.length_eq;rw[Mz,jM] at LS;symm;refine⟨bb e2,bb e1,⟨by omega,by omega⟩,?_⟩;rw[bd e1,LV];have hpos:0 < (ls.length:Int):=by omega
   generalize num / (0+(i:Int)+1)=y at*;have j0:=MJ y (Int.ne_of_gt hpos);have j1:=MF y hpos;refine⟨hpos,?_⟩;generalize y % (ls.length:Int)=j at*;have hj:j.toNat<ls.length:=by omega
   refine F9 e1 j0 (by rw[LV];omega) (y:=V.int ls[j.toNat]) (by rw[L9,LW hj];rfl) ?_;have e2':(upd H2 L (.lst ((ls.map V.int).eraseIdx j.toNat))) R=some (.lst (fs.map V.int)):=by rw[ai nRL];exact e2
   symm;rw[cP e2'];refine⟨by rw[LV];exact aD (by omega),_,fs++[ls[j.toNat]],ls.eraseIdx j.toNat,rfl,(s2.own hL).own (s1.free hR),?_,?_,?_,by simp[hl]⟩
   . rw[ai nRL.symm,ag,xT]
   . rw[ag];simp
   . have p1:=vn ls j.toNat hj;have p2:=List.Perm.append_left fs p1;refine List.Perm.trans ?_ hp;rw[M3];exact p2
 . rintro σ H2 ⟨kv,fs,ls,rfl,s2,e1,e2,hp,hl⟩;symm;have hnd:(fs++ls).Nodup:=hp.nodup_iff.mpr (DO many);have hm:∀ x∈fs,0<=x/\x<many:=fun x hx=>xf (hp.mem_iff.mp (Mj.mpr (.inl hx)))
   have ef:(fs.map Int.toNat).map (fun(n:Nat)=>(n:Int))=fs:=by
    rw[MH]
    conv=>rhs;rw[← List.map_id fs]
    exact OU fun x hx=>by have:=hm x hx;show((x.toNat:Nat):Int)=x;omega
   refine q R H2 (fs.map Int.toNat) s2 (s1.free hR) (by unfold nsV;rw[ef];exact e2) ?_ ?_ ?_
   . have h1:=(N0.mp hnd).1;rw[← ef] at h1;exact qY _ h1
   . intro c hc;obtain⟨x,hx,rfl⟩:=Mg.mp hc;have:=hm x hx;omega
   . rw[LV,hl];omega
theorem vU{p:Addr}{s:Str}{ws:List Str}(h:H p=some (.tup (ws.map V.str))):cIn K false (.str s) (.ref p) H Q=Q (.bl (decide (s∈ws))) H:=by
 unfold cIn;dsimp only;rw[h];dsimp only[unD,unS,bnd];rw[jN,iC];simp[flatV]
theorem ID(k:RK):decide (tx (nmC k)∈[tx [106,111,105,110,101,100],tx [114,105,110,103],tx [110,111,115,113,117,97,114,101]])=allK k:=by cases k <;> decide+kernel
def unrK(k:RK):Bool:=decide (k=.Unlike)||decide (k=.Rising)
theorem IE(k:RK):decide (tx (nmC k)∈[tx [117,110,108,105,107,101],tx [114,105,115,105,110,103]])=unrK k:=by cases k <;> decide+kernel
theorem IF(k:RK):decide (tx (nmC k)=tx [115,117,109])=decide (k=.Sum):=by cases k <;> decide+kernel
theorem Er(k:RK):decide (tx (nmC k)=tx [115,101,101,110])=decide (k=.Seen):=by cases k <;> decide+kernel
theorem CD(k:RK):decide (tx (nmC k)=tx [99,111,117,110,116])=decide (k=.Count):=by cases k <;> decide+kernel
theorem BR(k:RK):(nmC k).length<=20:=by cases k <;> decide
theorem toSA{i:Int}(h0:0<=i)(h1:i<100):Str.ofString (toString i)=tx (numC i.toNat)/\i.natAbs.log2<1920:=by
 have e:i=((i.toNat:Nat):Int):=by omega
 have a:=Bu (n:=i.toNat) (by omega);have b:=Bw (n:=i.toNat) (by omega);rw[← e] at a b;exact⟨a,b⟩
def ks52:List RK:=[.Unlike,.Count,.Joined,.Sum,.Ring,.Rising,.NoSquare,.Seen,.Unlike]
theorem GD{i:Int}(h0:0<=i)(h1:i<9):∃ k:RK,k≠.Rule/\atI (ks52.map fun k=>V.str (tx (nmC k))) i=some (V.str (tx (nmC k))):=by
 have e:i=0\/i=1\/i=2\/i=3\/i=4\/i=5\/i=6\/i=7\/i=8:=by omega
 rcases e with rfl | rfl | rfl | rfl | rfl | rfl | rfl | rfl | rfl
 . exact⟨.Unlike,by decide,rfl⟩
 . exact⟨.Count,by decide,rfl⟩
 . exact⟨.Joined,by decide,rfl⟩
 . exact⟨.Sum,by decide,rfl⟩
 . exact⟨.Ring,by decide,rfl⟩
 . exact⟨.Rising,by decide,rfl⟩
 . exact⟨.NoSquare,by decide,rfl⟩
 . exact⟨.Seen,by decide,rfl⟩
 . exact⟨.Unlike,by decide,rfl⟩
def kO(K:Frag):Sp:=fun vs H Q _=>∃(y h w g:Int),vs=[.int y,.int (h*w),.int g]/\0<=y/\FlOk h w g/\1<=h*w/\∀(r:RR) (H':Hp),Same H H'->r.Ok h w g->Q (.str r.txt) H'
def dS(K:Frag):TS:=
 (tRet (tBM K "str" qV (tC (.str (tx [32]))) (tCons (tOp cAdd (tLst (tCons (tVar 3) tNil)) (tComp [none,none] (iList K (tOp cAdd (tVar 5) (tVar 4))) (gName 1) tTrue (tCB kStr (tCons (tVar 1) tNil)))) tNil)))
def iq(K:Frag):TS:=
 (tSeq (tIfS (tTest (tOp (cEq K) (tVar 3) (tC (.str (tx [115,117,109]))))) (tAsg (tLst (tCons (tOp cAdd (tCB kLen (tCons (tVar 4) tNil)) (tOp cMod (tOp cDiv (tVar 0) (tC (.int 70))) (tOp cAdd (tCB kLen (tCons (tVar 4) tNil)) (tC (.int 1))))) tNil)) (gName 5)) tNext)
  (tSeq (tIfS (tTest (tOp (cEq K) (tVar 3) (tC (.str (tx [115,101,101,110]))))) (tAsg (tLst (tCons (tOp cAdd (tC (.int 1)) (tOp cMod (tOp cDiv (tVar 0) (tC (.int 70))) (tC (.int 2)))) tNil)) (gName 5)) tNext)
  (tSeq (tIfS (tTest (tOp (cEq K) (tVar 3) (tC (.str (tx [99,111,117,110,116]))))) (tAsg (tLst (tCons (tOp cMod (tOp cDiv (tVar 0) (tC (.int 70))) (tOp cAdd (tCB kLen (tCons (tVar 4) tNil)) (tC (.int 1)))) (tCons (tOp cAdd (tC (.int 1)) (tOp cMod (tOp cDiv (tVar 0) (tC (.int 30))) (tVar 2))) tNil))) (gName 5)) tNext)
  (dS K))))
def iu(K:Frag):TS:=
 (tSeq (tAsg (tLst tNil) (gName 5))
  (iq K))
def l7(K:Frag):TS:=
 (tSeq (tAsg (tSl kr (tCall (fq K) [] E0 (tCons (tOp cDiv (tVar 0) (tC (.int 9))) (tCons (tVar 1) tNil))) fR (tPart (tOp cAdd (tC (.int 1)) (tOp cMod (tOp cDiv (tVar 0) (tC (.int 60))) (tVar 1))))) (gName 4))
  (tSeq (tIfS (tTest (tOp (cIn K false) (tVar 3) (tTup (tCons (tC (.str (tx [117,110,108,105,107,101]))) (tCons (tC (.str (tx [114,105,115,105,110,103]))) tNil))))) (tAsg (tSl kr (tVar 4) fR (tPart (tVar 2))) (gName 4)) tNext)
  (iu K)))
def l8(K:Frag):TS:=
 (tSeq (tIfS (tTest (tOp (cIn K false) (tVar 3) (tTup (tCons (tC (.str (tx [106,111,105,110,101,100]))) (tCons (tC (.str (tx [114,105,110,103]))) (tCons (tC (.str (tx [110,111,115,113,117,97,114,101]))) tNil)))))) (tRet (tOp cAdd (tOp cAdd (tVar 3) (tC (.str (tx [32])))) (tCB kStr (tCons (tOp cAdd (tC (.int 1)) (tOp cMod (tOp cDiv (tVar 0) (tC (.int 9))) (tVar 2))) tNil)))) tNext)
  (l7 K))
def kP(K:Frag):TS:=
 (tSeq (tAsg (tOp cIx (tLst (tCons (tC (.str (tx [117,110,108,105,107,101]))) (tCons (tC (.str (tx [99,111,117,110,116]))) (tCons (tC (.str (tx [106,111,105,110,101,100]))) (tCons (tC (.str (tx [115,117,109]))) (tCons (tC (.str (tx [114,105,110,103]))) (tCons (tC (.str (tx [114,105,115,105,110,103]))) (tCons (tC (.str (tx [110,111,115,113,117,97,114,101]))) (tCons (tC (.str (tx [115,101,101,110]))) (tCons (tC (.str (tx [117,110,108,105,107,101]))) tNil)))))))))) (tOp cMod (tVar 0) (tC (.int 9)))) (gName 3))
  (l8 K))
theorem A6{k:RK}{O Nu:Addr}{nu cs:List Nat}{v0 v1 v2:Option V}(eO:H O=some (.lst (nsV cs)))(eN:H Nu=some (.lst (nsV nu)))(hc:∀ c∈cs,c<100)(hn:∀ c∈nu,c<100)(cl:cs.length<=16)(nl:nu.length<=2)(q:∀ H',Same H H'->Q (.str (tx (catL 32 (nmC k::(nu++cs).map numC)))) H'):
  dS K (eD9 Q) [v0,v1,v2,some (.str (tx (nmC k))),some (.ref O),some (.ref Nu)] H:=by
 unfold dS;symm;refine⟨FD,lnR rfl,fun Wd hW=>?_⟩;obtain⟨H1,z9,s1,eW⟩:∃ z,upd H Wd (.lst [V.str (tx (nmC k))])=z/\Same H z/\z Wd=some (.lst ((([nmC k]:List (List Nat)).map tx).map V.str)):=aS _ hW;rw[z9];refine qU (s1 _ _ eN) (s1 _ _ eO) (by unfold nsV;simp;omega) fun Y hY=>?_;have s2:Same H1 (upd H1 Y (.lst (nsV nu++nsV cs))):=(L3 H1).laid hY;have eY:(upd H1 Y (.lst (nsV nu++nsV cs))) Y=some (.lst (((nu++cs).map fun(n:Nat)=>(n:Int)).map V.int)):=by rw[ag];unfold nsV;simp
 generalize upd H1 Y (.lst (nsV nu++nsV cs))=H2 at*;refine⟨Y,rfl,⟨_,Ml eY⟩,?_⟩;refine DP eY (by simp;omega) (fun c h=>(Mj.mp h).elim (hn c) (hc c)) fun l H3 hl s3 el=>?_;symm;refine qU ((s2.trans s3) _ _ eW) el (by simp;omega) fun Z hZ=>?_;have s4:Same H3 (upd H3 Z (.lst ((([nmC k]:List (List Nat)).map tx).map V.str++(((nu++cs).map numC).map tx).map V.str))):=(L3 H3).laid hZ;have eZ:(upd H3 Z (.lst ((([nmC k]:List (List Nat)).map tx).map V.str++(((nu++cs).map numC).map tx).map V.str))) Z=some (.lst (((nmC k::(nu++cs).map numC).map tx).map V.str)):=by rw[ag];rfl
 generalize upd H3 Z (.lst ((([nmC k]:List (List Nat)).map tx).map V.str++(((nu++cs).map numC).map tx).map V.str))=H4 at*;have kl:=BR k
 refine Gb eZ (zD (by simp;omega) (fun t ht=>by
  obtain⟨z,hz,rfl⟩:=Mg.mp ht;rw[fv];rcases Mn.mp hz with rfl | hz
  . omega
  . obtain⟨x,_,rfl⟩:=Mg.mp hz;exact Mi sL (by decide)) (by rw[fv];decide)) ?_
 rw[E4,wX];exact q _ (((s1.trans s2).trans s3).trans s4)
variable{g:Int}
theorem A7{k:RK}{O Nu:Addr}{cs:List Nat}{y h w:Int}{v1:Option V}(y0:0<=y)(F:FlOk h w g)(eO:H O=some (.lst (nsV cs)))(eN:H Nu=some (.lst (nsV [])))(hne:cs≠[])(lt:∀ c∈cs,(c:Int)<h*w)(nd:cs.Nodup)(cl:cs.length<=16)(ha:allK k=false)(k0:k≠.Rule)(q:∀(r:RR) (H':Hp),Same H H'->r.Ok h w g->Q (.str r.txt) H'):
  iq K (eD9 Q) [some (.int y),v1,some (.int g),some (.str (tx (nmC k))),some (.ref O),some (.ref Nu)] H:=by
 have g0:=F.g0;have g1:=F.g1;have m16:=F.m;have lt100:∀ c∈cs,c<100:=fun c hc=>by have:=lt c hc;omega
 have ol:(nsV cs).length=cs.length:=by unfold nsV;simp
 have fin:∀(n m:Nat) (nu:List Nat) (Nu2:Addr) (H1:Hp),Same H H1->H1 Nu2=some (.lst (nsV nu))->(∀ c∈nu,c<100)->nu.length<=2->n<=99->(numK k=false->n=0)->(sgnK k=true->1<=(m:Int)/\(m:Int)<=g)->(sgnK k=false->m=0)->nu.map numC=(if numK k then [numC n] else [])++(if sgnK k then [numC m] else [])->dS K (eD9 Q) [some (.int y),v1,some (.int g),some (.str (tx (nmC k))),some (.ref O),some (.ref Nu2)] H1:=fun n m nu Nu2 H1 s1 e1 hnu nl n9 nz m0 mz enu=>by
  refine A6 (s1 _ _ eO) e1 lt100 hnu cl nl fun H' s'=>?_;have Ok:=Cz (k:=k) (n:=n) (m:=m) F hne lt nd cl ha k0 n9 nz m0 mz
  have e:tx (catL 32 (nmC k::(nu++cs).map numC))=RR.txt ⟨k,n,m,cs,cs.map fun(n:Nat)=>(n:Int)⟩:=by
   show _=tx (catL 32 (rowW k n m cs));unfold rowW;rw[NX,enu]
  rw[e];exact q _ H' (s1.trans s') Ok
 unfold iq;rw[aJ,ay];symm;rw[IF];by_cases e1:k=.Sum
 . rw[LY e1];symm;rw[bd eO,ol];symm;refine⟨⟨by decide,by decide⟩,?_⟩;rw[bd eO,ol];symm;refine⟨by omega,lnR rfl,fun N hN=>?_⟩;have b0:=MJ (y/70) (show(cs.length:Int)+1≠0 by omega);have b1:=MF (y/70) (show 0 < (cs.length:Int)+1 by omega);generalize y/70 % ((cs.length:Int)+1)=x at*;have s1:Same H (upd H N (.lst [V.int ((cs.length:Int)+x)])):=(L3 H).laid hN
   have eN2:(upd H N (.lst [V.int ((cs.length:Int)+x)])) N=some (.lst (nsV [((cs.length:Int)+x).toNat])):=by
    rw[ag];show _=some (HO.lst [V.int ((((cs.length:Int)+x).toNat:Nat):Int)]);rw[show((((cs.length:Int)+x).toNat:Nat):Int)=(cs.length:Int)+x by omega]
   generalize upd H N (.lst [V.int ((cs.length:Int)+x)])=H1 at*;rw[ay];symm;rw[Er,e1,L0 (by decide)];symm;rw[ay];symm;have e9:=fin (((cs.length:Int)+x).toNat) 0 _ N H1 s1 eN2 (fun c hc=>by rw[Ma.mp hc];omega) (by simp) (by omega) (fun e=>by rw[e1] at e;cases e) (fun e=>by rw[e1] at e;cases e) (fun _=>rfl) (by rw[e1];rfl);rw[e1] at e9;rw[CD,L0 (show ¬ RK.Sum=RK.Count by decide)];symm;exact e9
 . rw[L0 e1];symm;rw[ay];symm;rw[Er];by_cases e2:k=.Seen
   . rw[LY e2];symm;refine⟨⟨by decide,by decide⟩,by decide,lnR rfl,fun N hN=>?_⟩;have b0:=MJ (y/70) (show(2:Int)≠0 by decide);have b1:=MF (y/70) (show(0:Int)<2 by decide);generalize y/70%2=x at*;have s1:Same H (upd H N (.lst [V.int (1+x)])):=(L3 H).laid hN
     have eN2:(upd H N (.lst [V.int (1+x)])) N=some (.lst (nsV [(1+x).toNat])):=by
      rw[ag];show _=some (HO.lst [V.int (((1+x).toNat:Nat):Int)]);rw[show(((1+x).toNat:Nat):Int)=1+x by omega]
     generalize upd H N (.lst [V.int (1+x)])=H1 at*;rw[ay];symm;have e9:=fin ((1+x).toNat) 0 _ N H1 s1 eN2 (fun c hc=>by rw[Ma.mp hc];omega) (by simp) (by omega) (fun e=>by rw[e2] at e;cases e) (fun e=>by rw[e2] at e;cases e) (fun _=>rfl) (by rw[e2];rfl);rw[e2] at e9;rw[CD,e2,L0 (show ¬ RK.Seen=RK.Count by decide)];symm;exact e9
   . rw[L0 e2];symm;rw[ay];symm;rw[CD];by_cases e3:k=.Count
     . rw[LY e3];symm;refine⟨⟨by decide,by decide⟩,?_⟩;rw[bd eO,ol];symm;refine⟨by omega,⟨by decide,by decide⟩,by omega,lnR rfl,fun N hN=>?_⟩;have b0:=MJ (y/70) (show(cs.length:Int)+1≠0 by omega);have b1:=MF (y/70) (show 0 < (cs.length:Int)+1 by omega);have c0:=MJ (y/30) (show g≠0 by omega);have c1:=MF (y/30) (show 0<g by omega);generalize y/70 % ((cs.length:Int)+1)=x at*;generalize y/30%g=z at*;have s1:Same H (upd H N (.lst [V.int x,V.int (1+z)])):=(L3 H).laid hN
       have eN2:(upd H N (.lst [V.int x,V.int (1+z)])) N=some (.lst (nsV [x.toNat,(1+z).toNat])):=by
        rw[ag];show _=some (HO.lst [V.int ((x.toNat:Nat):Int),V.int (((1+z).toNat:Nat):Int)]);rw[show((x.toNat:Nat):Int)=x by omega,show(((1+z).toNat:Nat):Int)=1+z by omega]
       generalize upd H N (.lst [V.int x,V.int (1+z)])=H1 at*
       exact fin x.toNat (1+z).toNat _ N H1 s1 eN2 (fun c hc=>by
        simp only[Mn,NH,Pk] at hc;rcases hc with rfl | rfl <;> omega) (by simp) (by omega) (fun e=>by rw[e3] at e;cases e) (fun _=>by omega) (fun e=>by rw[e3] at e;cases e) (by rw[e3];rfl)
     . rw[L0 e3];symm;have hnk:numK k=false:=by revert e1 e2 e3;cases k <;> intro e1 e2 e3 <;> first | rfl | exact absurd rfl e1 | exact absurd rfl e2 | exact absurd rfl e3
       have hsk:sgnK k=false:=by revert ha e3;cases k <;> intro ha e3 <;> first | rfl | exact absurd rfl e3 | (cases ha;done)
       exact fin 0 0 [] Nu H (L3 _) eN (fun c hc=>by cases hc) (by simp) (by decide) (fun _=>rfl) (fun e=>by rw[hsk] at e;cases e) (fun _=>rfl) (by rw[hnk,hsk];rfl)
theorem uE(cs:List Nat)(k:Nat):(nsV cs).take k=nsV (cs.take k):=by unfold nsV;rw[OD,OD]
theorem yI(h:kO K vs H Q E):kP K (eD9 Q) (start ["_law_cell","_law_many","_law_signs","_law_word","_law_order_here","_law_numbers"] vs) H:=by
 obtain⟨y,h,w,g,rfl,y0,F,mp,q⟩:=h;have g0:=F.g0;have g1:=F.g1;have m16:=F.m;show kP K _ [some (.int y),some (.int (h*w)),some (.int g),none,none,none] H;unfold kP;symm;refine⟨lnR rfl,fun U hU=>?_⟩;have s1:Same H (upd H U (.lst (ks52.map fun k=>V.str (tx (nmC k))))):=(L3 H).laid hU;have eU:(upd H U (.lst (ks52.map fun k=>V.str (tx (nmC k))))) U=some (.lst (ks52.map fun k=>V.str (tx (nmC k)))):=ag;refine⟨by decide,?_⟩;show cIx (V.ref U) (V.int (y%9)) (upd H U (.lst (ks52.map fun k=>V.str (tx (nmC k))))) _;generalize upd H U (.lst (ks52.map fun k=>V.str (tx (nmC k))))=H1 at*;obtain⟨k,k0,ek⟩:=GD (i:=y%9) (MJ _ (by decide)) (MF _ (by decide));refine ixL eU ek ?_;unfold l8;rw[aJ,ay];symm;refine⟨lnR rfl,fun T hT=>?_⟩;have s2:Same H1 (upd H1 T (.tup ([tx [106,111,105,110,101,100],tx [114,105,110,103],tx [110,111,115,113,117,97,114,101]].map V.str))):=(L3 H1).laid hT;have eT:(upd H1 T (.tup ([tx [106,111,105,110,101,100],tx [114,105,110,103],tx [110,111,115,113,117,97,114,101]].map V.str))) T=some (.tup ([tx [106,111,105,110,101,100],tx [114,105,110,103],tx [110,111,115,113,117,97,114,101]].map V.str)):=ag;show cIn K false (V.str (tx (nmC k))) (V.ref T) (upd H1 T (.tup ([tx [106,111,105,110,101,100],tx [114,105,110,103],tx [110,111,115,113,117,97,114,101]].map V.str))) _;generalize upd H1 T (.tup ([tx [106,111,105,110,101,100],tx [114,105,110,103],tx [110,111,115,113,117,97,114,101]].map V.str))=H2 at*;rw[vU eT,ID];have s12:=s1.trans s2
 cases ha:allK k with
 | true=>
  have hs:sgnK k=true:=by revert ha;cases k <;> intro ha <;> first | rfl | (cases ha;done)
  have hk:numK k=false:=by revert ha;cases k <;> intro ha <;> first | rfl | (cases ha;done)
  have kl:=BR k;have b0:=MJ (y/9) (show g≠0 by omega);have b1:=MF (y/9) (show 0<g by omega);refine⟨true,rfl,iteT ?_⟩;symm;have t:=toSA (i:=1+y/9%g) (by omega) (by omega);rw[t.1,vg,vg];have nl:=sL (n:=(1+y/9%g).toNat);refine⟨by rw[fv,fv];exact aN (by simp;omega),⟨by decide,by decide⟩,by omega,t.2,by rw[fv,fv];exact aN (by simp;omega),?_⟩
  have e:nmC k++[32]++numC (1+y/9%g).toNat=catL 32 (rowW k 0 (1+y/9%g).toNat []):=by
   unfold rowW;rw[hk,hs];show _=nmC k++32::numC (1+y/9%g).toNat;simp
  rw[e];exact q ⟨k,0,(1+y/9%g).toNat,[],rngL 0 (h*w)⟩ H2 s12 (DT ha k0 hk hs (by omega) (by omega))
 | false=>
  refine⟨false,rfl,iteF ?_⟩;unfold l7;symm;refine⟨⟨by decide,by decide⟩,?_⟩;refine⟨_,h*w,rfl,by omega,m16,fun O H3 cs s3 hO eO nd lt len=>?_⟩;have b0:=MJ (y/60) (show h*w≠0 by omega);have b1:=MF (y/60) (show 0<h*w by omega);symm;refine⟨⟨by decide,by decide⟩,by omega,?_⟩;generalize y/60 % (h*w)=x at*;refine sJ eO fun O2 hO2=>?_;rw[ul _ (by omega),uE];obtain⟨H4,z9,s4,e4⟩:=aS (.lst (nsV (cs.take (1+x).toNat))) hO2;rw[z9];have tl:(cs.take (1+x).toNat).length=(1+x).toNat:=by rw[Nb];omega
  have fin:∀(O3:Addr) (ds:List Nat) (H5:Hp),Same H H5->H5 O3=some (.lst (nsV ds))->ds≠[]->ds.Sublist cs->iu K (eD9 Q) [some (.int y),some (.int (h*w)),some (.int g),some (.str (tx (nmC k))),some (.ref O3),none] H5:=fun O3 ds H5 s5 e5 ne sub=>by
   unfold iu;symm;refine⟨aN (by decide),fun N hN=>?_⟩;obtain⟨H6,z9,s6,e6⟩:∃ z,upd H5 N (.lst [])=z/\Same H5 z/\z N=some (.lst (nsV [])):=aS _ hN;rw[z9];have dl:=sub.length_le;exact A7 y0 F (s6 _ _ e5) e6 ne (fun c hc=>lt c (sub.subset hc)) (nd.sublist sub) (by omega) ha k0 fun r H' s' ok=>q r H' ((s5.trans s6).trans s') ok
  have ne1:cs.take (1+x).toNat≠[]:=fun e=>by rw[e] at tl;simp at tl;omega
  have s14:=(s12.trans s3).trans s4;rw[ay];symm;refine⟨lnR rfl,fun T2 hT2=>?_⟩;have s5:Same H4 (upd H4 T2 (.tup ([tx [117,110,108,105,107,101],tx [114,105,115,105,110,103]].map V.str))):=(L3 H4).laid hT2;have eT2:(upd H4 T2 (.tup ([tx [117,110,108,105,107,101],tx [114,105,115,105,110,103]].map V.str))) T2=some (.tup ([tx [117,110,108,105,107,101],tx [114,105,115,105,110,103]].map V.str)):=ag;show cIn K false (V.str (tx (nmC k))) (V.ref T2) (upd H4 T2 (.tup ([tx [117,110,108,105,107,101],tx [114,105,115,105,110,103]].map V.str))) _;generalize upd H4 T2 (.tup ([tx [117,110,108,105,107,101],tx [114,105,115,105,110,103]].map V.str))=H5 at*;rw[vU eT2,IE]
  cases hu:unrK k with
  | false=>
   refine⟨false,rfl,iteF ?_⟩;exact fin O2 _ H5 (s14.trans s5) (s5 _ _ e4) ne1 (Oj _ _)
  | true=>
   refine⟨true,rfl,iteT ?_⟩;symm;refine sJ (s5 _ _ e4) fun O3 hO3=>?_;rw[ul _ (by omega),uE];refine fin O3 _ _ ((s14.trans s5).trans ((L3 H5).laid hO3)) ag (fun e=>?_) ((Oj _ _).trans (Oj _ _));have:=congrArg List.length e;rw[Nb,tl] at this;simp at this;omega
theorem BS{l p:Addr}{as:List Addr}{LQ:List (List Int)}{ys:List Int}(x:IsLL H l as LQ)(nl:l∉as)(hp:H p=none):IsLL (upd (upd H p (.lst (ys.map V.int))) l (.lst (as.map V.ref++[V.ref p]))) l (as++[p]) (LQ++[ys])/\l∉as++[p]:=by
 have lp:l≠p:=fun e=>by rw[← e,x.top] at hp;cases hp
 have ap:∀ a∈as,a≠p:=fun a ha e=>by
  obtain⟨j,hj⟩:=OG ha;have hl:j<LQ.length:=by rw[← x.len];exact(L1.mp hj).1
  have:=x.at_ j a _ hj (LW hl);rw[e,hp] at this;cases this
 refine⟨⟨by rw[ag,NX];rfl,by simp[x.len],fun j a xs h1 h2=>?_⟩,fun h=>(Mj.mp h).elim nl fun h=>lp (Ma.mp h)⟩;rcases Oq j as.length with hj | hj
 . rw[MG hj] at h1;rw[MG (by rw[← x.len];exact hj)] at h2;have ma:=L5 h1;rw[ai (fun e:a=l=>nl (e ▸ ma)),ai (ap a ma)];exact x.at_ j a xs h1 h2
 . rw[MO hj] at h1;rw[MO (by rw[← x.len];exact hj)] at h2;rw[x.len] at h1
   cases e:j-LQ.length with
   | zero=>
    rw[e] at h1 h2;cases h1;cases h2;rw[ai lp.symm,ag]
   | succ n=>rw[e] at h1;simp at h1
def nilT(t:TK):Bool:=decide (t=.clue)||(decide (t=.count)||(decide (t=.step)||(decide (t=.sum)||decide (t=.ways))))
def rpT(t:TK):Bool:=decide (t=.reach)||decide (t=.pair)
def mr1(t:TK)(n:Nat)(a:Nat):List (List Int):=[(a:Int)]::if rpT t then(List.range n).map fun(b:Nat)=>[(a:Int),(b:Int)] else []
def lmF(t:TK)(n:Nat)(g:Int):List (List Int):=if nilT t then [[]] else if t=.place then(rngL 1 (g+1)).map (fun o=>[o]) else []::(List.range n).flatMap (mr1 t n)
theorem IG(t:TK):decide (tx (tkC t)∈[tx [99,108,117,101],tx [99,111,117,110,116],tx [115,116,101,112],tx [115,117,109],tx [119,97,121,115]])=nilT t:=by cases t <;> decide+kernel
theorem IM(t:TK):decide (tx (tkC t)∈[tx [114,101,97,99,104],tx [112,97,105,114]])=rpT t:=by cases t <;> decide+kernel
theorem IN(t:TK):decide (tx (tkC t)=tx [112,108,97,99,101])=decide (t=.place):=by cases t <;> decide+kernel
def jv(K:Frag):Sp:=fun vs H Q _=>∃(t:TK) (n:Nat) (g:Int),vs=[.str (tx (tkC t)),.int n,.int g]/\n<=9/\1<=g/\g<=6/\LLp Q H (lmF t n g)
def fO(K:Frag):TS:=
 (tSeq (tAsg (tLst (tCons (tLst tNil) tNil)) (gName 3))
  (tSeq (tFor (de (tCons (tVar 1) tNil)) (gName 4)
  (tSeq (tDrop (tBM K "list" bm (tVar 3) (tCons (tLst (tCons (tVar 4) tNil)) tNil)))
  (tIfS (tTest (tOp (cIn K false) (tVar 0) (tTup (tCons (tC (.str (tx [114,101,97,99,104]))) (tCons (tC (.str (tx [112,97,105,114]))) tNil))))) (tFor (de (tCons (tVar 1) tNil)) (gName 5)
  (tDrop (tBM K "list" bm (tVar 3) (tCons (tLst (tCons (tVar 4) (tCons (tVar 5) tNil))) tNil)))) tNext)))
  (tRet (tVar 3))))
def jw(K:Frag):TS:=
 (tSeq (tIfS (tTest (tOp (cIn K false) (tVar 0) (tTup (tCons (tC (.str (tx [99,108,117,101]))) (tCons (tC (.str (tx [99,111,117,110,116]))) (tCons (tC (.str (tx [115,116,101,112]))) (tCons (tC (.str (tx [115,117,109]))) (tCons (tC (.str (tx [119,97,121,115]))) tNil)))))))) (tRet (tLst (tCons (tLst tNil) tNil))) tNext)
  (tSeq (tIfS (tTest (tOp (cEq K) (tVar 0) (tC (.str (tx [112,108,97,99,101]))))) (tRet (tComp [none,none] (pD (tCons (tC (.int 1)) (tCons (tOp cAdd (tVar 2) (tC (.int 1))) tNil))) (gName 1) tTrue (tLst (tCons (tVar 1) tNil)))) tNext)
  (fO K)))
theorem GE(t:TK)(n a:Nat):(mr1 t n a).length<=1+n:=by
 unfold mr1
 split
 . rw[My,LV,MR];omega
 . simp
theorem xq(t:TK)(n:Nat):∀ i,((List.range i).flatMap (mr1 t n)).length<=i*(1+n)
 | 0=>by simp
 | i+1=>by
  rw[MV,NA,Mz];have:=xq t n i;have h2:=GE t n i;simp only[Pf,List.flatMap_nil,OK];rw[Pr];omega
variable{t:TK}{n:Nat}
theorem yJ(n9:n<=9)(q:LLp Q H ([]::(List.range n).flatMap (mr1 t n))):
  fO K (eD9 Q) [some (.str (tx (tkC t))),some (.int n),some (.int g),none,none,none] H:=by
 unfold fO;symm;refine⟨aN (by decide),fun E1 hE=>?_⟩;obtain⟨H1,z9,s1,e1⟩:∃ z,upd H E1 (.lst [])=z/\Same H z/\z E1=some (.lst (([]:List Int).map V.int)):=aS _ hE;rw[z9];refine⟨lnR rfl,fun Z hZ=>?_⟩;have s2:Same H1 (upd H1 Z (.lst [V.ref E1])):=(L3 H1).laid hZ
 have X0:IsLL (upd H1 Z (.lst [V.ref E1])) Z [E1] [[]]:=⟨ag,rfl,fun j a xs h1 h2=>by
  cases j with
  | zero=>cases h1;cases h2;exact s2 _ _ e1
  | succ j=>simp at h1⟩
 have nZ:Z∉[E1]:=fun h=>by rw[Ma.mp h,e1] at hZ;cases hZ
 have fZ:H Z=none:=s1.free hZ;generalize upd H1 Z (.lst [V.ref E1])=H2 at*;refine⟨(n:Int),rfl,by omega,by omega,?_⟩;rw[NN];have s12:=s1.trans s2
 refine cF (fun i σ H'=>∃(as:List Addr) (v4 v5:Option V),σ=[some (.str (tx (tkC t))),some (.int n),some (.int g),some (.ref Z),v4,v5]/\Same H H'/\IsLL H' Z as ([]::(List.range i).flatMap (mr1 t n))/\Z∉as/\∀ a∈as,H a=none)
  ⟨[E1],none,none,rfl,s12,X0,nZ,fun a ha=>by rw[Ma.mp ha];exact hE⟩ ?_ ?_
 . rintro i σ H3 hi ⟨as,v4,v5,rfl,s3,X,nl,fr⟩;have hl:=X.len;have hm:=xq t n i;have hb:i*(1+n)<=9*10:=N6 (by omega) (by omega);rw[My] at hl;symm;refine⟨bb X.top,lnR rfl,fun p hp=>?_⟩;have tp:(upd H3 p (.lst [V.int (0+(i:Int))])) Z=some (.lst (as.map V.ref)):=by rw[ai (fun e=>by rw[e] at X;have:=X.top;rw[hp] at this;cases this)];exact X.top
   rw[cP tp];refine⟨by rw[LV];exact aD (by omega),?_⟩;obtain⟨Y,nl2⟩:=BS (ys:=[(i:Int)]) X nl hp;have ei:([V.int (0+(i:Int))]:List V)=([(i:Int)]:List Int).map V.int:=by rw[NE];rfl
   rw[ei];have s4:Same H (upd (upd H3 p (.lst (([(i:Int)]:List Int).map V.int))) Z (.lst (as.map V.ref++[V.ref p]))):=(s3.laid hp).own fZ;have fp:H p=none:=s3.free hp;generalize upd (upd H3 p (.lst (([(i:Int)]:List Int).map V.int))) Z (.lst (as.map V.ref++[V.ref p]))=H4 at*;rw[ay];symm;refine⟨lnR rfl,fun T hT=>?_⟩;have s5:Same H4 (upd H4 T (.tup ([tx [114,101,97,99,104],tx [112,97,105,114]].map V.str))):=(L3 H4).laid hT;have eT:(upd H4 T (.tup ([tx [114,101,97,99,104],tx [112,97,105,114]].map V.str))) T=some (.tup ([tx [114,101,97,99,104],tx [112,97,105,114]].map V.str)):=ag;show cIn K false (V.str (tx (tkC t))) (V.ref T) (upd H4 T (.tup ([tx [114,101,97,99,104],tx [112,97,105,114]].map V.str))) _;generalize upd H4 T (.tup ([tx [114,101,97,99,104],tx [112,97,105,114]].map V.str))=H5 at*;rw[vU eT,IM];have Y5:=Y.same s5;have fr2:∀ a∈as++[p],H a=none:=fun a ha=>(Mj.mp ha).elim (fr a) fun h=>by rw[Ma.mp h];exact fp
   cases hr:rpT t with
   | false=>
    refine⟨false,rfl,iteF ⟨as++[p],_,_,rfl,s4.trans s5,?_,nl2,fr2⟩⟩;rw[MV,NA];have:(List.flatMap (mr1 t n) [i])=[[(i:Int)]]:=by simp[mr1,hr]
    rw[this];exact Y5
   | true=>
    refine⟨true,rfl,iteT ?_⟩;refine⟨(n:Int),rfl,by omega,by omega,?_⟩;rw[NN]
    refine cF (fun j σ H'=>∃(as:List Addr) (v5:Option V),σ=[some (.str (tx (tkC t))),some (.int n),some (.int g),some (.ref Z),some (.int (0+(i:Int))),v5]/\Same H H'/\IsLL H' Z as (([]::(List.range i).flatMap (mr1 t n))++[[(i:Int)]]++(List.range j).map fun(b:Nat)=>[(i:Int),(b:Int)])/\Z∉as/\∀ a∈as,H a=none)
     ⟨as++[p],_,rfl,s4.trans s5,by simpa using Y5,nl2,fr2⟩ ?_ ?_
    . rintro j σ H6 hj ⟨as6,v5',rfl,s6,X6,nl6,fr6⟩;have hl6:=X6.len;simp only[Mz,My,List.length_nil,LV,MR] at hl6;symm;refine⟨bb X6.top,lnR rfl,fun p6 hp6=>?_⟩;have tp6:(upd H6 p6 (.lst [V.int (0+(i:Int)),V.int (0+(j:Int))])) Z=some (.lst (as6.map V.ref)):=by rw[ai (fun e=>by rw[e] at X6;have:=X6.top;rw[hp6] at this;cases this)];exact X6.top
      rw[cP tp6];refine⟨by rw[LV];exact aD (by omega),?_⟩;obtain⟨Y6,nl7⟩:=BS (ys:=[(i:Int),(j:Int)]) X6 nl6 hp6;have ej:([V.int (0+(i:Int)),V.int (0+(j:Int))]:List V)=([(i:Int),(j:Int)]:List Int).map V.int:=by rw[NE,NE];rfl
      rw[ej];refine⟨as6++[p6],_,rfl,(s6.laid hp6).own fZ,?_,nl7,fun a ha=>(Mj.mp ha).elim (fr6 a) fun h=>by rw[Ma.mp h];exact s6.free hp6⟩;rw[MV,NX,← M3];exact Y6
    . rintro σ H6 ⟨as6,v5',rfl,s6,X6,nl6,fr6⟩;refine⟨as6,_,_,rfl,s6,?_,nl6,fr6⟩;rw[MV,NA];have:(List.flatMap (mr1 t n) [i])=[(i:Int)]::(List.range n).map fun(b:Nat)=>[(i:Int),(b:Int)]:=by simp[mr1,hr]
      rw[this]
      simpa using X6
 . rintro σ H3 ⟨as,v4,v5,rfl,s3,X,nl,fr⟩;symm;exact q Z as H3 s3 fZ fr X
theorem vV(h:jv K vs H Q E):jw K (eD9 Q) (start ["_law_word","_law_many","_law_signs","_law_found","_law_one_here","_law_other"] vs) H:=by
 obtain⟨t,n,g,rfl,n9,g0,g6,q⟩:=h;show jw K _ [some (.str (tx (tkC t))),some (.int n),some (.int g),none,none,none] H;unfold jw;rw[aJ,ay];symm;refine⟨lnR rfl,fun T hT=>?_⟩;have s1:Same H (upd H T (.tup ([tx [99,108,117,101],tx [99,111,117,110,116],tx [115,116,101,112],tx [115,117,109],tx [119,97,121,115]].map V.str))):=(L3 H).laid hT;have eT:(upd H T (.tup ([tx [99,108,117,101],tx [99,111,117,110,116],tx [115,116,101,112],tx [115,117,109],tx [119,97,121,115]].map V.str))) T=some (.tup ([tx [99,108,117,101],tx [99,111,117,110,116],tx [115,116,101,112],tx [115,117,109],tx [119,97,121,115]].map V.str)):=ag;show cIn K false (V.str (tx (tkC t))) (V.ref T) (upd H T (.tup ([tx [99,108,117,101],tx [99,111,117,110,116],tx [115,116,101,112],tx [115,117,109],tx [119,97,121,115]].map V.str))) _;generalize upd H T (.tup ([tx [99,108,117,101],tx [99,111,117,110,116],tx [115,116,101,112],tx [115,117,109],tx [119,97,121,115]].map V.str))=H1 at*;rw[vU eT,IG];have q1:=q.of s1;unfold lmF at q1
 cases hn:nilT t with
 | true=>
  rw[hn,Mp rfl] at q1;refine⟨true,rfl,iteT ?_⟩;symm;refine⟨aN (by decide),fun E1 hE=>?_⟩;obtain⟨H2,z9,s2,e2⟩:∃ z,upd H1 E1 (.lst [])=z/\Same H1 z/\z E1=some (.lst (([]:List Int).map V.int)):=aS _ hE;rw[z9];refine⟨lnR rfl,fun Z hZ=>?_⟩;have s3:Same H2 (upd H2 Z (.lst [V.ref E1])):=(L3 H2).laid hZ;refine q1 Z [E1] _ (s2.trans s3) (s2.free hZ) (fun a ha=>by rw[Ma.mp ha];exact hE) ⟨ag,rfl,fun j a xs h1 h2=>?_⟩
  cases j with
  | zero=>cases h1;cases h2;exact s3 _ _ e2
  | succ j=>simp at h1
 | false=>
  rw[hn,Md L7] at q1;refine⟨false,rfl,iteF ?_⟩;rw[ay];symm;rw[IN];by_cases hp:t=.place
  . rw[Mp hp] at q1;rw[LY hp];symm;refine⟨1,g+1,rfl,⟨by omega,by omega,by omega,by omega⟩,?_⟩;refine nK (σ0:=[none,none]) (fun _=>true) (fun i=>.lst (([1+(i:Int)]:List Int).map V.int)) (by omega) ?_ ?_ ?_
    . intro i H2 R hi s2 k2;exact k2 _ (L3 _)
    . intro i H2 Q2 hi _ s2 k2;show tLst _ [none,some (.int (1+(i:Int)))] H2 Q2;symm;exact sO k2
    . intro l as H2 hl s2 el N
      have e:((List.range (g+1-1).toNat).filter fun(_:Nat)=>true).map (fun(i:Nat)=>HO.lst (([1+(i:Int)]:List Int).map V.int))=((rngL 1 (g+1)).map fun o=>[o]).map fun ys=>.lst (ys.map V.int):=by
       unfold rngL;rw[OT.mpr (fun _ _=>rfl),MH,MH];rfl
      rw[e] at N;exact q1 l as H2 s2 hl N.fr (N.ll el)
  . rw[Md hp] at q1;rw[L0 hp];symm;exact yJ n9 q1
structure Cov(U:Tho->Prop)(H0 H:Hp)(F:Addr)(ts:List Addr):Prop where
 top:H F=some (.lst (ts.map V.ref))
 ok:∀ T∈ts,∃(M:Addr) (th:Tho),(M≠F/\H0 M=none)/\U th/\IsTh H T M th.t th.r th.z th.s th.ms
 all:∀ th,U th->∃ T∈ts,∃ M:Addr,(M≠F/\H0 M=none)/\IsTh H T M th.t th.r th.z th.s th.ms
variable{U:Tho->Prop}{F:Addr}{ts:List Addr}
theorem Cov.same{H0 H':Hp}(x:Cov U H0 H F ts)(s:Same H H'):Cov U H0 H' F ts:=
 ⟨s _ _ x.top,fun T hT=>let ⟨M,th,n,u,i⟩:=x.ok T hT;⟨M,th,n,u,i.same s⟩,fun th u=>let ⟨T,hT,M,n,i⟩:=x.all th u;⟨T,hT,M,n,i.same s⟩⟩
theorem Cov.congr{U':Tho->Prop}{H0:Hp}(x:Cov U H0 H F ts)(e:∀ th,U' th↔U th):Cov U' H0 H F ts:=
 ⟨x.top,fun T hT=>let ⟨M,th,n,u,i⟩:=x.ok T hT;⟨M,th,n,(e th).mpr u,i⟩,fun th u=>x.all th ((e th).mp u)⟩
variable{s:Int}{ms:List Int}
theorem oH{T M:Addr}{r z:Int}{xs ys:List V}(i:IsTh H T M t r z s ms)(n:M≠F)(hF:H F=some (.lst xs)):IsTh (upd H F (.lst ys)) T M t r z s ms:=
 ⟨by rw[ai (fun e=>by have:=i.T;rw[e,hF] at this;cases this)];exact i.T,by rw[ai n];exact i.M,i.n⟩
theorem Cov.push{H0:Hp}{T M:Addr}{th:Tho}(x:Cov U H0 H F ts)(n:M≠F/\H0 M=none)(i:IsTh H T M th.t th.r th.z th.s th.ms):Cov (fun y=>U y\/y=th) H0 (upd H F (.lst (ts.map V.ref++[V.ref T]))) F (ts++[T]):=by
 refine⟨by rw[ag,NX];rfl,fun T' hT=>?_,fun y u=>?_⟩
 . rcases Mj.mp hT with hT | hT
   . obtain⟨M',th',n',u',i'⟩:=x.ok T' hT;exact⟨M',th',n',.inl u',oH i' n'.1 x.top⟩
   . rw[Ma.mp hT];exact⟨M,th,n,.inr rfl,oH i n.1 x.top⟩
 . rcases u with u | rfl
   . obtain⟨T',hT,M',n',i'⟩:=x.all y u;exact⟨T',N4 _ hT,M',n',oH i' n'.1 x.top⟩
   . exact⟨T,MU _ (Ma.mpr rfl),M,n,oH i n.1 x.top⟩
def rtF(R:Int)(t:TK):Int:=if t=.clue then 1 else R
def U52(ks:List TK)(R:Int)(n:Nat)(g:Int)(th:Tho):Prop:=th.t∈ks/\(0<=th.r/\th.r<rtF R th.t)/\(0<=th.z/\th.z<n)/\(1<=th.s/\th.s<=g)/\th.ms∈lmF th.t n g
theorem HN(t:TK)(n:Nat)(g:Int)(n9:n<=9)(g6:g<=6):(lmF t n g).length<=91:=by
 unfold lmF
 split
 . simp
 . split
   . rw[LV,rngL,LV,MR];omega
   . rw[My];have:=xq t n n;have h2:n*(1+n)<=9*10:=N6 n9 (by omega);omega
theorem Fw(h:ms∈lmF t n g):ms.length<=2:=by
 unfold lmF at h
 split at h
 . rw[Ma.mp h];simp
 . split at h
   . obtain⟨o,_,rfl⟩:=Mg.mp h;simp
   . rcases Mn.mp h with rfl | h
     . simp
     . obtain⟨a,_,h⟩:=NU.mp h;unfold mr1 at h;rcases Mn.mp h with rfl | h
       . simp
       . split at h
         . obtain⟨b,_,rfl⟩:=Mg.mp h;simp
         . cases h
def fP(K:Frag):Sp:=fun vs H Q _=>∃(Kd:Addr) (ks:List TK) (R:Int) (n:Nat) (g:Int),vs=[.ref Kd,.int R,.int n,.int g]/\KdL H Kd ks/\ks.length<=11/\0<=R/\R<=12/\n<=9/\1<=g/\g<=6/\
 ∀(F:Addr) (ts:List Addr) (H':Hp),Same H H'->H F=none->Cov (U52 ks R n g) H H' F ts->ts.length<=700000->Q (.ref F) H'
def th1(K:Frag):TS:=
 (tFor (iList K (tVar 6)) (gName 9)
  (tDrop (tBM K "list" bm (tVar 4) (tCons (tTup (tCons (tVar 5) (tCons (tVar 7) (tCons (tOp cDiv (tVar 8) (tVar 3)) (tCons (tOp cAdd (tC (.int 1)) (tOp cMod (tVar 8) (tVar 3))) (tCons (tVar 9) tNil)))))) tNil))))
def th2(K:Frag):TS:=
 (tFor (de (tCons (tOp cMul (tVar 2) (tVar 3)) tNil)) (gName 8)
  (th1 K))
def th3(K:Frag):TS:=
 (tFor (de (tCons (tOp cIx (tLst (tCons (tVar 1) (tCons (tC (.int 1)) tNil))) (tCB mH (tCons (tOp (cEq K) (tVar 5) (tC (.str (tx [99,108,117,101])))) tNil))) tNil)) (gName 7)
  (th2 K))
def fQ(K:Frag):TS:=
 (tSeq (tAsg (tLst tNil) (gName 4))
  (tSeq (tFor (iList K (tVar 0)) (gName 5)
  (tSeq (tAsg (tCall (jv K) [] E0 (tCons (tVar 5) (tCons (tVar 2) (tCons (tVar 3) tNil)))) (gName 6))
  (th3 K)))
  (tRet (tVar 4))))
theorem IH(t:TK):decide (tx (tkC t)=tx [99,108,117,101])=decide (t=.clue):=by cases t <;> decide+kernel
theorem Es{z s g k:Int}(g0:0<g)(s0:1<=s)(s1:s<=g):z*g+(s-1)=k↔z=k/g/\s=1+k%g:=by
 constructor
 . rintro rfl
   have e1:(z*g+(s-1))/g=z:=by
    rw[Int.add_comm,Int.add_mul_ediv_right _ _ (by omega),Int.ediv_eq_zero_of_lt (by omega) (by omega)];omega
   have e2:(z*g+(s-1))%g=s-1:=by
    rw[Int.add_comm,Int.add_mul_emod_self_right];exact Int.emod_eq_of_lt (by omega) (by omega)
   rw[e1,e2];exact⟨rfl,by omega⟩
 . rintro⟨rfl,rfl⟩;have:=Os k g;rw[Int.mul_comm] at this;omega
section
variable{K:Frag}{H0:Hp}{Kd F:Addr}{ks:List TK}{R g:Int}{n:Nat}{t:TK}{as:List Addr}{L:Addr}
theorem HP {H:Hp} {D:Ends} {r k:Int} {U:Tho->Prop} {ts:List Addr} {v9:Option V} (g0:1<=g) (g6:g<=6) (n9:n<=9) (s0:Same H0 H) (fF:H0 F=none) (X:IsLL H L as (lmF t n g)) (nL:L≠F) (nA:∀ a∈as,a≠F/\H0 a=none) (C:Cov U H0 H F ts) (tl:ts.length<=690000)
  (k0:∀(ts':List Addr) (H':Hp) (v9:Option V),Same H0 H'->IsLL H' L as (lmF t n g)->Cov (fun y=>U y\/(y.t=t/\y.r=r/\y.z=k/g/\y.s=1+k%g/\y.ms∈lmF t n g)) H0 H' F ts'->ts'.length<=ts.length+91->D.nx [some (.ref Kd),some (.int R),some (.int n),some (.int g),some (.ref F),some (.str (tx (tkC t))),some (.ref L),some (.int r),some (.int k),v9] H'):
  th1 K D [some (.ref Kd),some (.int R),some (.int n),some (.int g),some (.ref F),some (.str (tx (tkC t))),some (.ref L),some (.int r),some (.int k),v9] H:=by
 have al:=X.len;have l91:=HN t n g n9 g6;unfold th1;symm;refine⟨⟨_,Ml X.top⟩,?_⟩
 refine bi (K:=K) (xs:=as.map V.ref) (fun j σ H'=>∃(ts':List Addr) (v9:Option V),σ=[some (.ref Kd),some (.int R),some (.int n),some (.int g),some (.ref F),some (.str (tx (tkC t))),some (.ref L),some (.int r),some (.int k),v9]/\Same H0 H'/\IsLL H' L as (lmF t n g)/\Cov (fun y=>U y\/(y.t=t/\y.r=r/\y.z=k/g/\y.s=1+k%g/\y.ms∈(lmF t n g).take j)) H0 H' F ts'/\ts'.length=ts.length+j)
  ⟨ts,v9,rfl,s0,X,C.congr (fun y=>⟨fun h=>h.elim id fun h=>(by simp at h),.inl⟩),rfl⟩ (fun j σ H' _ ⟨_,_,_,_,x,_⟩=>Ml x.top) ?_ ?_
 . rintro j v σ H1 hv ⟨ts',v9',rfl,s1,X1,C1,l1⟩;obtain⟨M,hM,rfl⟩:=br hv;have hj:j<as.length:=(L1.mp hM).1;have ex:(lmF t n g)[j]? =some (lmF t n g)[j]:=LW (by omega);have eM:=X1.at_ j M _ hM ex;have nM:=nA M (L5 hM);symm;refine⟨bb C1.top,⟨by omega,by omega⟩,by omega,lnR rfl,fun T hT=>?_⟩;have s2:Same H1 (upd H1 T (.tup [.str (tx (tkC t)),.int r,.int (k/g),.int (1+k%g),.ref M])):=(L3 H1).laid hT;have iT:IsTh (upd H1 T (.tup [.str (tx (tkC t)),.int r,.int (k/g),.int (1+k%g),.ref M])) T M t r (k/g) (1+k%g) (lmF t n g)[j]:=⟨ag,s2 _ _ eM,Mi (Fw (ME _)) (by decide)⟩;have fT:H0 T=none:=s1.free hT;generalize upd H1 T (.tup [.str (tx (tkC t)),.int r,.int (k/g),.int (1+k%g),.ref M])=H2 at*;have C2:=C1.same s2;rw[cP C2.top];refine⟨by rw[LV];exact Na (show ts'.length<=699999 by omega) (by decide),ts'++[T],_,rfl,(s1.trans s2).own fF,?_,?_,by rw[Mz];simp;omega⟩
   . have X2:=X1.same s2;refine⟨by rw[ai nL];exact X2.top,X2.len,fun j' a xs h1 h2=>by rw[ai (nA a (L5 h1)).1];exact X2.at_ j' a xs h1 h2⟩
   . refine(C2.push (th:=⟨t,r,k/g,1+k%g,(lmF t n g)[j]⟩) nM iT).congr fun y=>?_;rw[M8,ex];simp only[Mj,Option.toList_some,Ma];constructor
     . rintro(u | ⟨a1,a2,a3,a4,a5 | a5⟩)
       . exact .inl (.inl u)
       . exact .inl (.inr ⟨a1,a2,a3,a4,a5⟩)
       . exact .inr (by cases y;simp only at a1 a2 a3 a4 a5;subst a1 a2 a3 a4 a5;rfl)
     . rintro((u | ⟨a1,a2,a3,a4,a5⟩) | rfl)
       . exact .inl u
       . exact .inr ⟨a1,a2,a3,a4,.inl a5⟩
       . exact .inr ⟨rfl,rfl,rfl,rfl,.inr rfl⟩
 . rintro σ H1 ⟨ts',v9',rfl,s1,X1,C1,l1⟩;rw[LV,al,M0] at C1;rw[LV] at l1;exact k0 ts' H1 v9' s1 X1 C1 (by omega)
theorem HQ {H:Hp} {D:Ends} {r:Int} {U:Tho->Prop} {ts:List Addr} {v8 v9:Option V} (g0:1<=g) (g6:g<=6) (n9:n<=9) (s0:Same H0 H) (fF:H0 F=none) (X:IsLL H L as (lmF t n g)) (nL:L≠F) (nA:∀ a∈as,a≠F/\H0 a=none) (C:Cov U H0 H F ts) (tl:ts.length<=680000)
  (k0:∀(ts':List Addr) (H':Hp) (v8 v9:Option V),Same H0 H'->IsLL H' L as (lmF t n g)->Cov (fun y=>U y\/(y.t=t/\y.r=r/\(0<=y.z/\y.z<n)/\(1<=y.s/\y.s<=g)/\y.ms∈lmF t n g)) H0 H' F ts'->ts'.length<=ts.length+4914->D.nx [some (.ref Kd),some (.int R),some (.int n),some (.int g),some (.ref F),some (.str (tx (tkC t))),some (.ref L),some (.int r),v8,v9] H'):
  th2 K D [some (.ref Kd),some (.int R),some (.int n),some (.int g),some (.ref F),some (.str (tx (tkC t))),some (.ref L),some (.int r),v8,v9] H:=by
 have g1:0<g:=by omega
 have ng:0<=(n:Int)*g:=NJ (by omega) (by omega);have ng2:(n:Int)*g<=54:=Int.le_trans (Nv (show(n:Int)<=9 by omega) (by omega)) (by omega);unfold th2;symm;refine⟨.inr ⟨by omega,by omega⟩,?_⟩;refine⟨(n:Int)*g,rfl,by omega,by omega,?_⟩
 refine cF (fun i σ H'=>∃(ts':List Addr) (v8 v9:Option V),σ=[some (.ref Kd),some (.int R),some (.int n),some (.int g),some (.ref F),some (.str (tx (tkC t))),some (.ref L),some (.int r),v8,v9]/\Same H0 H'/\IsLL H' L as (lmF t n g)/\Cov (fun y=>U y\/(y.t=t/\y.r=r/\(0<=y.z/\y.z*g+(y.s-1)<i)/\(1<=y.s/\y.s<=g)/\y.ms∈lmF t n g)) H0 H' F ts'/\ts'.length<=ts.length+i*91)
  ⟨ts,v8,v9,rfl,s0,X,C.congr (fun y=>⟨fun h=>h.elim id fun h=>(by
   have:=NJ h.2.2.1.1 (show 0<=g by omega);have:=h.2.2.1.2;have:=h.2.2.2.1.1;omega),.inl⟩),by omega⟩ ?_ ?_
 . rintro i σ H1 hi ⟨ts',v8',v9',rfl,s1,X1,C1,l1⟩;rw[aY];refine HP (r:=r) (k:=0+(i:Int)) g0 g6 n9 s1 fF X1 nL nA C1 (by omega) fun ts2 H2 v92 s2 X2 C2 l2=>?_;refine⟨ts2,_,_,rfl,s2,X2,C2.congr fun y=>?_,by omega⟩;have hx:=fun s0 s1=>@Es y.z y.s g (0+(i:Int)) g1 s0 s1;constructor
   . rintro(u | ⟨a1,a2,⟨a3,a4⟩,⟨a5,a6⟩,a7⟩)
     . exact .inl (.inl u)
     . by_cases q:y.z*g+(y.s-1) < (i:Int)
       . exact .inl (.inr ⟨a1,a2,⟨a3,q⟩,⟨a5,a6⟩,a7⟩)
       . have:=(hx a5 a6).mp (by omega);exact .inr ⟨a1,a2,this.1,this.2,a7⟩
   . rintro((u | ⟨a1,a2,⟨a3,a4⟩,⟨a5,a6⟩,a7⟩) | ⟨a1,a2,a3,a4,a5⟩)
     . exact .inl u
     . exact .inr ⟨a1,a2,⟨a3,by omega⟩,⟨a5,a6⟩,a7⟩
     . have m0:=MJ (0+(i:Int)) (show g≠0 by omega);have m1:=MF (0+(i:Int)) g1;have:=(hx (by omega) (by omega)).mpr ⟨a3,a4⟩;refine .inr ⟨a1,a2,⟨?_,by omega⟩,⟨by omega,by omega⟩,a5⟩;rw[a3];exact Int.ediv_nonneg (by omega) (by omega)
 . rintro σ H1 ⟨ts',v8',v9',rfl,s1,X1,C1,l1⟩;refine k0 ts' H1 v8' v9' s1 X1 (C1.congr fun y=>or_congr_right ?_) (by omega);refine and_congr_right fun a1=>and_congr_right fun a2=>?_;constructor
   . rintro⟨⟨a3,a4⟩,⟨a5,a6⟩,a7⟩;refine⟨⟨a3,?_⟩,⟨a5,a6⟩,a7⟩;have:(y.z+1)*g<=n*g:=Nv (by omega) (by omega);rw[Int.add_mul] at this;omega
   . rintro⟨⟨a3,a4⟩,⟨a5,a6⟩,a7⟩;refine⟨⟨a3,?_⟩,⟨a5,a6⟩,a7⟩;rcases Int.lt_or_le y.z n with q | q
     . exact q
     . have:(n:Int)*g<=y.z*g:=Nv q (by omega);omega
theorem HR {H:Hp} {D:Ends} {U:Tho->Prop} {ts:List Addr} {v7 v8 v9:Option V} (R0:0<=R) (R1:R<=12) (g0:1<=g) (g6:g<=6) (n9:n<=9) (s0:Same H0 H) (fF:H0 F=none) (X:IsLL H L as (lmF t n g)) (nL:L≠F) (nA:∀ a∈as,a≠F/\H0 a=none) (C:Cov U H0 H F ts) (tl:ts.length<=610000)
  (k0:∀(ts':List Addr) (H':Hp) (v7 v8 v9:Option V),Same H0 H'->Cov (fun y=>U y\/(y.t=t/\(0<=y.r/\y.r<rtF R t)/\(0<=y.z/\y.z<n)/\(1<=y.s/\y.s<=g)/\y.ms∈lmF t n g)) H0 H' F ts'->ts'.length<=ts.length+58968->D.nx [some (.ref Kd),some (.int R),some (.int n),some (.int g),some (.ref F),some (.str (tx (tkC t))),some (.ref L),v7,v8,v9] H'):
  th3 K D [some (.ref Kd),some (.int R),some (.int n),some (.int g),some (.ref F),some (.str (tx (tkC t))),some (.ref L),v7,v8,v9] H:=by
 unfold th3;symm;refine⟨lnR rfl,fun Z hZ=>?_⟩;obtain⟨H1,z9,s1,eZ⟩:∃ z,upd H Z (.lst [V.int R,V.int 1])=z/\Same H z/\z Z=some (.lst (([R,1]:List Int).map V.int)):=aS _ hZ;rw[z9];rw[IH]
 have fin:rtF R t=([R,1]:List Int).getD (if decide (t=.clue) then 1 else 0:Int).toNat 0:=by
  unfold rtF;by_cases e:t=.clue
  . rw[Mp e,LY e];rfl
  . rw[Md e,L0 e];rfl
 have rt0:0<=rtF R t/\rtF R t<=12:=by unfold rtF;split <;> omega
 symm;rw[Cb eZ];refine aV (pK (by split <;> omega) (by split <;> simp)) ?_;rw[← fin];symm;refine⟨rtF R t,rfl,by omega,by omega,?_⟩
 refine cF (fun i σ H'=>∃(ts':List Addr) (v7 v8 v9:Option V),σ=[some (.ref Kd),some (.int R),some (.int n),some (.int g),some (.ref F),some (.str (tx (tkC t))),some (.ref L),v7,v8,v9]/\Same H0 H'/\IsLL H' L as (lmF t n g)/\Cov (fun y=>U y\/(y.t=t/\(0<=y.r/\y.r<i)/\(0<=y.z/\y.z<n)/\(1<=y.s/\y.s<=g)/\y.ms∈lmF t n g)) H0 H' F ts'/\ts'.length<=ts.length+i*4914)
  ⟨ts,v7,v8,v9,rfl,s0.trans s1,X.same s1,(C.same s1).congr (fun y=>⟨fun h=>h.elim id fun h=>(by have:=h.2.1;omega),.inl⟩),by omega⟩ ?_ ?_
 . rintro i σ H2 hi ⟨ts',v7',v8',v9',rfl,s2,X2,C2,l2⟩;rw[aY];refine HQ (r:=0+(i:Int)) g0 g6 n9 s2 fF X2 nL nA C2 (by omega) fun ts3 H3 v83 v93 s3 X3 C3 l3=>?_;refine⟨ts3,_,_,_,rfl,s3,X3,C3.congr fun y=>?_,by omega⟩;constructor
   . rintro(u | ⟨a1,⟨a2,a3⟩,a4⟩)
     . exact .inl (.inl u)
     . by_cases q:y.r < (i:Int)
       . exact .inl (.inr ⟨a1,⟨a2,q⟩,a4⟩)
       . exact .inr ⟨a1,by omega,a4⟩
   . rintro((u | ⟨a1,⟨a2,a3⟩,a4⟩) | ⟨a1,a2,a4⟩)
     . exact .inl u
     . exact .inr ⟨a1,⟨a2,by omega⟩,a4⟩
     . exact .inr ⟨a1,⟨by omega,by omega⟩,a4⟩
 . rintro σ H2 ⟨ts',v7',v8',v9',rfl,s2,X2,C2,l2⟩;refine k0 ts' H2 v7' v8' v9' s2 (C2.congr fun y=>or_congr_right ?_) (by omega);rw[show(((rtF R t).toNat:Nat):Int)=rtF R t by omega]
end
theorem rF(h:fP K vs H Q E):fQ K (eD9 Q) (start ["_law_kinds","_law_rules","_law_many","_law_signs","_law_found","_law_word","_law_mores_here","_law_number","_law_k","_law_more"] vs) H:=by
 obtain⟨Kd,ks,R,n,g,rfl,hK,kl,R0,R1,n9,g0,g6,q⟩:=h;show fQ K _ [some (.ref Kd),some (.int R),some (.int n),some (.int g),none,none,none,none,none,none] H;unfold fQ;symm;refine⟨aN (by decide),fun F hF=>?_⟩;obtain⟨H1,z9,s1,eF⟩:∃ z,upd H F (.lst [])=z/\Same H z/\z F=some (.lst (([]:List Addr).map V.ref)):=aS _ hF;rw[z9];refine⟨⟨_,Ml (s1 _ _ hK)⟩,?_⟩
 refine bi (K:=K) (xs:=(ks.map txk).map V.str) (fun i σ H'=>∃(ts:List Addr) (v5 v6 v7 v8 v9:Option V),σ=[some (.ref Kd),some (.int R),some (.int n),some (.int g),some (.ref F),v5,v6,v7,v8,v9]/\Same H H'/\Cov (U52 (ks.take i) R n g) H H' F ts/\ts.length<=i*58968)
  ⟨[],none,none,none,none,none,rfl,s1,⟨eF,(fun T hT=>nomatch hT),fun th u=>nomatch u.1⟩,M2 _⟩ (fun i σ H' _ ⟨_,_,_,_,_,_,_,s',_⟩=>Ml (s' _ _ hK)) ?_ ?_
 . rintro i v σ H2 hv ⟨ts,v5,v6,v7,v8,v9,rfl,s2,C,l2⟩;rw[L9,L9] at hv
   cases ht:ks[i]? with
   | none=>rw[ht] at hv;cases hv
   | some t=>
    rw[ht] at hv;cases hv;have hi:i<ks.length:=(L1.mp ht).1;symm;refine⟨t,n,g,rfl,n9,g0,g6,fun L as H3 s3 hL hA X=>?_⟩;have nL:L≠F:=fun e=>by rw[e,C.top] at hL;cases hL
    have nA:∀ a∈as,a≠F/\H a=none:=fun a ha=>⟨(fun e=>by have:=hA a ha;rw[e,C.top] at this;cases this),s2.free (hA a ha)⟩;refine HR R0 R1 g0 g6 n9 (s2.trans s3) hF X nL nA (C.same s3) (by omega) fun ts4 H4 v74 v84 v94 s4 C4 l4=>?_;refine⟨ts4,_,_,_,_,_,rfl,s4,C4.congr fun y=>?_,by omega⟩;rw[M8,ht];unfold U52;simp only[Mj,Option.toList_some,Ma];constructor
    . rintro⟨a1 | a1,a2⟩
      . exact .inl ⟨a1,a2⟩
      . rw[a1] at a2;exact .inr ⟨a1,a2⟩
    . rintro(⟨a1,a2⟩ | ⟨a1,a2⟩)
      . exact⟨.inl a1,a2⟩
      . rw[← a1] at a2;exact⟨.inr a1,a2⟩
 . rintro σ H2 ⟨ts,v5,v6,v7,v8,v9,rfl,s2,C,l2⟩;rw[LV,LV,M0] at C;rw[LV,LV] at l2;symm;exact q F ts H2 s2 hF C (by omega)
theorem Fx:((List.range 8).all fun m=>(List.range 3).all fun s=>decide (decide ((m:Int) / ([1,2,4]:List Int).getD s 0%2=1)=stB (m:Int) (1+(s:Int))))=true:=by decide+kernel
theorem GF{m:Int}(m0:0<=m)(m1:m<8)(s0:1<=s)(s3:s<=3):decide (m / ([1,2,4]:List Int).getD (s-1).toNat 0%2=1)=stB m s:=by
 have t:=L4 (L6.mp (L6.mp Fx m.toNat (Mb.mpr (by omega))) (s-1).toNat (Mb.mpr (by omega)));rw[show((m.toNat:Nat):Int)=m by omega,show 1+(((s-1).toNat:Nat):Int)=s by omega] at t;exact t
theorem Fy:((List.range 64).all fun a=>(List.range 64).all fun b=>!((List.range 6).all fun s=>decide (stB (a:Int) (1+(s:Int))=stB (b:Int) (1+(s:Int))))||decide (a=b))=true:=by decide+kernel
theorem BT{a b:Int}(x:Sub30 a b)(y:Sub30 b a):a=b:=by
 have a0:=x.a0;have a1:=x.a1;have b0:=x.b0;have b1:=x.b1;have t:=L6.mp (L6.mp Fy a.toNat (Mb.mpr (by omega))) b.toNat (Mb.mpr (by omega))
 have al:((List.range 6).all fun s=>decide (stB ((a.toNat:Nat):Int) (1+(s:Int))=stB ((b.toNat:Nat):Int) (1+(s:Int))))=true:=by
  rw[show((a.toNat:Nat):Int)=a by omega,show((b.toNat:Nat):Int)=b by omega];refine L6.mpr fun s _=>LY ?_;rw[MA];exact⟨x.st _,y.st _⟩
 rw[al,NG,Nc] at t;have:=L4 t;omega
theorem oI(h2:t≠.place):[]∈lmF t n g:=by
 unfold lmF
 split
 . simp
 . first | (rw[Md h2];simp) | simp
theorem vW{o:Int}(h1:nilT t=false)(h2:t≠.place)(o0:0<=o)(o1:o<n):[o]∈lmF t n g:=by
 unfold lmF;rw[h1,Md L7,Md h2];refine Mc _ (NU.mpr ⟨o.toNat,Mb.mpr (by omega),?_⟩);unfold mr1;rw[show((o.toNat:Nat):Int)=o by omega];exact Mf
theorem Et{a b:Int}(h1:nilT t=false)(h2:t≠.place)(h3:rpT t=true)(a0:0<=a)(a1:a<n)(b0:0<=b)(b1:b<n):[a,b]∈lmF t n g:=by
 unfold lmF;rw[h1,Md L7,Md h2];refine Mc _ (NU.mpr ⟨a.toNat,Mb.mpr (by omega),?_⟩);unfold mr1;rw[h3,Mp rfl,show((a.toNat:Nat):Int)=a by omega];exact Mc _ (Mg.mpr ⟨b.toNat,Mb.mpr (by omega),by rw[show((b.toNat:Nat):Int)=b by omega]⟩)
variable{c:RCl RK}{LK:List RR}
theorem HS{h w:Int}{cl LI:List Int}{r z:Int}(R:bB c h w g LK)(f:formB h w g LK t r z s=true)(hb:strA h w g LK cl LI t r z s ms=true):ms∈lmF t (h*w).toNat g:=by
 obtain⟨z0,z1,s0,s1,LU⟩:=bD f;have F:=R.F;by_cases hc:t=.clue
 . subst hc;have:clueB cl z s ms=true:=hb;unfold clueB at this;rw[LZ] at this;rw[L4 this.1];exact oI (by decide)
 obtain⟨r0,y,ey,hgo,hz⟩:=dC hc LU;have O:=R.ok y (L5 ey);have inr:∀ o∈y.cs,0<=o/\o < ((h*w).toNat:Nat):=fun o ho=>(OH O F).2 o ho
 cases t with
 | clue=>exact absurd rfl hc
 | only=>
  have q:onlyB y.cs LI z s ms=true:=by
   have:=hb;unfold strA dZ at this;simp only[lineK,NB,ey] at this;exact this
  unfold onlyB at q;simp only[LZ,LX] at q;rw[gP q.1];have b:=inr _ (L8.mp q.2.1).1;exact vW rfl (by decide) b.1 b.2
 | place=>
  have q:gN g y.cs LI z s ms=true:=by
   have:=hb;unfold strA dZ at this;simp only[lineK,NB,ey] at this;exact this
  unfold gN at q;simp only[LZ,LX,M7,Ng] at q;rw[gP q.2.1];unfold lmF;rw[Md (by decide),Mp rfl];exact Mg.mpr ⟨_,rng1_mem.mpr q.2.2.2.1,rfl⟩
 | pair=>
  have q:pairB y.cs LI z s ms=true:=by
   have:=hb;unfold strA dZ at this;simp only[lineK,NB,ey] at this;exact this
  unfold pairB ordB at q;simp only[LZ,LX] at q;obtain⟨⟨l2,a1,a2,a3⟩,few⟩:=q;rw[vS l2];have b1:=inr _ (L8.mp a1).1;have b2:=inr _ (L8.mp a2).1;exact Et rfl (by decide) rfl b1.1 b1.2 b2.1 b2.2
 | square=>
  have q:squB h w y.m LI z s ms=true:=by
   have:=hb;unfold strA fK at this;simp only[lineK,nbrK,NR,MX,ey,km] at this;exact this
  unfold squB at q;simp only[LZ,LX,M7,Ng] at q;rw[gP q.2.1];have ne:=q.2.2.1;unfold rosL at ne
  cases e:(squL h w).find? (rosP (ms.getD 0 0) z) with
  | none=>rw[e] at ne;exact absurd rfl ne
  | some sq=>
   have hp:=PB e;unfold rosP at hp;rw[LZ,LX] at hp;obtain⟨i,hi,hc,rfl⟩:=sN (N9 e);rw[← hp.1];exact vW rfl (by decide) (by show 0<=((i:Nat):Int);omega) (by show((i:Nat):Int)<_;omega)
 | turn=>
  have q:turnB h w y.m LI z s ms=true:=by
   have:=hb;unfold strA fK at this;simp only[lineK,nbrK,NR,MX,ey,km] at this;exact this
  unfold turnB at q;by_cases e:ms=[]
  . rw[e];exact oI (by decide)
  . rw[Md e] at q;simp only[LZ,LX] at q;rw[gP q.1];have b:=(vJ F z0 z1).2 _ q.2.1;exact vW rfl (by decide) b.1 (by omega)
 | reach=>
  have q:reaB h w y.cs y.m LI z s ms=true:=by
   have:=hb;unfold strA fK at this;simp only[lineK,nbrK,NR,MX,ey,km] at this;exact this
  unfold reaB at q;rw[LZ,L6] at q;obtain⟨al,q⟩:=q
  have inn:∀ o∈ms,0<=o/\o < ((h*w).toNat:Nat):=fun o ho=>by
   have:=al o ho;unfold anoB at this;simp only[LZ,LX] at this;omega
  have len:ms.length=1\/ms.length=2:=by
   split at q
   . rw[LZ,LX] at q;exact .inl q.1
   . rw[LZ,LX] at q;exact .inr q.1
  rcases len with l | l
  . have em:=gP l;have b:=inn (ms.getD 0 0) (by rw[em];simp);rw[em];exact vW rfl (by decide) b.1 b.2
  . have em:=vS l;have b:=inn (ms.getD 0 0) (by rw[em];simp);have b2:=inn (ms.getD 1 0) (by rw[em];simp);rw[em];exact Et rfl (by decide) rfl b.1 b.2 b2.1 b2.2
 | count=>
  have q:cntB y.cs y.n y.m LI z s ms=true:=by
   have:=hb;unfold strA cw at this;simp only[lineK,nbrK,NB,NR,MX,ey,d2] at this;exact this
  unfold cntB at q;rw[LZ] at q;rw[L4 q.1];exact oI (by decide)
 | step=>
  have q:stepB y.cs LI z s ms=true:=by
   have:=hb;unfold strA cw at this;simp only[lineK,nbrK,NB,ey,d2] at this;exact this
  unfold stepB at q;rw[LZ] at q;rw[L4 q.1];exact oI (by decide)
 | sum=>
  have q:sumB y.cs y.n LI z s ms=true:=by
   have:=hb;unfold strA cw at this;simp only[lineK,nbrK,NB,NR,MX,ey,d2] at this;exact this
  unfold sumB at q;rw[LZ] at q;rw[L4 q.1];exact oI (by decide)
 | ways=>
  have q:waysB y.k h w y.cs y.n y.m LI z s ms=true:=by
   have:=hb;unfold strA cw at this;simp only[lineK,nbrK,NB,NR,MX,ey,d2] at this;exact this
  unfold waysB at q;rw[LZ] at q;rw[L4 q.1];exact oI (by decide)
section
variable{c:RCl RK}{h w g:Int}{LK:List RR}{cl:List Int}{ks:List TK}
theorem HU{m:List Int}{th:Tho}(R:bB c h w g LK)(ht:th.t∈ks)(a:alwA h w g LK cl m th.t th.r th.z th.s th.ms=true):U52 ks LK.length (h*w).toNat g th:=by
 unfold alwA at a;rw[LZ] at a;obtain⟨f,q⟩:=a;obtain⟨z0,z1,s0,s1,LU⟩:=bD f;refine⟨ht,?_,⟨z0,by omega⟩,⟨s0,s1⟩,HS R f q⟩;unfold rtF;by_cases hc:th.t=.clue
 . rw[Mp hc];unfold hitB at LU
   split at LU
   . cases LU
   . first | rw[Mp hc] at LU | skip
     rw[L4 LU];decide
 . obtain⟨r0,y,ey,_⟩:=dC hc LU;have:=(L1.mp ey).1;rw[Md hc];omega
theorem tL{n:Nat}{L N:List Int}{z s:Int}(g0:1<=g)(g6:g<=6)(XL:MkP g n L)(z0:0<=z)(z1:z<n)(s0:1<=s)(s6:s<=6)(Y:aW L N)(no:stB (N.getD z.toNat 0) s=false):aW (stL L z s) N:=by
 intro k;have p64:=gW g0 g6;rcases Oq k L.length with hk | hk
 . rw[vP hk];by_cases e:(k:Int)=z
   . rw[Mp e];have b:=XL.mm _ (bv hk);have t:=rE (s:=s) b.1 (by omega) s0 s6;have S:=Y k;refine⟨S.a0,S.a1,t.1.1,by omega,fun x hx=>?_⟩;have ek:k=z.toNat:=by omega
     have hx':=S.st x hx;by_cases ex:x=s
     . rw[ex,ek,no] at hx;cases hx
     . have bx:=oG (g:=6) (m:=N.getD k 0) (by decide) (by decide) S.a0 (by simpa using S.a1) ((iG S.a0 x).mpr hx);rw[t.2.1 x bx.1 bx.2 ex];exact hx'
   . rw[Md e];exact Y k
 . have e1:(stL L z s).getD k 0=0:=by rw[List.getD,Mt (by rw[xo];exact hk)];rfl
   have e2:L.getD k 0=0:=by rw[List.getD,Mt hk];rfl
   have S:=Y k;rw[e2] at S;rw[e1];exact S
theorem Al{L:List Int}(R:bB c h w g LK)(XL:MkP g (h*w).toNat L)(stop:∀ th,U52 ks LK.length (h*w).toNat g th->stB (L.getD th.z.toNat 0) th.s=true->alwA h w g LK cl L th.t th.r th.z th.s th.ms=true->False):
  ∀{LR:List Tho} {M N:List Int},MkP g (h*w).toNat M->aW M L->Wlk h w g LK cl ks M LR N->aW N L
 | [],M,N,_,Y,W=>by cases (show M=N from W);exact Y
 | th::r,M,N,XM,Y,W=>by
  obtain⟨n0,ht,hz,hs,st,a⟩:=W.1;have g0:=R.F.g0;have g6:=R.F.g1;have a2:=lessA R Y (by rw[XL.len,XM.len]) a;refine Al R XL stop (XM.stL g0 g6 hs.1 (by omega)) (tL g0 g6 XM hz.1 (by omega) hs.1 (by omega) Y ?_) W.2
  cases e:stB (L.getD th.z.toNat 0) th.s with
  | false=>rfl
  | true=>exact(stop th (HU R ht a) e a2).elim
theorem vX{L N:List Int}(Y:aW L N)(el:N.length=L.length)(h0:0∈L):0∈N:=by
 obtain⟨k,hk,e⟩:=List.getElem_of_mem h0;have S:=Y k;have e1:L.getD k 0=0:=by rw[List.getD,LW hk,e];rfl
 rw[e1] at S
 have e2:N.getD k 0=0:=by
  have:=BT S ⟨S.b0,S.b1,S.a0,S.a1,fun s hs=>by rw[HG] at hs;cases hs⟩;exact this
 rw[← e2];exact bv (by omega)
theorem FM {L M N:List Int} {LR:List Tho} (R:bB c h w g LK) (XL:MkP g (h*w).toNat L) (XM:MkP g (h*w).toNat M) (W:Wlk h w g LK cl ks M LR N) (en:0∈N\/ffF h w g LK cl N ks=[]) (LM:aW M L) (NL:0∉N->aW L N)
  (stop:0∉L->∀ th,U52 ks LK.length (h*w).toNat g th->stB (L.getD th.z.toNat 0) th.s=true->alwA h w g LK cl L th.t th.r th.z th.s th.ms=true->False):(0∈L->0∈N)/\(0∉L->N=L):=by
 have g0:=R.F.g0;have g6:=R.F.g1;have XN:=(W.okM g0 g6 XM).1;have el:N.length=L.length:=by rw[XN.len,XL.len]
 refine⟨fun h0=>?_,fun h0=>?_⟩
 . by_cases q:0∈N
   . exact q
   . exact vX (NL q) el h0
 . have Y:=Al R XL (stop h0) XM LM W;have q:0∉N:=fun q=>h0 (vX Y el.symm q);have Y2:=NL q;refine No fun i=>?_;rcases Oq i N.length with hi | hi
   . have:=BT (Y2 i) (Y i);rw[List.getD,List.getD,LW hi,LW (by omega)] at this;rw[LW hi,LW (by omega)];exact congrArg some this
   . rw[Mt hi,Mt (by omega)]
theorem Fz{L N:List Int}{th:Tho}(R:bB c h w g LK)(XL:MkP g (h*w).toNat L)(XN:MkP g (h*w).toNat N)(en:0∈N\/ffF h w g LK cl N ks=[])(NL:0∉N->aW L N)(u:U52 ks LK.length (h*w).toNat g th)(a:alwA h w g LK cl L th.t th.r th.z th.s th.ms=true):0∉N->aW (stL L th.z th.s) N:=fun q=>by
 have g0:=R.F.g0;have g6:=R.F.g1;have Y:=NL q;refine tL g0 g6 XL u.2.2.1.1 u.2.2.1.2 u.2.2.2.1.1 (by have:=u.2.2.2.1.2;omega) Y ?_;exact HM R XN q (en.elim (fun h=>absurd h q) id) u.1 (lessA R Y (by rw[XN.len,XL.len]) a)
theorem HV{n:Nat}{L:List Int}(g0:1<=g)(g6:g<=6)(XL:MkP g n L):(btA L:Int)<=n*g:=by
 have go:∀ xs:List Int,(∀ m∈xs,0<=m/\m<2^g.toNat)->(btA xs:Int)<=xs.length*g:=fun xs=>by
  induction xs with
  | nil=>intro _;simp[btA]
  | cons m xs ih=>
   intro hm;have b:=hm m (.head _);have:=ih fun x hx=>hm x (.tail _ hx);have l:=dI (ys:=rngL 1 (g+1)) (rB m) fun x hx=>rng1_mem.mpr (oG g0 g6 b.1 b.2 hx);rw[rngL,LV,MR] at l;have e:btA (m::xs)=(sgL m).length+btA xs:=by unfold btA;simp
   rw[e,My];have e2:(((xs.length+1:Nat)):Int)*g=xs.length*g+g:=by rw[Int.natCast_add,Int.add_mul];simp
   rw[e2];omega
 have:=go L XL.mm;rw[XL.len] at this;exact this
end
theorem GG(g0:1<=g)(g3:g<=3):(2:Int)^g.toNat<=8:=by
 have e:g=1\/g=2\/g=3:=by omega
 rcases e with rfl | rfl | rfl <;> decide
def kQ(K:Frag)(c:RCl RK)(d:RCl PzK):Sp:=fun vs H Q _=>∃(P L G A F:Addr) (h w g st:Int) (LK:List RR) (cl LI:List Int) (ks:List TK) (ts:List Addr) (H0:Hp),vs=[.ref P,.ref A,.ref F,.int st]/\Lk H c d P L G A h w g LK cl LI/\g<=3/\0<=st/\st<=2000000/\Cov (U52 ks LK.length (h*w).toNat g) H0 H F ts/\ts.length<=700000/\
 (∀(T M:Addr) (th:Tho) (H':Hp),Same H H'->U52 ks LK.length (h*w).toNat g th->stB (LI.getD th.z.toNat 0) th.s=true->alwA h w g LK cl LI th.t th.r th.z th.s th.ms=true->IsTh H' T M th.t th.r th.z th.s th.ms->Q (.ref T) H')/\
 ((∀ th,U52 ks LK.length (h*w).toNat g th->stB (LI.getD th.z.toNat 0) th.s=true->alwA h w g LK cl LI th.t th.r th.z th.s th.ms=true->False)->∀ H',Same H H'->Q .non H')
def kR(K:Frag)(c:RCl RK)(d:RCl PzK):TS:=
 (tSeq (tFor (de (tCons (tCB kLen (tCons (tVar 2) tNil)) tNil)) (gName 4)
  (tSeq (tAsg (tOp cIx (tVar 2) (tOp cMod (tOp cAdd (tVar 3) (tVar 4)) (tCB kLen (tCons (tVar 2) tNil)))) (gName 5))
  (tSeq (tAsg (tOp cIx (tLst (tCons (tC (.int 1)) (tCons (tC (.int 2)) (tCons (tC (.int 4)) tNil)))) (tOp cSub (tOp cIx (tVar 5) (tC (.int 3))) (tC (.int 1)))) (gName 6))
  (tIfS (tAnd (tTest (tOp (cEq K) (tOp cMod (tOp cDiv (tOp cIx (tVar 1) (tOp cIx (tVar 5) (tC (.int 2)))) (tVar 6)) (tC (.int 2))) (tC (.int 1)))) (tB (tCall (oj K c d) [] E0 (tCons (tVar 0) (tCons (tVar 1) (tCons (tVar 5) tNil)))))) (tRet (tVar 5)) tNext))))
  (tRet (tC .non)))
theorem II{st:Int}(n0:0<n)(i:Nat)(hi:i<n):∃ j:Nat,j<n/\(st+(j:Int))%n=i:=by
 have e0:=MJ ((i:Int)-st) (show(n:Int)≠0 by omega);have e1:=MF ((i:Int)-st) (show(0:Int)<n by omega);refine⟨(((i:Int)-st)%n).toNat,by omega,?_⟩;rw[show((((i:Int)-st)%n).toNat:Int)=((i:Int)-st)%n by omega,Int.add_emod_emod,show st+((i:Int)-st)=i by omega];exact Int.emod_eq_of_lt (by omega) (by omega)
theorem vY:∀{xs ys:List Int},xs.map V.int=ys.map V.int->xs=ys
 | [],[],_=>rfl
 | [],_::_,h=>by cases h
 | _::_,[],h=>by cases h
 | x::xs,y::ys,h=>by
  rw[Mx,Mx] at h;injection h with h1 h2;injection h1 with h1;rw[h1,vY h2]
theorem GH{T M M':Addr}{t':TK}{r z r' z' s':Int}{ms':List Int}(a:IsTh H T M t r z s ms)(b:IsTh H T M' t' r' z' s' ms'):t=t'/\r=r'/\z=z'/\s=s'/\ms=ms':=by
 have e:=a.T.symm.trans b.T;injection e with e;injection e with e;simp only[List.cons.injEq,V.str.injEq,V.int.injEq,V.ref.injEq,and_true] at e;obtain⟨e1,rfl,rfl,rfl,rfl⟩:=e;have e2:=a.M.symm.trans b.M;injection e2 with e2;injection e2 with e2;refine⟨?_,rfl,rfl,rfl,vY e2⟩;have:=BK (a:=t) (b:=t');rw[show decide (txk t=txk t')=true from LY e1] at this;exact L4 this.symm
variable{d:RCl PzK}
theorem yK(h:kQ K c d vs H Q E):kR K c d (eD9 Q) (start ["_law_puzzle","_law_masks","_law_thoughts_here","_law_start","_law_k","_law_thought","_law_one_here"] vs) H:=by
 obtain⟨P,L,G,A,F,h,w,g,st,LK,cl,LI,ks,ts,H0,rfl,X,g3,st0,st1,C,tl,yes,no⟩:=h;have g0:=X.P.R.F.g0;have m64:=X.m64;show kR K c d _ [some (.ref P),some (.ref A),some (.ref F),some (.int st),none,none,none] H;unfold kR;symm;rw[bd C.top,LV];refine⟨(ts.length:Int),rfl,by omega,by omega,?_⟩;rw[NN]
 refine cF (fun i σ H'=>∃(v4 v5 v6:Option V),σ=[some (.ref P),some (.ref A),some (.ref F),some (.int st),v4,v5,v6]/\Same H H'/\∀(j:Nat) (T:Addr),j<i->ts[((st+(j:Int)) % (ts.length:Int)).toNat]? =some T->∀(M:Addr) (th:Tho),IsTh H T M th.t th.r th.z th.s th.ms->stB (LI.getD th.z.toNat 0) th.s=true->alwA h w g LK cl LI th.t th.r th.z th.s th.ms=true->False)
  ⟨none,none,none,rfl,L3 H,fun j T hj=>absurd hj (Nat.not_lt_zero _)⟩ ?_ ?_
 . rintro i σ H1 hi ⟨v4,v5,v6,rfl,s1,not⟩;have C1:=C.same s1;have X1:=X.same s1;symm;rw[bd C1.top,LV];symm;refine⟨by omega,?_⟩;have e0:=MJ (st+(0+(i:Int))) (show(ts.length:Int)≠0 by omega);have e1:=MF (st+(0+(i:Int))) (show(0:Int)<ts.length by omega);have eT:ts[((st+(0+(i:Int))) % (ts.length:Int)).toNat]? =some ts[((st+(0+(i:Int))) % (ts.length:Int)).toNat]:=LW (by omega);generalize hT:ts[((st+(0+(i:Int))) % (ts.length:Int)).toNat]=T at eT;obtain⟨M,th,nM,u,iT⟩:=C1.ok T (L5 eT);obtain⟨uk,ur,uz,us,um⟩:=id u;refine ixL C1.top (v:=V.ref T) (dJ e0 eT) ?_;symm;refine⟨lnR rfl,fun B hB=>?_⟩;obtain⟨H2,z9,s2,eB⟩:∃ z,upd H1 B (.lst [V.int 1,V.int 2,V.int 4])=z/\Same H1 z/\z B=some (.lst (([1,2,4]:List Int).map V.int)):=aS _ hB;rw[z9];have iT2:=iT.same s2;have X2:=X1.same s2;refine ixT iT2.T (v:=V.int th.s) rfl ?_;symm;refine ixI eB (by omega) (by show th.s-1 < (3:Int);omega) ?_;rw[ay,ff];symm;refine ixT iT2.T (v:=V.int th.z) rfl ?_;have hl:th.z.toNat<LI.length:=by rw[X.n];omega
   refine ixI X2.A uz.1 (by rw[X.n];omega) ?_;have b:=X.mm _ (bv hl)
   have b8:LI.getD th.z.toNat 0<8:=by
    have p:=GG g0 g3;omega
   have bp:0 < ([1,2,4]:List Int).getD (th.s-1).toNat 0/\([1,2,4]:List Int).getD (th.s-1).toNat 0<=4:=by
    have e:th.s=1\/th.s=2\/th.s=3:=by omega
    rcases e with e | e | e <;> rw[e] <;> decide
   symm;refine⟨⟨bp.1,by omega⟩,by decide,?_⟩;rw[GF b.1 b8 us.1 (by omega)]
   have next:∀ H3:Hp,Same H1 H3->(stB (LI.getD th.z.toNat 0) th.s=true->alwA h w g LK cl LI th.t th.r th.z th.s th.ms=true->False)->∃(v4 v5 v6:Option V),[some (V.ref P),some (.ref A),some (.ref F),some (.int st),some (.int (0+(i:Int))),some (.ref T),some (.int (([1,2,4]:List Int).getD (th.s-1).toNat 0))]=[some (.ref P),some (.ref A),some (.ref F),some (.int st),v4,v5,v6]/\Same H H3/\∀(j:Nat) (T:Addr),j<i+1->ts[((st+(j:Int)) % (ts.length:Int)).toNat]? =some T->∀(M:Addr) (th:Tho),IsTh H T M th.t th.r th.z th.s th.ms->stB (LI.getD th.z.toNat 0) th.s=true->alwA h w g LK cl LI th.t th.r th.z th.s th.ms=true->False:=fun H3 s3 nn=>by
    refine⟨_,_,_,rfl,s1.trans s3,fun j T' hj eT' M' th' i' sb' a'=>?_⟩;rcases Oq j i with q | q
    . exact not j T' q eT' M' th' i' sb' a'
    . obtain rfl:j=i:=by omega
      rw[NE] at eT;rw[eT] at eT';cases eT';obtain⟨u1,u2,u3,u4,u5⟩:=GH iT (i'.same s1);rw[← u3,← u4] at sb';rw[← u1,← u2,← u3,← u4,← u5] at a';exact nn sb' a'
   cases hsb:stB (LI.getD th.z.toNat 0) th.s with
   | false=>
    rw[Md L7];symm;exact next H2 s2 fun q=>by rw[hsb] at q;cases q
   | true=>
    rw[Mp rfl];refine⟨P,L,G,A,T,M,h,w,g,LK,cl,LI,th.t,th.r,th.z,th.s,th.ms,rfl,⟨X2.P,iT2,X2.A,X2.n⟩,m64,fun H3 s3=>⟨_,rfl,?_⟩⟩
    cases ha:alwA h w g LK cl LI th.t th.r th.z th.s th.ms with
    | true=>
     rw[Mp rfl];exact yes T M th H3 ((s1.trans s2).trans s3) u hsb ha (iT2.same s3)
    | false=>
     rw[Md L7];exact next H3 (s2.trans s3) fun _ q=>by rw[ha] at q;cases q
 . rintro σ H1 ⟨v4,v5,v6,rfl,s1,not⟩;symm;refine no (fun th u sb a=>?_) H1 s1;obtain⟨T,hT,M,nM,iT⟩:=C.all th u;obtain⟨i,hi,rfl⟩:=List.getElem_of_mem hT;obtain⟨j,hj,e⟩:=II (st:=st) (n:=ts.length) (by omega) i hi;exact not j _ hj (by rw[e,NN];exact LW hi) M th iT sb a
def uF(ns:List Int)(k:Int):Int:=if k < (ns.length:Int) then ns.getD k.toNat 0 else 0
def cy(K:Frag):Sp:=fun vs H Q _=>∃(a:Addr) (ns:List Int) (k:Int),vs=[.ref a,.int k]/\SqL K H a (ns.map V.int)/\ns.length<=63/\0<=k/\k<=1000/\Q (.int (uF ns k)) H
def l9(K:Frag):TS:=
 (tSeq (tIfS (tTest (tOp (cCmp fun i j=>decide (i<j)) (tVar 1) (tCB (kLenS K) (tCons (tVar 0) tNil)))) (tRet (tOp (rIxL K) (tVar 0) (tVar 1))) tNext)
  (tRet (tC (.int 0))))
theorem Am(h:cy K vs H Q E):l9 K (eD9 Q) (start ["_law_script","_law_k"] vs) H:=by
 obtain⟨a,ns,k,rfl,hS,hn,k0,k1,q⟩:=h;show l9 K _ [some (.ref a),some (.int k)] H;unfold l9;rw[aJ,ay];symm;refine⟨a,_,rfl,.inl hS,?_⟩;symm;rw[LV];unfold uF at q;by_cases hk:k < (ns.length:Int)
 . rw[Mp hk] at q;rw[Mp (LY hk)];exact⟨a,_,k,_,rfl,rfl,hS,pK k0 hk,q⟩
 . rw[Md hk] at q;rw[Md (by simpa using hk)];symm;exact q
def CF:List (Int × Int)->(St->Hp->(List V->Hp->Prop)->Prop)
 | []=>tNil
 | p::r=>tCons (tTup (tCons (tC (.int p.1)) (tCons (tC (.int p.2)) tNil))) (CF r)
theorem An{σ:St}:∀(ps:List (Int × Int)) (H:Hp) (Q:List V->Hp->Prop),(∀(as:List Addr) (H':Hp),Same H H'->as.length=ps.length->(∀(j:Nat) (a:Addr) (p:Int × Int),as[j]? =some a->ps[j]? =some p->H' a=some (.tup [.int p.1,.int p.2]))->Q (as.map V.ref) H')->CF ps σ H Q
 | [],H,Q,h=>h [] H (L3 H) rfl fun j a p e _=>by simp at e
 | p::r,H,Q,h=>by
  unfold CF;symm;refine⟨lnR rfl,fun t ht=>?_⟩;obtain⟨H1,z9,s1,et⟩:=aS (.tup [V.int p.1,V.int p.2]) ht;rw[z9];refine An r H1 _ fun as H2 s2 hl ha=>?_;refine h (t::as) H2 (s1.trans s2) (by simp[hl]) fun j a q e1 e2=>?_
  match j,e1,e2 with
  | 0,e1,e2=>
   simp at e1 e2;subst e1 e2;exact s2 _ _ et
  | j+1,e1,e2=>exact ha j a q (by simpa using e1) (by simpa using e2)
theorem lx{a:Int}(a0:0<=a)(a1:a<64):Sub30 a a:=⟨a0,a1,a0,a1,fun _ h=>h⟩
variable{m:List Int}
theorem tN(g0:1<=g)(g6:g<=6)(X:MkP g n m):aW m m:=fun k=>by
 have p64:=gW g0 g6;rcases Oq k m.length with hk | hk
 . have b:=X.mm _ (bv hk);exact lx b.1 (by omega)
 . have e:m.getD k 0=0:=by rw[List.getD,Mt hk];rfl
   rw[e];exact lx (by decide) (by decide)
theorem rG{a b c:List Int}(x:aW a b)(y:aW b c):aW a c:=fun k=>⟨(y k).a0,(y k).a1,(x k).b0,(x k).b1,fun s h=>(x k).st s ((y k).st s h)⟩
theorem ya{z:Int}(g0:1<=g)(g6:g<=6)(X:MkP g n m)(s0:1<=s)(s6:s<=6):aW m (stL m z s):=fun k=>by
 have p64:=gW g0 g6;rcases Oq k m.length with hk | hk
 . have b:=X.mm _ (bv hk);rw[vP hk]
   split
   . have t:=rE (s:=s) b.1 (by omega) s0 s6;refine⟨t.1.1,by omega,b.1,by omega,fun x hx=>?_⟩
     cases st:stB (m.getD k 0) s with
     | false=>
      have e:woI (m.getD k 0) s=m.getD k 0:=by unfold woI;rw[Md (by rw[st];decide)]
      rw[e] at hx;exact hx
     | true=>
      by_cases ex:x=s
      . rw[ex];exact st
      . have bx:=oG (g:=6) (m:=woI (m.getD k 0) s) (by decide) (by decide) t.1.1 (by show _ < (64:Int);omega) ((iG t.1.1 x).mpr hx);rw[t.2.1 x bx.1 bx.2 ex] at hx;exact hx
   . exact lx b.1 (by omega)
 . have e1:(stL m z s).getD k 0=0:=by rw[List.getD,Mt (by rw[xo];exact hk)];rfl
   have e2:m.getD k 0=0:=by rw[List.getD,Mt hk];rfl
   rw[e1,e2];exact lx (by decide) (by decide)
theorem yb{h w g:Int}{LK:List RR}{cl:List Int}{ks:List TK}{n:Nat}(g0:1<=g)(g6:g<=6):∀{LR:List Tho} {m m':List Int},MkP g n m->Wlk h w g LK cl ks m LR m'->aW m m'
 | [],m,m',X,W=>by cases (show m=m' from W);exact tN g0 g6 X
 | th::r,m,m',X,W=>by
  obtain⟨_,_,_,hs,_,_⟩:=W.1;exact rG (ya g0 g6 X hs.1 (by omega)) (yb g0 g6 (X.stL g0 g6 hs.1 (by omega)) W.2)
def Eu(K:Frag)(c:RCl RK)(d:RCl PzK):Sp:=fun vs H Q _=>∃(a:Addr) (ns:List Int),vs=[.ref a]/\SqL K H a (ns.map V.int)/\ns.length<=63/\(∀ k,k≠.Rule->c.ok k=true)/\d.ok .Puzzle=true/\∀ H',Q (.bl true) H'
def xt(K:Frag):Sp:=fun vs H Q _=>∃(a:Addr) (ns:List Int),vs=[.ref a]/\SqL K H a (ns.map V.int)/\ns.length<=63/\∀ H',Q (.bl true) H'
def p5(K:Frag)(c:RCl RK)(d:RCl PzK):TS:=
 (tSeq (tIfS (tTest (tOp (cIn K false) (tC (.int 0)) (tVar 10))) (tRet (tAndV (tOp (cIn K false) (tC (.int 0)) (tVar 15)) (tCB kIsi (tCons (tVar 16) (tCons (tC (.ty "list")) tNil))))) tNext)
  (tRet (tOp (cEq K) (tVar 15) (tVar 10))))
def p7(K:Frag)(c:RCl RK)(d:RCl PzK):TS:=
 (tSeq (tFor (de (tCons (tOp cAdd (tOp cMul (tVar 5) (tVar 4)) (tC (.int 1))) tNil)) (gName 7)
  (tSeq (tAsg (tOp cMod (tOp cMul (tOp cAdd (tCall (cy K) [] E0 (tCons (tVar 0) (tCons (tOp cAdd (tC (.int 9)) (tVar 7)) tNil))) (tOp cMul (tC (.int 109)) (tVar 7))) (tC (.int 48271))) (tC (.int 1000003))) (gName 18))
  (tSeq (tAsg (tC .non) (gName 19))
  (tSeq (tIfS (tTest (tOp (cIn K true) (tC (.int 0)) (tVar 10))) (tAsg (tCall (kQ K c d) [] E0 (tCons (tVar 12) (tCons (tVar 10) (tCons (tVar 17) (tCons (tVar 18) tNil))))) (gName 19)) tNext)
  (tSeq (tIfS (tTest (tOp rIsN (tVar 19) (tC .non))) C0 tNext)
  (tAsg (tOp cSub (tOp cIx (tVar 10) (tOp cIx (tVar 19) (tC (.int 2)))) (tOp cIx (tLst (tCons (tC (.int 1)) (tCons (tC (.int 2)) (tCons (tC (.int 4)) tNil)))) (tOp cSub (tOp cIx (tVar 19) (tC (.int 3))) (tC (.int 1))))) (gSub (tVar 10) (tOp cIx (tVar 19) (tC (.int 2))) cPut)))))))
  (p5 K c d))
def p8(K:Frag)(c:RCl RK)(d:RCl PzK):TS:=
 (tSeq (tAsg (tCall (uC K c d) [] E0 (tCons (tVar 12) (tCons (tCB kList (tCons (tVar 10) tNil)) (tCons (tVar 14) tNil)))) (gTup K 2 (gCons (gName 15) (gCons (gName 16) gNil))))
  (tSeq (tAsg (tCall (fP K) [] E0 (tCons (tVar 14) (tCons (tVar 6) (tCons (tVar 5) (tCons (tVar 4) tNil))))) (gName 17))
  (p7 K c d)))
def p9(K:Frag)(c:RCl RK)(d:RCl PzK):TS:=
 (tSeq (tAsg (tCall (fq K) [] E0 (tCons (tOp cMod (tOp cMul (tCall (cy K) [] E0 (tCons (tVar 0) (tCons (tC (.int 8)) tNil))) (tC (.int 69621))) (tC (.int 1000003))) (tCons (tC (.int 11)) tNil))) (gName 13))
  (tSeq (sComp 14 [none,none] (iList K (tSl kr (tVar 13) fR (tPart (tOp cAdd (tC (.int 1)) (tOp cMod (tOp cDiv (tVar 1) (tC (.int 24))) (tC (.int 5))))))) (gName 1) tTrue (tOp (rIxT K) (tGT K gt_KINDS) (tVar 1)))
  (p8 K c d)))
def rH(K:Frag)(c:RCl RK)(d:RCl PzK):TS:=
 (tSeq (tAsg (tMake (d.A .Puzzle) (bZ K c d) [] E0 (tCons (tTup (tCons (tVar 2) (tCons (tVar 3) (tCons (tVar 4) tNil)))) (tCons (tVar 8) (tCons (tVar 9) tNil)))) (gName 12))
  (p9 K c d))
def rJ(K:Frag)(c:RCl RK)(d:RCl PzK):TS:=
 (tSeq (tAsg (tLst tNil) (gName 9))
  (tSeq (tAsg (tLst tNil) (gName 10))
  (tSeq (tFor (de (tCons (tVar 5) tNil)) (gName 7)
  (tSeq (tAsg (tOp cMod (tOp cMul (tOp cAdd (tCall (cy K) [] E0 (tCons (tVar 0) (tCons (tOp cAdd (tC (.int 3)) (tVar 7)) tNil))) (tOp cMul (tOp cMul (tC (.int 107)) (tVar 7)) (tVar 7))) (tC (.int 30011))) (tC (.int 50021))) (gName 11))
  (tSeq (tDrop (tBM K "list" bm (tVar 9) (tCons (tOp cIx (tLst (tCons (tC (.int 0)) (tCons (tC (.int 0)) (tCons (tOp cAdd (tC (.int 1)) (tOp cMod (tOp cDiv (tVar 11) (tC (.int 3))) (tVar 4))) tNil)))) (tOp cMod (tVar 11) (tC (.int 3)))) tNil)))
  (tDrop (tBM K "list" bm (tVar 10) (tCons (tOp cIx (tLst (tCons (tC (.int 3)) (tCons (tC (.int 7)) (tCons (tC (.int 3)) (tCons (tOp cAdd (tC (.int 1)) (tOp cMod (tOp cDiv (tVar 11) (tC (.int 9))) (tC (.int 3)))) tNil))))) (tOp cAdd (tOp cMul (tOp cMod (tOp cDiv (tVar 11) (tC (.int 3))) (tC (.int 2))) (tC (.int 2))) (tCB mH (tCons (tOp (cEq K) (tVar 4) (tC (.int 3))) tNil)))) tNil))))))
  (rH K c d))))
def rK(K:Frag)(c:RCl RK)(d:RCl PzK):TS:=
 (tSeq (tAsg (tOp cAdd (tC (.int 2)) (tOp cMod (tOp cDiv (tVar 1) (tC (.int 6))) (tC (.int 2)))) (gName 4))
  (tSeq (tAsg (tOp cMul (tVar 2) (tVar 3)) (gName 5))
  (tSeq (tAsg (tOp cAdd (tC (.int 1)) (tOp cMod (tOp cDiv (tVar 1) (tC (.int 12))) (tC (.int 2)))) (gName 6))
  (tSeq (sComp 8 [none,none,some 5,some 0,some 4] (de (tCons (tVar 6) tNil)) (gName 1) tTrue (tCall (kO K) [] E0 (tCons (tOp cMod (tOp cMul (tOp cAdd (tCall (cy K) [] E0 (tCons (tVar 3) (tCons (tOp cAdd (tC (.int 1)) (tVar 1)) tNil))) (tOp cMul (tC (.int 73)) (tVar 1))) (tC (.int 16807))) (tC (.int 1000003))) (tCons (tVar 2) (tCons (tVar 4) tNil)))))
  (rJ K c d)))))
def rL(K:Frag)(c:RCl RK)(d:RCl PzK):TS:=
 (tSeq (tAsg (tOp cIx (tLst (tCons (tTup (tCons (tC (.int 1)) (tCons (tC (.int 2)) tNil))) (tCons (tTup (tCons (tC (.int 2)) (tCons (tC (.int 2)) tNil))) (tCons (tTup (tCons (tC (.int 1)) (tCons (tC (.int 4)) tNil))) (tCons (tTup (tCons (tC (.int 2)) (tCons (tC (.int 2)) tNil))) (tCons (tTup (tCons (tC (.int 5)) (tCons (tC (.int 1)) tNil))) (tCons (tTup (tCons (tC (.int 3)) (tCons (tC (.int 1)) tNil))) tNil))))))) (tOp cMod (tVar 1) (tC (.int 6)))) (gTup K 2 (gCons (gName 2) (gCons (gName 3) gNil))))
  (rK K c d))
def Ao(K:Frag)(c:RCl RK)(d:RCl PzK):TS:=
 (tSeq (tAsg (tOp cMod (tOp cMul (tCall (cy K) [] E0 (tCons (tVar 0) (tCons (tC (.int 0)) tNil))) (tC (.int 48271))) (tC (.int 65537))) (gName 1))
  (rL K c d))
structure I52(c:RCl RK)(d:RCl PzK)(Hb H0 H:Hp)(P L G A F N B:Addr)(h w g:Int)(LK:List RR)(cl now:List Int)(ks:List TK)(ts:List Addr)(cur:List Int):Prop where
 sb:Same Hb H
 fA:Hb A=none
 pz:IsPz H c d P L G h w g LK cl
 eA:H A=some (.lst (cur.map V.int))
 nL:A≠L
 nG:A≠G
 eN:H N=some (.lst (now.map V.int))
 nN:N≠A
 eB:∃ xs,H B=some (.lst xs)
 nB:B≠A
 cv:Cov (U52 ks LK.length (h*w).toNat g) H0 H F ts
 oA:∃ o,H0 A=some o
 nF:A≠F
 tl:ts.length<=700000
 mp:MkP g (h*w).toNat cur
section
variable{K:Frag}{c:RCl RK}{d:RCl PzK}{Hb H0 H H':Hp}{P L G A F N B:Addr}{h w g:Int}{LK:List RR}{cl now LI:List Int}{ks:List TK}{ts:List Addr}{cur:List Int}{LR:List Tho}
theorem I52.same(I:I52 c d Hb H0 H P L G A F N B h w g LK cl now ks ts cur)(s:Same H H'):I52 c d Hb H0 H' P L G A F N B h w g LK cl now ks ts cur:=
 ⟨I.sb.trans s,I.fA,I.pz.same s,s _ _ I.eA,I.nL,I.nG,s _ _ I.eN,I.nN,let ⟨xs,e⟩:=I.eB;⟨xs,s _ _ e⟩,I.nB,I.cv.same s,I.oA,I.nF,I.tl,I.mp⟩
theorem I52.put{new:List Int}(I:I52 c d Hb H0 H P L G A F N B h w g LK cl now ks ts cur)(mk:MkP g (h*w).toNat new):I52 c d Hb H0 (upd H A (.lst (new.map V.int))) P L G A F N B h w g LK cl now ks ts new:=by
 obtain⟨o,oA⟩:=I.oA;have nM:∀{M:Addr},H0 M=none->M≠A:=fun e e2=>by rw[e2,oA] at e;cases e
 refine⟨I.sb.own I.fA,I.fA,I.pz.lst I.eA I.nL I.nG,ag,I.nL,I.nG,by rw[ai I.nN];exact I.eN,I.nN,let ⟨xs,e⟩:=I.eB;⟨xs,by rw[ai I.nB];exact e⟩,I.nB,⟨by rw[ai (Pc I.nF)];exact I.cv.top,fun T hT=>?_,fun th u=>?_⟩,⟨o,oA⟩,I.nF,I.tl,mk⟩
 . obtain⟨M,th,n,u,i⟩:=I.cv.ok T hT;exact⟨M,th,n,u,oH i (nM n.2) I.eA⟩
 . obtain⟨T,hT,M,n,i⟩:=I.cv.all th u;exact⟨T,hT,M,n,oH i (nM n.2) I.eA⟩
structure J52(h w g:Int)(LK:List RR)(cl LI now:List Int)(ks:List TK)(LR:List Tho)(cur:List Int)(i:Nat):Prop where
 XM:MkP g (h*w).toNat LI
 W:Wlk h w g LK cl ks LI LR now
 en:0∈now\/ffF h w g LK cl now ks=[]
 LM:aW LI cur
 NL:0∉now->aW cur now
 bt:(btA cur:Int)+i<=((h*w).toNat:Int)*g
theorem vZ{Q:VK}{v0 v1 v2 v3 v4 v5 v6 v7 v8 v9 v11 v12 v13 v14 v17 v18 v19:Option V}(I:I52 c d Hb H0 H P L G A F N B h w g LK cl now ks ts cur)(e1:0∈cur->0∈now)(e2:0∉cur->now=cur)(q:∀ H',Q (.bl true) H'):
  p5 K c d (eD9 Q) [v0,v1,v2,v3,v4,v5,v6,v7,v8,v9,some (.ref A),v11,v12,v13,v14,some (.ref N),some (.ref B),v17,v18,v19] H:=by
 obtain⟨xs,eB⟩:=I.eB;unfold p5;rw[aJ,ay];symm;rw[nI I.eA];by_cases h0:(0:Int)∈cur
 . rw[LY h0];refine⟨true,rfl,?_⟩;symm;rw[nI I.eN,LY (e1 h0)];refine⟨true,rfl,?_⟩;symm;refine zy eB ?_;exact q _
 . rw[L0 h0];refine⟨false,rfl,?_⟩;symm;refine sH I.eN I.eA ?_;rw[LY (e2 h0)];exact q _
theorem IJ{s:Int}(s0:1<=s)(s3:s<=3):([1,2,4]:List Int).getD (s-1).toNat 0=2^(s-1).toNat:=by
 have e:s=1\/s=2\/s=3:=by omega
 rcases e with rfl | rfl | rfl <;> decide
theorem CG{Q:VK}{a:Addr}{ns:List Int}{v1 v2 v3 v6 v7 v8 v9 v11 v13 v14:Option V}(hS:SqL K Hb a (ns.map V.int))(hn:ns.length<=63)(g3:g<=3)(I:I52 c d Hb H0 H P L G A F N B h w g LK cl now ks ts cur)(J:J52 h w g LK cl LI now ks LR cur 0)(q:∀ H',Q (.bl true) H'):
  p7 K c d (eD9 Q) [some (.ref a),v1,v2,v3,some (.int g),some (.int (((h*w).toNat:Nat):Int)),v6,v7,v8,v9,some (.ref A),v11,some (.ref P),v13,v14,some (.ref N),some (.ref B),some (.ref F),none,none] H:=by
 have m16:=I.pz.R.F.m;have g0:=I.pz.R.F.g0;have g6:=I.pz.R.F.g1;have R:=I.pz.R;obtain⟨n,en⟩:∃ n:Nat,n=(h*w).toNat:=⟨_,rfl⟩;have n16:n<=16:=by omega
 have ng:0<=(n:Int)*g:=NJ (by omega) (by omega);have ng2:(n:Int)*g<=48:=Int.le_trans (Nv (show(n:Int)<=16 by omega) (by omega)) (by omega);unfold p7;rw[← en];symm;refine⟨.inr ⟨by omega,by omega⟩,?_⟩;refine⟨(n:Int)*g+1,rfl,by omega,by omega,?_⟩
 refine cF (fun i σ H'=>∃(v7 v18 v19:Option V) (cur:List Int),σ=[some (.ref a),v1,v2,v3,some (.int g),some (.int (n:Int)),v6,v7,v8,v9,some (.ref A),v11,some (.ref P),v13,v14,some (.ref N),some (.ref B),some (.ref F),v18,v19]/\I52 c d Hb H0 H' P L G A F N B h w g LK cl now ks ts cur/\J52 h w g LK cl LI now ks LR cur i)
  ⟨_,_,_,cur,rfl,I,J⟩ ?_ ?_
 . rintro i σ H1 hi ⟨v7,v18,v19,cur,rfl,I1,J1⟩;rw[NE];symm;refine⟨a,ns,_,rfl,I1.sb.seq hS,hn,by omega,by omega,?_⟩;symm;refine⟨.inl ⟨by decide,by decide⟩,.inr ⟨by decide,by decide⟩,by decide,?_⟩;have b0:=MJ ((uF ns (9+(i:Int))+109*(i:Int))*48271) (show(1000003:Int)≠0 by decide);have b1:=MF ((uF ns (9+(i:Int))+109*(i:Int))*48271) (show(0:Int)<1000003 by decide);generalize (uF ns (9+(i:Int))+109*(i:Int))*48271%1000003=st at*;rw[ay];symm;rw[lc I1.eA];by_cases h0:(0:Int)∈cur
   . rw[LY h0];refine⟨false,rfl,?_⟩;symm;rw[ay];symm;have E:=FM R I1.mp J1.XM J1.W J1.en J1.LM J1.NL (fun h=>absurd h0 h);exact vZ I1 E.1 E.2 q
   . rw[L0 h0];refine⟨true,rfl,?_⟩;symm;refine⟨P,L,G,A,F,h,w,g,st,LK,cl,cur,ks,ts,H0,rfl,⟨I1.pz,I1.eA,I1.mp.len,I1.mp.mm⟩,g3,b0,by omega,I1.cv,I1.tl,fun T M th H2 s2 u sb al iT=>?_,fun no H2 s2=>?_⟩
     . symm;rw[ay];symm;rw[L0 (fun e=>by cases e)];symm;have I2:=I1.same s2;obtain⟨uk,ur,uz,us,um⟩:=id u;rw[← en] at uz;have cl_:=I1.mp.len;rw[← en] at cl_;refine ixT iT.T (v:=V.int th.z) rfl ?_;refine ixI I2.eA uz.1 (by omega) ?_;symm;refine⟨lnR rfl,fun U hU=>?_⟩;obtain⟨H3,z9,s3,eU⟩:∃ z,upd H2 U (.lst [V.int 1,V.int 2,V.int 4])=z/\Same H2 z/\z U=some (.lst (([1,2,4]:List Int).map V.int)):=aS _ hU;rw[z9];have iT3:=iT.same s3;have I3:=I2.same s3;refine ixT iT3.T (v:=V.int th.s) rfl ?_;symm;refine ixI eU (by omega) (by show th.s-1 < (3:Int);omega) ?_;rw[IJ us.1 (by omega)];symm;refine ixT iT3.T (v:=V.int th.z) rfl ?_;refine Ir I3.eA uz.1 (by rw[LV];omega) ?_;have wo:woI (cur.getD th.z.toNat 0) th.s=cur.getD th.z.toNat 0-2^(th.s-1).toNat:=by unfold woI;rw[Mp sb]
       rw[AT,← wo,← BL uz.1];have ok:OkT h w g LK cl ks cur th:=⟨h0,uk,⟨uz.1,by omega⟩,us,sb,al⟩;have bits:=ok.bits I1.mp g0 g6;have bt:=J1.bt;refine⟨_,_,_,stL cur th.z th.s,rfl,I3.put (I1.mp.stL g0 g6 us.1 (by omega)),J1.XM,J1.W,J1.en,rG J1.LM (ya g0 g6 I1.mp us.1 (by omega)),Fz R I1.mp (J1.W.okM g0 g6 J1.XM).1 J1.en J1.NL u al,?_⟩;rw[Int.natCast_add];omega
     . symm;rw[ay];symm;have E:=FM R I1.mp J1.XM J1.W J1.en J1.LM J1.NL (fun _ th u sb al=>no th u sb al);exact vZ (I1.same s2) E.1 E.2 q
 . rintro σ H1 ⟨v7,v18,v19,cur,rfl,I1,J1⟩;have bt:=J1.bt;rw[← en] at bt
   exfalso
   omega
theorem Ev{n:Nat}(hn:n<11):atI (gt_KINDS.map V.str) (n:Int)=some (V.str (txk (allT.getD n .clue))):=by
 refine d5 ?_;rw[vQ,L9,L9,LW (show n<allT.length from hn),List.getD,LW (show n<allT.length from hn)];rfl
theorem Ew{cs:List Nat}{i:Nat}{x:V}(e:(nsV cs)[i]? =some x):i<cs.length/\x=V.int ((cs.getD i 0:Nat):Int):=by
 unfold nsV at e;rw[L9,L9] at e
 cases hi:cs[i]? with
 | none=>rw[hi] at e;cases e
 | some y=>
  rw[hi] at e;refine⟨(L1.mp hi).1,?_⟩;rw[List.getD,hi];exact(Nq e).symm
theorem CH{H:Hp}{Q:VK}{a Kd:Addr}{ns:List Int}{m r:Int}{v1 v2 v3 v7 v8 v9 v11 v13:Option V}(hS:SqL K Hb a (ns.map V.int))(hn:ns.length<=63)(g3:g<=3)(sb:Same Hb H)(fA:Hb A=none)(pz:IsPz H c d P L G h w g LK cl)(eA:H A=some (.lst (LI.map V.int)))(nL:A≠L)(nG:A≠G)(XM:MkP g (h*w).toNat LI)(kd:KdL H Kd ks)(k11:ks.length<=11)(em:m=(((h*w).toNat:Nat):Int))(m9:h*w<=9)(er:r=(LK.length:Int))(q:∀ H',Q (.bl true) H'):
  p8 K c d (eD9 Q) [some (.ref a),v1,v2,v3,some (.int g),some (.int m),some (.int r),v7,v8,v9,some (.ref A),v11,some (.ref P),v13,some (.ref Kd),none,none,none,none,none] H:=by
 subst em er;have g0:=pz.R.F.g0;have g6:=pz.R.F.g1;have rl:=pz.R.n;unfold p8;symm;refine oz eA fun A2 hA2=>?_;obtain⟨H1,z9,s1,eA2⟩:=aS (.lst (LI.map V.int)) hA2;rw[z9];symm;refine⟨P,L,G,A2,Kd,h,w,g,LK,cl,LI,ks,rfl,⟨pz.same s1,eA2,XM.len,XM.mm⟩,.inl (s1 _ _ kd),fun T N B bs Ms now LR H2 s2 hT hN hB hb hM eT eN Bk nNB W en _=>?_⟩;refine DG eT rfl ?_;rw[zA];symm;have s12:=s1.trans s2;refine⟨Kd,ks,(LK.length:Int),(h*w).toNat,g,rfl,s12 _ _ kd,k11,by omega,by omega,by omega,g0,g6,fun F ts H3 s3 fF C tl=>?_⟩;symm;have s13:=s12.trans s3;have eA1:=s1 _ _ eA;refine CG (H0:=H2) (LI:=LI) (LR:=LR) hS hn g3 ⟨sb.trans s13,fA,pz.same s13,s13 _ _ eA,nL,nG,s3 _ _ eN,(fun e=>by rw[e,eA1] at hN;cases hN),⟨_,s3 _ _ Bk.top⟩,(fun e=>by rw[e,eA1] at hB;cases hB),C,⟨_,s12 _ _ eA⟩,(fun e=>by rw[← e,s12 _ _ eA] at fF;cases fF),tl,XM⟩ ⟨XM,W,en,tN g0 g6 XM,fun _=>yb g0 g6 XM W,?_⟩ q;have:=HV g0 g6 XM;omega
theorem CI{H:Hp}{Q:VK}{a:Addr}{ns:List Int}{y m r:Int}{v2 v3 v7 v8 v9 v11:Option V}(hS:SqL K Hb a (ns.map V.int))(hn:ns.length<=63)(g3:g<=3)(sb:Same Hb H)(fA:Hb A=none)(pz:IsPz H c d P L G h w g LK cl)(eA:H A=some (.lst (LI.map V.int)))(nL:A≠L)(nG:A≠G)(XM:MkP g (h*w).toNat LI)(em:m=(((h*w).toNat:Nat):Int))(m9:h*w<=9)(er:r=(LK.length:Int))(q:∀ H',Q (.bl true) H'):
  p9 K c d (eD9 Q) [some (.ref a),some (.int y),v2,v3,some (.int g),some (.int m),some (.int r),v7,v8,v9,some (.ref A),v11,some (.ref P),none,none,none,none,none,none,none] H:=by
 unfold p9;symm;refine⟨a,ns,8,rfl,sb.seq hS,hn,by decide,by decide,?_⟩;symm;refine⟨.inr ⟨by decide,by decide⟩,by decide,?_⟩;refine⟨_,11,rfl,by decide,by decide,fun O H3 cs s3 hO eO nd lt len=>?_⟩;symm;have b0:=MJ (y/24) (show(5:Int)≠0 by decide);have b1:=MF (y/24) (show(0:Int)<5 by decide);refine⟨⟨by decide,by decide⟩,by decide,?_⟩;generalize y/24%5=x at*;refine sJ eO fun O2 hO2=>?_;rw[ul _ (by omega),uE];obtain⟨H4,z9,s4,e4⟩:=aS (.lst (nsV (cs.take (1+x).toNat))) hO2;rw[z9];have lt2:∀ z∈cs.take (1+x).toNat,z<11:=fun z hz=>by have:=lt z (List.mem_of_mem_take hz);omega
 have tl:(cs.take (1+x).toNat).length<=11:=by rw[Nb];omega
 generalize cs.take (1+x).toNat=ds at*;have nl:(nsV ds).length=ds.length:=by unfold nsV;rw[LV,LV]
 refine⟨O2,rfl,⟨_,Ml e4⟩,?_⟩;refine bI (fun _=>true) (fun i=>V.str (txk (allT.getD (ds.getD i 0) .clue))) (by omega) (Ml e4) ?_ ?_ ?_
 . intro i z H5 R5 hz s5 k5;exact k5 _ (L3 _)
 . intro i z H5 Q5 hz hb5 s5 k5;obtain⟨hi,rfl⟩:=Ew hz;show tOp _ _ _ [none,some (.int _)] H5 Q5;have hd:ds.getD i 0<11:=lt2 _ (by rw[List.getD,LW hi];exact ME hi);rw[gm,Hz];intro u hu;symm;exact HA hu (Ev hd) (k5 _ (L3 _))
 . intro Kd H5 hKd s5 eK;rw[a9] at eK
   have ek:KdL H5 Kd ((List.range (nsV ds).length).map fun i=>allT.getD (ds.getD i 0) .clue):=by
    unfold KdL;rw[MH,MH];exact eK
   have s25:=s3.trans (s4.trans s5);symm;exact CH hS hn g3 (sb.trans s25) fA (pz.same s25) (s25 _ _ eA) nL nG XM ek (by rw[LV,MR];omega) em m9 er q
theorem Ex{H:Hp}{Q:VK}{a R C:Addr}{ns:List Int}{y m r:Int}{v7 v11:Option V}(hS:SqL K Hb a (ns.map V.int))(hn:ns.length<=63)(g3:g<=3)(Ro:bB c h w g LK)(ok:d.ok .Puzzle=true)(sb:Same Hb H)(fA:Hb A=none)(eR:H R=some (.lst ((LK.map RR.txt).map V.str)))(eC:H C=some (.lst (cl.map V.int)))(co:CluesOk h w g cl)(eA:H A=some (.lst (LI.map V.int)))(XM:MkP g (h*w).toNat LI)(em:m=(((h*w).toNat:Nat):Int))(m9:h*w<=9)(er:r=(LK.length:Int))(q:∀ H',Q (.bl true) H'):
  rH K c d (eD9 Q) [some (.ref a),some (.int y),some (.int h),some (.int w),some (.int g),some (.int m),some (.int r),v7,some (.ref R),some (.ref C),some (.ref A),v11,none,none,none,none,none,none,none,none] H:=by
 unfold rH;symm;refine⟨lnR rfl,fun p hp=>?_⟩;have s1:Same H (upd H p (.tup [V.int h,V.int w,V.int g])):=(L3 H).laid hp;have ep:IsFl (upd H p (.tup [V.int h,V.int w,V.int g])) p h w g:=ag;generalize upd H p (.tup [V.int h,V.int w,V.int g])=H1 at*;have eA1:=s1 _ _ eA;refine Hn ok ep (s1 _ _ eR) (s1 _ _ eC) Ro co fun P L G H3 s3 hP hL hG pz=>?_;symm;have s13:=s1.trans s3;exact CI hS hn g3 (sb.trans s13) fA pz (s13 _ _ eA) (fun e=>by rw[← e,eA1] at hL;cases hL) (fun e=>by rw[← e,eA1] at hG;cases hG) XM em m9 er q
end
variable{a:Addr}{ns:List Int}
theorem Ey{R:Addr}{y h w r:Int}(hS:SqL K H a (ns.map V.int))(hn:ns.length<=63)(m1:1<=h*w)(m9:h*w<=9)(g2:2<=g)(g3:g<=3)(Ro:bB c h w g LK)(ok:d.ok .Puzzle=true)(eR:H R=some (.lst ((LK.map RR.txt).map V.str)))(er:r=(LK.length:Int))(q:∀ H',Q (.bl true) H'):
  rJ K c d (eD9 Q) [some (.ref a),some (.int y),some (.int h),some (.int w),some (.int g),some (.int (h*w)),some (.int r),none,some (.ref R),none,none,none,none,none,none,none,none,none,none,none] H:=by
 unfold rJ;symm;refine⟨aN (by decide),fun C hC=>?_⟩;obtain⟨H1,z9,s1,eC⟩:∃ z,upd H C (.lst [])=z/\Same H z/\z C=some (.lst (([]:List Int).map V.int)):=aS _ hC;rw[z9];refine⟨aN (by decide),fun A hA=>?_⟩;have nCA:C≠A:=fun e=>by rw[← e,eC] at hA;cases hA
 have fA:H A=none:=s1.free hA;obtain⟨H2,z9,s2,eA⟩:∃ z,upd H1 A (.lst [])=z/\Same H1 z/\z A=some (.lst (([]:List Int).map V.int)):=aS _ hA;rw[z9];have s12:=s1.trans s2;refine⟨h*w,rfl,by omega,by omega,?_⟩;refine cF (fun i σ H'=>∃(v7 v11:Option V) (cl ms:List Int),σ=[some (.ref a),some (.int y),some (.int h),some (.int w),some (.int g),some (.int (h*w)),some (.int r),v7,some (.ref R),some (.ref C),some (.ref A),v11,none,none,none,none,none,none,none,none]/\Same H H'/\H' C=some (.lst (cl.map V.int))/\cl.length=i/\(∀ x∈cl,0<=x/\x<=g)/\H' A=some (.lst (ms.map V.int))/\ms.length=i/\(∀ x∈ms,0<=x/\x<2^g.toNat)) ⟨_,_,[],[],rfl,s12,s2 _ _ eC,rfl,fun x hx=>(by cases hx),eA,rfl,fun x hx=>(by cases hx)⟩ ?_ ?_
 . rintro i σ H3 hi ⟨v7,v11,cl,ms,rfl,s3,e3,cn,cx,e4,mn,mx⟩;have hil:i < (h*w).toNat:=hi;rw[NE];symm;refine⟨a,ns,_,rfl,s3.seq hS,hn,by omega,by omega,?_⟩;symm;refine⟨.inl ⟨by decide,by decide⟩,.inl ⟨by omega,by omega⟩,.inr ⟨by decide,by decide⟩,by decide,?_⟩;generalize (uF ns (3+(i:Int))+107*(i:Int)*(i:Int))*30011%50021=z at*;refine⟨bb e3,⟨by decide,by decide⟩,by omega,lnR rfl,fun U hU=>?_⟩;have b0:=MJ (z/3) (show g≠0 by omega);have b1:=MF (z/3) (show 0<g by omega);generalize hx1:z/3%g=x at*;obtain⟨H4,z9,s4,eU⟩:∃ z,upd H3 U (.lst [V.int 0,V.int 0,V.int (1+x)])=z/\Same H3 z/\z U=some (.lst (([0,0,1+x]:List Int).map V.int)):=aS _ hU;rw[z9];have c0:=MJ z (show(3:Int)≠0 by decide);have c1:=MF z (show(0:Int)<3 by decide);refine⟨by decide,?_⟩;refine ixI eU c0 (by show _ < (3:Int);omega) ?_
   have vb:0<=([0,0,1+x]:List Int).getD (z%3).toNat 0/\([0,0,1+x]:List Int).getD (z%3).toNat 0<=g:=by
    have e:(z%3).toNat=0\/(z%3).toNat=1\/(z%3).toNat=2:=by omega
    rcases e with e | e | e <;> rw[e]
    . exact⟨by show(0:Int)<=0;decide,by show(0:Int)<=g;omega⟩
    . exact⟨by show(0:Int)<=0;decide,by show(0:Int)<=g;omega⟩
    . exact⟨by show(0:Int)<=1+x;omega,by show 1+x<=g;omega⟩
   generalize ([0,0,1+x]:List Int).getD (z%3).toNat 0=v at*;symm;rw[cP (s4 _ _ e3)];refine⟨by rw[LV];exact aD (by omega),?_⟩;have e5:(upd H4 C (.lst (cl.map V.int++[V.int v]))) C=some (.lst ((cl++[v]).map V.int)):=by rw[ag];simp
   have e6:(upd H4 C (.lst (cl.map V.int++[V.int v]))) A=some (.lst (ms.map V.int)):=by rw[ai (Pc nCA)];exact s4 _ _ e4
   have s5:Same H (upd H4 C (.lst (cl.map V.int++[V.int v]))):=(s3.trans s4).own hC;generalize upd H4 C (.lst (cl.map V.int++[V.int v]))=H5 at*;have d0:=MJ (z/9) (show(3:Int)≠0 by decide);have d1:=MF (z/9) (show(0:Int)<3 by decide);have f0:=MJ (z/3) (show(2:Int)≠0 by decide);have f1:=MF (z/3) (show(0:Int)<2 by decide);symm;refine⟨bb e6,⟨by decide,by decide⟩,by decide,lnR rfl,fun U2 hU2=>?_⟩;generalize z/9%3=x9 at*;obtain⟨H6,z9,s6,eU2⟩:∃ z,upd H5 U2 (.lst [V.int 3,V.int 7,V.int 3,V.int (1+x9)])=z/\Same H5 z/\z U2=some (.lst (([3,7,3,1+x9]:List Int).map V.int)):=aS _ hU2;rw[z9];refine⟨⟨by decide,by decide⟩,by decide,.inr ⟨by decide,by decide⟩,?_⟩;generalize z/3%2=x3 at*;have ib:0<=x3*2+(if decide (g=3)=true then 1 else 0)/\x3*2+(if decide (g=3)=true then 1 else 0)<4:=by split <;> omega
   refine ixI eU2 ib.1 (by show _ < (4:Int);exact ib.2) ?_
   have wb:0<=([3,7,3,1+x9]:List Int).getD (x3*2+(if decide (g=3)=true then 1 else 0)).toNat 0/\([3,7,3,1+x9]:List Int).getD (x3*2+(if decide (g=3)=true then 1 else 0)).toNat 0<2^g.toNat:=by
    have e:(x3=0\/x3=1)/\(g=2\/g=3):=by omega
    rcases e with ⟨rfl | rfl,rfl | rfl⟩
    . show(0:Int)<=3/\(3:Int)<4;decide
    . show(0:Int)<=7/\(7:Int)<8;decide
    . show(0:Int)<=3/\(3:Int)<4;decide
    . show 0<=1+x9/\1+x9<8;omega
   generalize ([3,7,3,1+x9]:List Int).getD (x3*2+(if decide (g=3)=true then 1 else 0)).toNat 0=u at*;symm;rw[cP (s6 _ _ e6)];refine⟨by rw[LV];exact aD (by omega),_,_,cl++[v],ms++[u],rfl,(s5.trans s6).own fA,by rw[ai nCA];exact s6 _ _ e5,by simp[cn],fun z hz=>?_,by rw[ag];simp,by simp[mn],fun z hz=>?_⟩
   . rcases Mj.mp hz with hz | hz
     . exact cx z hz
     . rw[Ma.mp hz];exact vb
   . rcases Mj.mp hz with hz | hz
     . exact mx z hz
     . rw[Ma.mp hz];exact wb
 . rintro σ H3 ⟨v7,v11,cl,ms,rfl,s3,e3,cn,cx,e4,mn,mx⟩;exact Ex hS hn g3 Ro ok s3 fA (s3 _ _ eR) e3 ⟨cn,cx⟩ e4 ⟨mn,mx⟩ (by omega) m9 er q
theorem Ez{y h w:Int}(hS:SqL K H a (ns.map V.int))(hn:ns.length<=63)(h0:1<=h)(h6:h<=6)(w0:1<=w)(w6:w<=6)(m1:1<=h*w)(m9:h*w<=9)(hk:∀ k,k≠.Rule->c.ok k=true)(ok:d.ok .Puzzle=true)(k:∀ H',Q (.bl true) H'):
  rK K c d (eD9 Q) [some (.ref a),some (.int y),some (.int h),some (.int w),none,none,none,none,none,none,none,none,none,none,none,none,none,none,none,none] H:=by
 unfold rK;symm;refine⟨⟨by decide,by decide⟩,by decide,qR h0 h6,⟨by decide,by decide⟩,by decide,?_⟩;have g0:=MJ (y/6) (show(2:Int)≠0 by decide);have g1:=MF (y/6) (show(0:Int)<2 by decide);have g2:2<=2+y/6%2:=by omega
 have g3:2+y/6%2<=3:=by omega
 generalize 2+y/6%2=g at*;have n0:=MJ (y/12) (show(2:Int)≠0 by decide);have n1:=MF (y/12) (show(0:Int)<2 by decide);generalize y/12%2=n at*;have F:FlOk h w g:=⟨h0,h6,w0,w6,by omega,by omega,by omega⟩;refine⟨1+n,rfl,by omega,by omega,?_⟩;refine DZ (h:=h) (w:=w) (g:=g) F (by omega) hk ?_ ?_
 . intro i H3 Q3 hi s3 k3;have hi4:i<2:=by omega
   show tCall _ _ _ _ [none,some (.int (0+(i:Int))),some (.int (h*w)),some (.ref a),some (.int g)] H3 Q3;rw[NE];symm;refine⟨a,ns,_,rfl,s3.seq hS,hn,by omega,by omega,?_⟩;symm;refine⟨.inl ⟨by decide,by decide⟩,.inr ⟨by decide,by decide⟩,by decide,?_⟩;exact⟨_,h,w,g,rfl,MJ _ (by decide),F,m1,k3⟩
 . intro R LK H3 hR s3 eR LS Ro;exact Ey (s3.seq hS) hn m1 m9 g2 g3 Ro ok eR (by omega) k
def fl52:List (Int × Int):=[(1,2),(2,2),(1,4),(2,2),(5,1),(3,1)]
theorem GI:∀ p∈fl52,1<=p.1/\p.1<=6/\1<=p.2/\p.2<=6/\1<=p.1*p.2/\p.1*p.2<=9:=by decide
theorem EA{n:Int}(hS:SqL K H a (ns.map V.int))(hn:ns.length<=63)(hk:∀ k,k≠.Rule->c.ok k=true)(ok:d.ok .Puzzle=true)(k:∀ H',Q (.bl true) H'):
  rL K c d (eD9 Q) [some (.ref a),some (.int n),none,none,none,none,none,none,none,none,none,none,none,none,none,none,none,none,none,none] H:=by
 unfold rL;rw[aJ,bW,gm,fh];refine An fl52 H _ fun as H1 s1 hl ha=>?_;have hl6:as.length=6:=hl;refine⟨by rw[LV];exact aN (by omega),fun U hU=>?_⟩;obtain⟨H2,z9,s2,eU⟩:=aS (.lst (as.map V.ref)) hU;rw[z9];symm;refine⟨by decide,?_⟩;have j0:=MJ n (show(6:Int)≠0 by decide);have j1:=MF n (show(0:Int)<6 by decide);have ej:n%6=(((n%6).toNat:Nat):Int):=by omega
 have hj:(n%6).toNat<fl52.length:=by show _<6;omega
 rw[ej];generalize (n%6).toNat=j at*;have ea:as[j]? =some (as[j]'(by omega)):=LW (by omega);have ep:fl52[j]? =some fl52[j]:=LW hj;have et:=ha j _ _ ea ep;have ok2:=GI _ (ME hj);generalize fl52[j]=pr at*;refine ixL eU (v:=V.ref (as[j]'(by omega))) (d5 (by rw[L9,ea];rfl)) ?_;refine DG (s2 _ _ et) rfl ?_;rw[zA];symm;exact Ez ((s1.trans s2).seq hS) hn ok2.1 ok2.2.1 ok2.2.2.1 ok2.2.2.2.1 ok2.2.2.2.2.1 ok2.2.2.2.2.2 hk ok k
theorem HW(h:Eu K c d vs H Q E):Ao K c d (eD9 Q) (start ["_law_script","_law_cell","_law_high","_law_wide","_law_signs","_law_many","_law_rules","_law_k","_law_rows","_law_clues","_law_left","_law_more","_law_puzzle","_law_order_here","_law_kinds","_law_masks","_law_book","_law_thoughts_here","_law_start","_law_thought"] vs) H:=by
 obtain⟨a,ns,rfl,hS,hn,hk,ok,k⟩:=h;show Ao K c d _ [some (.ref a),none,none,none,none,none,none,none,none,none,none,none,none,none,none,none,none,none,none,none] H;unfold Ao;symm;refine⟨a,ns,0,rfl,hS,hn,by decide,by decide,?_⟩;symm;refine⟨.inr ⟨by decide,by decide⟩,by decide,?_⟩;generalize uF ns 0*48271%65537=n at*;exact EA hS hn hk ok k
section
variable{X:Cx}{e:Expr}{es rs:List Expr}{te:TE}{t:TA}
theorem j2{k}{p:Pos}(ha:PE X (.Tuple rs k p) te)(hr:PA X es t):PA X (.Tuple rs k p::es) (tCons te t):=aa ha hr
theorem b5{c:Const}{k}{p:Pos}(ha:PE X (.Constant c k p) te)(hr:PA X es t):PA X (.Constant c k p::es) (tCons te t):=aa ha hr
end
structure Z5 where
 P:Program
 w:World
 K:Frag
 mg:Str->Option Value
 base:Heap
structure Bt3(Z:Z5):Prop extends Bt2 Z.mg where
 ns:∀{x:Str} {v:Value},nsIn Z.K mainGlobals x=some (some v)->Z.mg x=some v
def Nn(K:Frag)(b:Str):Prop:=nsIn K mainGlobals b=some none
def Zn(K:Frag):Prop:=Nn K "len"/\Nn K "abs"/\Nn K "min"/\Nn K "max"/\Nn K "sorted"/\Nn K "any"/\Nn K "isinstance"/\Nn K "list"/\Nn K "int"/\Nn K "bool"/\Nn K "str"/\Nn K "tuple"/\Nn K "reversed"/\Nn K "set"/\Nn K "range"/\Nn K "zip"/\Nn K "all"/\Nn K "sum"/\Nn K "enumerate"
theorem HX{Z:Z5}{h:Heap}(X:Z.K.In h)(G:h.Ns mainGlobals Z.mg)(z:Zn Z.K):Bt3 Z:=by
 obtain⟨a,b,c,d,e,f,g,i,j,k,l,m,n,o,p,q,r,s,t⟩:=z;have N:∀{b:Str},Nn Z.K b->Z.mg b=none:=fun h=>PySem.W.mg_none_of X G h;exact⟨⟨⟨N a,N b,N c,N d,N e,N f,N g,N i,N j,N k,N l,N m,N n,N o,N p,N q⟩,N r,N s,N t⟩,fun h=>PySem.W.mg_of X G h⟩
structure De(K:Frag)(x:Str)(st:Stmt):Prop where
 ex:∃(f:Addr) (fd:FuncData),nsIn K mainGlobals x=some (some (.ref f))/\Fun K x x st f fd
structure Me(K:Frag)(x qual:Str)(st:Stmt)(f:Addr):Prop where
 ex:∃ fd:FuncData,Fun K x qual st f fd/\isFn K (.ref f)=true
structure ClsP(K:Frag)(x:Str)(A f:Addr):Prop where
 q:nsIn K mainGlobals x=some (some (.ref A))
 m1:PySem.W.makesIn K A=true
 m2:findIn K (.ref A) "__init__"=some (some (.ref f))
 m4:keepIn K (.ref A)=true
 cl:Cls K A
def mkC(x1 x2 x3 x4 x5 x6 x7 x8:Addr):RCl RK:=⟨fun k=>match k with | .Rule=>x1 | .Unlike=>x1 | .Sum=>x2 | .Rising=>x3 | .Seen=>x4 | .Count=>x5 | .Joined=>x6 | .NoSquare=>x7 | .Ring=>x8,fun k=>match k with | .Rule=>false | _=>true⟩
def mk1(c:RCl RK)(k:RK):RCl RK:=⟨c.A,match k with | .Joined=>(fun i=>match i with | .Joined=>true | _=>false) | .Ring=>(fun i=>match i with | .Ring=>true | _=>false) | _=>fun _=>false⟩
def mkD(y:Addr):RCl PzK:=⟨fun _=>y,fun _=>true⟩
theorem oJ{c:RCl RK}{k i:RK}(h:(mk1 c k).ok i=true):i=k:=by cases k <;> cases i <;> first | rfl | cases h
def At8(K:Frag)(m:Str)(v:Option Value)(x1 x2 x3 x4 x5 x6 x7 x8:Addr):Prop:=findIn K (.ref x1) m=some v/\findIn K (.ref x2) m=some v/\findIn K (.ref x3) m=some v/\findIn K (.ref x4) m=some v/\findIn K (.ref x5) m=some v/\findIn K (.ref x6) m=some v/\findIn K (.ref x7) m=some v/\findIn K (.ref x8) m=some v
def C8(K:Frag)(x1 x2 x3 x4 x5 x6 x7 x8:Addr):Prop:=Cls K x1/\Cls K x2/\Cls K x3/\Cls K x4/\Cls K x5/\Cls K x6/\Cls K x7/\Cls K x8
section
variable{Z:Z5}{K:Frag}{x1 x2 x3 x4 x5 x6 x7 x8 f:Addr}{m:Str}{v:Option Value}
theorem at8(h:At8 K m v x1 x2 x3 x4 x5 x6 x7 x8)(k:RK):findIn K (.ref ((mkC x1 x2 x3 x4 x5 x6 x7 x8).A k)) m=some v:=by
 obtain⟨a,b,c,d,e,f,g,i⟩:=h;cases k <;> assumption
theorem c8(h:C8 K x1 x2 x3 x4 x5 x6 x7 x8)(k:RK):Cls K ((mkC x1 x2 x3 x4 x5 x6 x7 x8).A k):=by
 obtain⟨a,b,c,d,e,f,g,i⟩:=h;cases k <;> assumption
theorem fk8(C:C8 K x1 x2 x3 x4 x5 x6 x7 x8)(h:At8 K m none x1 x2 x3 x4 x5 x6 x7 x8):FldK K (mkC x1 x2 x3 x4 x5 x6 x7 x8) m:=⟨fun k _=>⟨c8 C k,at8 h k⟩⟩
theorem fk1{c:RCl RK}{k:RK}(hk:c.ok k=true)(F:FldK K c m):FldK K (mk1 c k) m:=⟨fun i hi=>by cases oJ hi;exact F.ex k hk⟩
variable{N ps:List Str}{k k':Nat}{sp sp':Sp}{t:TS}{x qual:Str}{st:Stmt}
abbrev Hb(Z:Z5)(N:List Str)(qual:Str)(st:Stmt)(f:Addr)(k:Nat)(t:TS):Prop:=∀{LL:Value} {A:Around} {outer:List Env} {s:Shared} {H:Hp} {E:XK},Room k (A.deeper (envOfC qual (aX st) s.heap.objs.size f LL))->(A.deeper (envOfC qual (aX st) s.heap.objs.size f LL)).units+64<cLine->N.Nodup->PSs (cxOf CX0 Z.P Z.w Z.K Z.mg Z.base N qual (aX st) f LL A outer s H E).nox (b3 st) t
abbrev Rk(N:List Str)(sp:Sp)(t:TS):Prop:=∀{vs H Q E},sp vs H Q E->t (eD9 Q) (start N vs) H
abbrev Ln(ps:List Str)(sp:Sp):Prop:=∀{vs H Q E},sp vs H Q E->vs.length=ps.length
abbrev Bd(x qual:Str)(st:Stmt)(ps:List Str):Prop:=∀(kV doc pm:Value) (an:Option Addr) (LL ct:Value) (us:List Value),us.length=ps.length->bindArgs (fnOf x qual (cD st) (b3 st) (aX st) .none kV doc pm an LL ct) ⟨us,[]⟩=pure (ps.zip us)
theorem okf{f:Addr}{fd:FuncData}(F:Fun Z.K x qual st f fd)(S:lz N ps (aX st))(rk:Rk N sp t)(hb:Hb Z N qual st f k t)(len:Ln ps sp):FnOk Z.P Z.w Z.K Z.mg Z.base CX0 (k+1) f fd ps sp:=F.ok S (fun _ _ _ _ h=>len h) fun LL A outer s H vs Q E hr h=>⟨t,hb hr hr.units S.nd,rk h⟩
local macro_rules | `(tactic| walk_at "l")=>`(tactic| (intro vs H Q E h; (repeat obtain ⟨_,h⟩:=h); subst_vars; rfl))
theorem xu{α:Type}{us:List α}{n:Nat}(e:us.length=n+1):∃ u t,t.length=n/\us=u::t:=by
 cases us with
 | nil=>cases e
 | cons u t=>exact⟨u,t,Nat.succ.inj e,rfl⟩
theorem bd1{a0:Str}(h:∀ kV doc pm an LL ct u0,bindArgs (fnOf x qual (cD st) (b3 st) (aX st) .none kV doc pm an LL ct) ⟨[u0],[]⟩=pure ([a0].zip [u0]):=by intros;rfl):Bd x qual st [a0]:=by
 intro _ _ _ _ _ _ _ e;(iterate 1 (obtain⟨_,_,f,rfl⟩:=xu e;clear e;have e:=f;clear f));cases M9 e;exact h ..
theorem bd2{a0 a1:Str}(h:∀ kV doc pm an LL ct u0 u1,bindArgs (fnOf x qual (cD st) (b3 st) (aX st) .none kV doc pm an LL ct) ⟨[u0,u1],[]⟩=pure ([a0,a1].zip [u0,u1]):=by intros;rfl):Bd x qual st [a0,a1]:=by
 intro _ _ _ _ _ _ _ e;(iterate 2 (obtain⟨_,_,f,rfl⟩:=xu e;clear e;have e:=f;clear f));cases M9 e;exact h ..
theorem bd3{a0 a1 a2:Str}(h:∀ kV doc pm an LL ct u0 u1 u2,bindArgs (fnOf x qual (cD st) (b3 st) (aX st) .none kV doc pm an LL ct) ⟨[u0,u1,u2],[]⟩=pure ([a0,a1,a2].zip [u0,u1,u2]):=by intros;rfl):Bd x qual st [a0,a1,a2]:=by
 intro _ _ _ _ _ _ _ e;(iterate 3 (obtain⟨_,_,f,rfl⟩:=xu e;clear e;have e:=f;clear f));cases M9 e;exact h ..
theorem bd4{a0 a1 a2 a3:Str}(h:∀ kV doc pm an LL ct u0 u1 u2 u3,bindArgs (fnOf x qual (cD st) (b3 st) (aX st) .none kV doc pm an LL ct) ⟨[u0,u1,u2,u3],[]⟩=pure ([a0,a1,a2,a3].zip [u0,u1,u2,u3]):=by intros;rfl):Bd x qual st [a0,a1,a2,a3]:=by
 intro _ _ _ _ _ _ _ e;(iterate 4 (obtain⟨_,_,f,rfl⟩:=xu e;clear e;have e:=f;clear f));cases M9 e;exact h ..
theorem bd5{a0 a1 a2 a3 a4:Str}(h:∀ kV doc pm an LL ct u0 u1 u2 u3 u4,bindArgs (fnOf x qual (cD st) (b3 st) (aX st) .none kV doc pm an LL ct) ⟨[u0,u1,u2,u3,u4],[]⟩=pure ([a0,a1,a2,a3,a4].zip [u0,u1,u2,u3,u4]):=by intros;rfl):Bd x qual st [a0,a1,a2,a3,a4]:=by
 intro _ _ _ _ _ _ _ e;(iterate 5 (obtain⟨_,_,f,rfl⟩:=xu e;clear e;have e:=f;clear f));cases M9 e;exact h ..
theorem bd6{a0 a1 a2 a3 a4 a5:Str}(h:∀ kV doc pm an LL ct u0 u1 u2 u3 u4 u5,bindArgs (fnOf x qual (cD st) (b3 st) (aX st) .none kV doc pm an LL ct) ⟨[u0,u1,u2,u3,u4,u5],[]⟩=pure ([a0,a1,a2,a3,a4,a5].zip [u0,u1,u2,u3,u4,u5]):=by intros;rfl):Bd x qual st [a0,a1,a2,a3,a4,a5]:=by
 intro _ _ _ _ _ _ _ e;(iterate 6 (obtain⟨_,_,f,rfl⟩:=xu e;clear e;have e:=f;clear f));cases M9 e;exact h ..
local macro_rules | `(tactic| ac_rfl)=>`(tactic| exact ⟨rfl,rfl,rfl,by decide+kernel,rfl,by decide+kernel,by decide+kernel⟩)
theorem okc(B:Bt3 Z)(D:De Z.K x st)(rk:Rk N sp t)(b:Bd x x st ps)(hb:∀{f},Hb Z N x st f k t)(S:lz N ps (aX st):=by ac_rfl)(len:Ln ps sp:=by walk_at "l"):Cal Z.P Z.w Z.K Z.mg Z.base (k+1) x ps sp:=
 let ⟨f,fd,a,F⟩:=D.ex
 ⟨f,fd,okf F S rk hb len,B.ns a,F.kp,F.binds b⟩
structure Mo(Z:Z5)(k:Nat)(f:Addr)(ps:List Str)(sp:Sp):Prop where
 ex:∃ fd:FuncData,FnOk Z.P Z.w Z.K Z.mg Z.base CX0 k f fd ps sp/\Binds Z.K fd ps []/\isFn Z.K (.ref f)=true/\keepIn Z.K (.ref f)=true
theorem okm(D:Me Z.K x qual st f)(rk:Rk N sp t)(b:Bd x qual st ps)(hb:Hb Z N qual st f k t)(S:lz N ps (aX st):=by ac_rfl)(len:Ln ps sp:=by walk_at "l"):Mo Z (k+1) f ps sp:=
 let ⟨fd,F,n⟩:=D.ex
 ⟨fd,okf F S rk hb len,F.binds b,n,F.kp⟩
theorem Mo.at{C:Addr}(T:Mo Z k f ps sp)(cl:Cls Z.K C)(a:findIn Z.K (.ref C) m=some (some (.ref f)))(imp:∀ vs H Q E,sp' vs H Q E->sp vs H Q E)(hk:k<=k':=by decide):∃(f:Addr) (fd:FuncData),Cls Z.K C/\Meth Z.K C m f/\FnOk Z.P Z.w Z.K Z.mg Z.base CX0 k' f fd ps sp'/\Binds Z.K fd ps []:=
 let ⟨fd,F,b,n,kp⟩:=T.ex
 ⟨f,fd,cl,⟨a,n,kp⟩,(F.mono hk).imp imp,b⟩
theorem Mo.mke{C:Addr}(T:Mo Z k f ps sp)(B:Bt3 Z)(c:ClsP Z.K x C f):KCal Z.P Z.w Z.K Z.mg Z.base k x C ps sp:=
 let ⟨fd,F,b,n,_⟩:=T.ex
 ⟨f,fd,⟨c.m1,c.m2,n,c.m4⟩,F,B.ns c.q,b⟩
theorem De.of{K:Frag}{f:Addr}{fd:FuncData}(a:nsIn K mainGlobals x=some (some (.ref f)))(F:Fun K x x st f fd):De K x st:=⟨f,fd,a,F⟩
theorem Me.of{K:Frag}{f:Addr}{fd:FuncData}(F:Fun K x qual st f fd)(n:isFn K (.ref f)=true):Me K x qual st f:=⟨fd,F,n⟩
structure GT0(K:Frag)(x:Str)(ws:List Str):Prop where
 ex:∃(p:Addr) (o:Obj) (LO:Array Value) (n:Nat),nsIn K mainGlobals x=some (some (.ref p))/\K.lookup p=some o/\o.cls=.type "tuple"/\o.data=.seq LO n/\LO.size<=sizeLine/\Vals (ws.map V.str) LO.toList
theorem GT0.mk'{K:Frag}{ws:List Str}{p:Addr}{o:Obj}{LO:Array Value}{n:Nat}(a:nsIn K mainGlobals x=some (some (.ref p)))(b:K.lookup p=some o)(c:o.cls=.type "tuple")(d:o.data=.seq LO n)(e:LO.size<=sizeLine)(v:Vals (ws.map V.str) LO.toList):GT0 K x ws:=⟨p,o,LO,n,a,b,c,d,e,v⟩
theorem GT0.of{ws:List Str}(g:GT0 Z.K x ws)(B:Bt3 Z):GTup Z.K Z.mg x ws:=let ⟨p,o,i,n,a,r⟩:=g.ex;⟨p,o,i,n,B.ns a,r⟩
structure GD0(w:World)(K:Frag)(x:Str)(D:List (Str × List Str)):Prop where
 ex:∃(p:Addr) (o:Obj) (es:Array DictEntry) (ep:Nat),nsIn K mainGlobals x=some (some (.ref p))/\K.lookup p=some o/\o.ExactDict/\o.data=.dict es ep/\DRows w K es.toList D/\(D.map fun x=>x.1).Nodup
theorem GD0.of{D:List (Str × List Str)}(g:GD0 Z.w Z.K x D)(B:Bt3 Z):GDict Z.w Z.K Z.mg x D:=let ⟨p,o,i,n,a,r⟩:=g.ex;⟨p,o,i,n,B.ns a,r⟩
end
section
variable{X:Cx}{a b e:Expr}{ta tb te:TE}{pos pos' p:Pos}{x:Str}{es:List Expr}{t:TA}{ps:List Str}{sp:Sp}{k n:Nat}
theorem kcal(C:Cal X.prog X.w X.K X.mg X.base k x ps sp)(hr:Room n X.A)(ha:PA X (e::es) t)(hk:k<=n:=by decide)(hg:Gl X x:=by exact rfl)(hdb:(x==("__debug__":Str))=false:=by decide)(he:starEach (e::es) X.env=(false,eval e X.env)::starEach es X.env:=by rfl)(hpl:(backTo pos (starEach es X.env)).any (·.1)=false:=by rfl):PE X (.Call (.Name x p) (e::es) [] pos) (tCall sp [] E0 t):=G8 C hr hk hg ha hdb he hpl
theorem kix(hu:X.A.units+64<cLine)(ha:PE X a ta)(hb:PE X b tb)(hs:wS b:=by exact fun _ _=>rfl):PE X (.Subscript a b pos) (tOp cIx ta tb):=uW (G6 hu) ha hb hs
theorem kset(i:Nat)(hN:X.N.Nodup)(he:PE X e te)(hi:X.N[i]? =some x:=by exact rfl)(hx:Loc X.env.scope x:=by exact Or.inl rfl)(hs:swapsWith e (some (.Name x pos')) pos.line X.env=pure false:=by rfl)(hf:X.fn x=true\/X.env.scope.names.lookup x=some .local:=by first | exact .inl rfl | exact .inr rfl | assumption):PS X (.Assign [.Name x pos'] e pos) (tAsg te (gName i)):=dX hN hi hx he hs hf
end
local macro_rules | `(tactic| walk_at "l")=>`(tactic| (intro vs H Q E h; (repeat obtain ⟨_,h⟩:=h); subst_vars; rfl))
local macro_rules | `(tactic| ac_rfl)=>`(tactic| exact ⟨rfl,rfl,rfl,by decide+kernel,rfl,by decide+kernel,by decide+kernel⟩)
def top(i:Nat):Stmt:=PySem.Challenge.pw_cluemaker_k52_whole_one_standstill.main.body.getD i (.Pass ⟨0,0,0,0⟩)
def mtop(i j:Nat):Stmt:=match top i with
 | .ClassDef _ _ _ body _ _ _ _ _ _ _=>body.getD j (.Pass ⟨0,0,0,0⟩)
 | s=>s
abbrev gl(Z:Z5):Prop:=Cal Z.P Z.w Z.K Z.mg Z.base 1 "is_whole" ["value"] (c6 Z.K)
abbrev cz(Z:Z5):Prop:=Cal Z.P Z.w Z.K Z.mg Z.base 1 "many_cells" ["floor"] (bM Z.K)
abbrev rM(Z:Z5):Prop:=Cal Z.P Z.w Z.K Z.mg Z.base 1 "spot_of" ["floor","cell"] (lf Z.K)
abbrev tO(Z:Z5):Prop:=Cal Z.P Z.w Z.K Z.mg Z.base 1 "square_at" ["floor","corner"] (lM Z.K)
abbrev Ap(Z:Z5):Prop:=Cal Z.P Z.w Z.K Z.mg Z.base 1 "bit_of" ["sign"] (ra Z.K)
abbrev j3(Z:Z5):Prop:=Cal Z.P Z.w Z.K Z.mg Z.base 1 "stands" ["mask","sign"] (fC Z.K)
abbrev kn(Z:Z5):Prop:=Cal Z.P Z.w Z.K Z.mg Z.base 1 "clashes" ["masks"] (gk Z.K)
abbrev dU(Z:Z5):Prop:=Cal Z.P Z.w Z.K Z.mg Z.base 1 "masks_at" ["masks","cells"] (bX Z.K)
abbrev oK(Z:Z5):Prop:=Cal Z.P Z.w Z.K Z.mg Z.base 1 "clue_strikes" ["clues","cell","sign","more"] (i6 Z.K)
abbrev jB(Z:Z5):Prop:=Cal Z.P Z.w Z.K Z.mg Z.base 1 "are_told_in_order" ["cells","more"] (dP Z.K)
abbrev ot(Z:Z5):Prop:=Cal Z.P Z.w Z.K Z.mg Z.base 1 "with_sign" ["filling","cell","sign"] (jh Z.K)
abbrev qj(Z:Z5):Prop:=Cal Z.P Z.w Z.K Z.mg Z.base 1 "place_mores" ["floor","sign"] (jU Z.K)
abbrev tP(Z:Z5):Prop:=Cal Z.P Z.w Z.K Z.mg Z.base 1 "is_within" ["some","cells"] (lZ Z.K)
abbrev tQ(Z:Z5):Prop:=Cal Z.P Z.w Z.K Z.mg Z.base 1 "number_in" ["word"] (lR Z.K)
abbrev oM(Z:Z5):Prop:=Cal Z.P Z.w Z.K Z.mg Z.base 1 "_law_cell_at" ["_law_script","_law_k"] (cy Z.K)
abbrev md(Z:Z5):Prop:=Cal Z.P Z.w Z.K Z.mg Z.base 1 "_law_order" ["_law_number","_law_many"] (fq Z.K)
abbrev rN(Z:Z5):Prop:=Cal Z.P Z.w Z.K Z.mg Z.base 1 "_law_mores" ["_law_word","_law_many","_law_signs"] (jv Z.K)
abbrev iw(Z:Z5):Prop:=Cal Z.P Z.w Z.K Z.mg Z.base 2 "is_from_one_to" ["value","most"] (bJ Z.K)
abbrev j4(Z:Z5):Prop:=Cal Z.P Z.w Z.K Z.mg Z.base 2 "beside" ["floor","cell"] (dG Z.K)
abbrev tR(Z:Z5):Prop:=Cal Z.P Z.w Z.K Z.mg Z.base 2 "is_corner" ["floor","cell"] (lK Z.K)
abbrev rO(Z:Z5):Prop:=Cal Z.P Z.w Z.K Z.mg Z.base 2 "without" ["mask","sign"] (lq Z.K)
abbrev ca(Z:Z5):Prop:=Cal Z.P Z.w Z.K Z.mg Z.base 2 "signs_in" ["mask"] (bu Z.K)
abbrev rP(Z:Z5):Prop:=Cal Z.P Z.w Z.K Z.mg Z.base 2 "is_cell" ["floor","value"] (lr Z.K)
abbrev rQ(Z:Z5)(c:RCl RK):Prop:=Cal Z.P Z.w Z.K Z.mg Z.base 2 "goes_by" ["kind","rule"] (lw Z.K c)
abbrev cA(Z:Z5)(c:RCl RK):Prop:=Cal Z.P Z.w Z.K Z.mg Z.base 2 "others" ["rule","cell"] (bC Z.K c)
abbrev ly(Z:Z5):Prop:=Cal Z.P Z.w Z.K Z.mg Z.base 2 "many_may" ["some","sign"] (eP Z.K)
abbrev wa(Z:Z5)(c:RCl RK):Prop:=Cal Z.P Z.w Z.K Z.mg Z.base 2 "ahead_of" ["rule","cell"] (nY Z.K c)
abbrev Aq(Z:Z5)(c:RCl RK):Prop:=Cal Z.P Z.w Z.K Z.mg Z.base 2 "behind" ["rule","cell"] (rf Z.K c)
abbrev me(Z:Z5):Prop:=Cal Z.P Z.w Z.K Z.mg Z.base 2 "with_each_sign" ["fillings","cell","signs"] (gz Z.K)
abbrev oN(Z:Z5)(c:RCl RK)(d:RCl PzK):Prop:=Cal Z.P Z.w Z.K Z.mg Z.base 2 "cells_to_try" ["puzzle","kind","number"] (js Z.K c d)
abbrev jx(Z:Z5):Prop:=Cal Z.P Z.w Z.K Z.mg Z.base 2 "number_within" ["word","least","most"] (dN Z.K)
abbrev rR(Z:Z5):Prop:=Cal Z.P Z.w Z.K Z.mg Z.base 2 "is_filling" ["floor","filling","least"] (kC Z.K)
abbrev wc(Z:Z5):Prop:=Cal Z.P Z.w Z.K Z.mg Z.base 2 "_law_row" ["_law_cell","_law_many","_law_signs"] (kO Z.K)
abbrev mS(Z:Z5):Prop:=Cal Z.P Z.w Z.K Z.mg Z.base 2 "_law_thoughts" ["_law_kinds","_law_rules","_law_many","_law_signs"] (fP Z.K)
abbrev wd(Z:Z5):Prop:=Cal Z.P Z.w Z.K Z.mg Z.base 3 "floor_of" ["high","wide","signs"] (nR Z.K)
abbrev mT(Z:Z5):Prop:=Cal Z.P Z.w Z.K Z.mg Z.base 3 "squares" ["floor"] (iR Z.K)
abbrev mU(Z:Z5):Prop:=Cal Z.P Z.w Z.K Z.mg Z.base 3 "reached" ["floor","cells","start"] (dR Z.K)
abbrev dW(Z:Z5):Prop:=Cal Z.P Z.w Z.K Z.mg Z.base 3 "has_only" ["mask","sign"] (ce Z.K)
abbrev uG(Z:Z5):Prop:=Cal Z.P Z.w Z.K Z.mg Z.base 3 "struck" ["masks","cell","sign"] (mQ Z.K)
abbrev EB(Z:Z5):Prop:=Cal Z.P Z.w Z.K Z.mg Z.base 3 "ways" ["masks"] (xj Z.K)
abbrev rS(Z:Z5):Prop:=Cal Z.P Z.w Z.K Z.mg Z.base 3 "is_sign" ["floor","value"] (lu Z.K)
abbrev oO(Z:Z5)(c:RCl RK)(d:RCl PzK):Prop:=Cal Z.P Z.w Z.K Z.mg Z.base 3 "has_its_rule" ["puzzle","kind","number","cell"] (i3 Z.K c d)
abbrev mV(Z:Z5):Prop:=Cal Z.P Z.w Z.K Z.mg Z.base 3 "is_no_greater" ["sign","mask"] (ig Z.K)
abbrev rT(Z:Z5):Prop:=Cal Z.P Z.w Z.K Z.mg Z.base 3 "is_no_less" ["sign","mask"] (kE Z.K)
abbrev oP(Z:Z5)(c:RCl RK):Prop:=Cal Z.P Z.w Z.K Z.mg Z.base 3 "pair_strikes" ["rule","masks","cell","sign","more"] (jb Z.K c)
abbrev qk(Z:Z5)(c:RCl RK):Prop:=Cal Z.P Z.w Z.K Z.mg Z.base 3 "sum_strikes" ["rule","masks","cell","sign","more"] (jQ Z.K c)
abbrev Ar(Z:Z5):Prop:=Cal Z.P Z.w Z.K Z.mg Z.base 3 "around" ["floor","middle","cell"] (rm Z.K)
abbrev rV(Z:Z5):Prop:=Cal Z.P Z.w Z.K Z.mg Z.base 3 "turn_mores" ["floor","cell"] (kK Z.K)
abbrev rW(Z:Z5)(c:RCl RK):Prop:=Cal Z.P Z.w Z.K Z.mg Z.base 3 "pair_mores" ["rule","masks","cell"] (kM Z.K c)
abbrev oQ(Z:Z5)(c:RCl RK)(d:RCl PzK):Prop:=Cal Z.P Z.w Z.K Z.mg Z.base 3 "rule_numbers" ["puzzle","kind"] (jq Z.K c d)
abbrev oR(Z:Z5):Prop:=Cal Z.P Z.w Z.K Z.mg Z.base 3 "first_within" ["words","least","most"] (cN Z.K)
abbrev rX(Z:Z5):Prop:=Cal Z.P Z.w Z.K Z.mg Z.base 3 "told_cells" ["floor","words"] (kx Z.K)
abbrev yc(Z:Z5)(c:RCl RK):Prop:=Cal Z.P Z.w Z.K Z.mg Z.base 3 "rule_by" ["floor","words","cells","amount","mark"] (pP Z.K c)
abbrev mW(Z:Z5):Prop:=Cal Z.P Z.w Z.K Z.mg Z.base 3 "checked_clues" ["floor","clues"] (hJ Z.K)
abbrev tS(Z:Z5)(c:RCl RK)(d:RCl PzK):Prop:=Cal Z.P Z.w Z.K Z.mg Z.base 4 "is_formed" ["puzzle","thought"] (lV Z.K c d)
abbrev kg(Z:Z5):Prop:=Cal Z.P Z.w Z.K Z.mg Z.base 4 "many_only" ["some","sign"] (dD Z.K)
abbrev oS(Z:Z5)(c:RCl RK):Prop:=Cal Z.P Z.w Z.K Z.mg Z.base 4 "only_strikes" ["rule","masks","cell","sign","more"] (i8 Z.K c)
abbrev mX(Z:Z5)(c:RCl RK):Prop:=Cal Z.P Z.w Z.K Z.mg Z.base 4 "place_strikes" ["floor","rule","masks","cell","sign","more"] (h9 Z.K c)
abbrev oT(Z:Z5)(c:RCl RK):Prop:=Cal Z.P Z.w Z.K Z.mg Z.base 4 "step_strikes" ["rule","masks","cell","sign","more"] (jd Z.K c)
abbrev mf(Z:Z5):Prop:=Cal Z.P Z.w Z.K Z.mg Z.base 4 "rest_of_square" ["floor","corner","cell"] (gq Z.K)
abbrev gQ(Z:Z5):Prop:=Cal Z.P Z.w Z.K Z.mg Z.base 4 "is_another_with_only" ["floor","masks","cell","other","mark"] (cB Z.K)
abbrev rY(Z:Z5)(c:RCl RK):Prop:=Cal Z.P Z.w Z.K Z.mg Z.base 4 "only_mores" ["rule","masks","cell","sign"] (kI Z.K c)
abbrev oU(Z:Z5):Prop:=Cal Z.P Z.w Z.K Z.mg Z.base 4 "square_mores" ["floor","cell"] (jm Z.K)
abbrev ql(Z:Z5)(c:RCl RK):Prop:=Cal Z.P Z.w Z.K Z.mg Z.base 4 "reach_mores" ["floor","rule","masks","cell","sign"] (jW Z.K c)
abbrev we(Z:Z5):Prop:=Cal Z.P Z.w Z.K Z.mg Z.base 4 "cells_of" ["floor","name","words"] (nO Z.K)
abbrev mY(Z:Z5):Prop:=Cal Z.P Z.w Z.K Z.mg Z.base 4 "checked_floor" ["floor"] (g8 Z.K)
abbrev kU(Z:Z5)(c:RCl RK)(d:RCl PzK):Prop:=Cal Z.P Z.w Z.K Z.mg Z.base 5 "strikes_by_line" ["puzzle","masks","thought"] (fc Z.K c d)
abbrev mZ(Z:Z5)(c:RCl RK):Prop:=Cal Z.P Z.w Z.K Z.mg Z.base 5 "count_strikes" ["rule","masks","cell","sign","more"] (ic Z.K c)
abbrev mh(Z:Z5)(c:RCl RK):Prop:=Cal Z.P Z.w Z.K Z.mg Z.base 5 "square_strikes" ["floor","rule","masks","cell","sign","more"] (gt Z.K c)
abbrev m3(Z:Z5)(c:RCl RK):Prop:=Cal Z.P Z.w Z.K Z.mg Z.base 5 "reach_strikes" ["floor","rule","masks","cell","sign","more"] (ij Z.K c)
abbrev oV(Z:Z5)(c:RCl RK):Prop:=Cal Z.P Z.w Z.K Z.mg Z.base 5 "turn_strikes" ["floor","rule","masks","cell","sign","more"] (jk Z.K c)
abbrev oW(Z:Z5)(c:RCl RK)(d:RCl PzK):Prop:=Cal Z.P Z.w Z.K Z.mg Z.base 5 "mores_to_try" ["puzzle","masks","kind","number","cell","sign"] (jo Z.K c d)
abbrev tT(Z:Z5)(c:RCl RK):Prop:=Cal Z.P Z.w Z.K Z.mg Z.base 5 "read_rule" ["floor","line"] (lT Z.K c)
abbrev oX(Z:Z5)(c:RCl RK):Prop:=Cal Z.P Z.w Z.K Z.mg Z.base 6 "ways_strikes" ["rule","masks","cell","sign","more"] (ji Z.K c)
abbrev jC(Z:Z5)(c:RCl RK)(d:RCl PzK):Prop:=Cal Z.P Z.w Z.K Z.mg Z.base 6 "strikes_by_region" ["puzzle","masks","thought"] (c9 Z.K c d)
abbrev rZ(Z:Z5)(c:RCl RK):Prop:=Cal Z.P Z.w Z.K Z.mg Z.base 6 "read_rules" ["floor","lines"] (kA Z.K c)
abbrev jD(Z:Z5)(c:RCl RK)(d:RCl PzK):Prop:=Cal Z.P Z.w Z.K Z.mg Z.base 7 "strikes_by_number" ["puzzle","masks","thought"] (db Z.K c d)
abbrev r8(Z:Z5)(c:RCl RK)(d:RCl PzK):Prop:=Cal Z.P Z.w Z.K Z.mg Z.base 8 "strikes" ["puzzle","masks","thought"] (kf Z.K c d)
abbrev yd(Z:Z5)(c:RCl RK)(d:RCl PzK):Prop:=Cal Z.P Z.w Z.K Z.mg Z.base 9 "allowed" ["puzzle","masks","thought"] (oj Z.K c d)
abbrev wf(Z:Z5)(c:RCl RK)(d:RCl PzK):Prop:=Cal Z.P Z.w Z.K Z.mg Z.base 9 "first_at" ["puzzle","masks","kind","number","cell","sign"] (oq Z.K c d)
abbrev m5(Z:Z5)(c:RCl RK)(d:RCl PzK):Prop:=Cal Z.P Z.w Z.K Z.mg Z.base 10 "found_by_rule" ["puzzle","masks","kind","number"] (io Z.K c d)
abbrev wg(Z:Z5)(c:RCl RK)(d:RCl PzK):Prop:=Cal Z.P Z.w Z.K Z.mg Z.base 10 "_law_one" ["_law_puzzle","_law_masks","_law_thoughts_here","_law_start"] (kQ Z.K c d)
abbrev qm(Z:Z5)(c:RCl RK)(d:RCl PzK):Prop:=Cal Z.P Z.w Z.K Z.mg Z.base 11 "first_found" ["puzzle","masks","kinds"] (jY Z.K c d)
abbrev BU(Z:Z5)(c:RCl RK)(d:RCl PzK):Prop:=Cal Z.P Z.w Z.K Z.mg Z.base 12 "think" ["puzzle","masks","kinds"] (uC Z.K c d)
abbrev BV(Z:Z5)(c:RCl RK)(d:RCl PzK):Prop:=MCal Z.P Z.w Z.K Z.mg Z.base d d.ok 1 "clues" ["self"] (uj Z.K c d)
abbrev mj(Z:Z5)(c:RCl RK):Prop:=MCal Z.P Z.w Z.K Z.mg Z.base c c.ok 3 "has_two_beside" ["self","cells","cell"] (gn Z.K c)
abbrev BW(Z:Z5)(c:RCl RK):Prop:=MCal Z.P Z.w Z.K Z.mg Z.base c c.ok 5 "holds" ["self","filling"] (c5 Z.K c)
abbrev kh(Z:Z5)(c:RCl RK):Prop:=MCal Z.P Z.w Z.K Z.mg Z.base c c.ok 4 "is_joined" ["self","cells"] (iS Z.K c)
abbrev iy(Z:Z5)(c:RCl RK):Prop:=MCal Z.P Z.w Z.K Z.mg Z.base c c.ok 1 "marked" ["self","filling"] (iF Z.K c)
abbrev EC(Z:Z5)(c:RCl RK):Prop:=MCal Z.P Z.w Z.K Z.mg Z.base c c.ok 1 "name" ["self"] (wZ Z.K c)
abbrev uH(Z:Z5)(c:RCl RK):Prop:=MCal Z.P Z.w Z.K Z.mg Z.base c c.ok 1 "number" ["self"] (iD Z.K c)
abbrev lD(Z:Z5)(c:RCl RK)(d:RCl PzK):Prop:=MCal Z.P Z.w Z.K Z.mg Z.base d d.ok 1 "place" ["self"] (hX Z.K c d)
abbrev iH(Z:Z5)(c:RCl RK)(d:RCl PzK):Prop:=MCal Z.P Z.w Z.K Z.mg Z.base d d.ok 1 "rules" ["self"] (cu Z.K c d)
abbrev oY(Z:Z5)(c:RCl RK):Prop:=MCal Z.P Z.w Z.K Z.mg Z.base c c.ok 1 "sign" ["self"] (iE Z.K c)
abbrev jy(Z:Z5)(c:RCl RK):Prop:=MCal Z.P Z.w Z.K Z.mg Z.base c c.ok 1 "signs_at" ["self","filling"] (eJ Z.K c)
abbrev iI(Z:Z5)(c:RCl RK):Prop:=MCal Z.P Z.w Z.K Z.mg Z.base c c.ok 1 "spots" ["self"] (dM Z.K c)
abbrev kW(Z:Z5)(x:Str)(C:Addr)(c:RCl RK)(d:RCl PzK):Prop:=KCal Z.P Z.w Z.K Z.mg Z.base 7 x C ["self","floor","lines","clues"] (bZ Z.K c d)
abbrev aL(Z:Z5)(x:Str)(C:Addr)(c:RCl RK):Prop:=KCal Z.P Z.w Z.K Z.mg Z.base 1 x C ["self","floor","words","cells","amount","mark"] (aM Z.K c)
section
variable{Z:Z5}(Bz:Bt3 Z)
include Bz
set_option maxHeartbeats 4000000
abbrev wj:Stmt:=top 10
theorem A8(D:De Z.K "is_whole" wj):gl Z:=okc Bz D AU bd1 fun hr hu nd=>(ad (af (be (ar dF rfl Bz.isinstance_ bL (aa (pv 0) (aa (iz (v:=.ty "int") rfl Bz.int_ u8 rfl) ab))) (bq (CZ (ar dF rfl Bz.isinstance_ bL (aa (pv 0) (aa (iz (v:=.ty "bool") rfl Bz.bool_ F2 rfl) ab))))))))
abbrev sd:Stmt:=top 13
theorem yL(D:De Z.K "many_cells" sd):cz Z:=okc Bz D yx bd1 fun hr hu nd=>(ad (af (ao bw (kix hu (pv 0) ae) (kix hu (pv 0) ae))))
abbrev ye:Stmt:=top 14
theorem CJ(D:De Z.K "spot_of" ye):rM Z:=okc Bz D Cd bd2 fun hr hu nd=>(ac (kset 2 nd (kix hu (pv 0) ae))
   (ad (af (bY (aa (ao bz (pv 1) (pv 2)) (aa (ao aU (pv 1) (pv 2)) ab))))))
abbrev tU:Stmt:=top 17
theorem As(D:De Z.K "square_at" tU):tO Z:=okc Bz D zI bd2 fun hr hu nd=>(ac (kset 2 nd (ao aE (pv 1) (kix hu (pv 0) ae)))
   (ad (af (ax (aa (pv 1) (aa (ao aE (pv 1) ae) (aa (pv 2) (aa (ao aE (pv 2) ae) ab))))))))
abbrev At:Stmt:=top 21
theorem ED(D:De Z.K "bit_of" At):Ap Z:=okc Bz D DR bd1 fun hr hu nd=>(ac (kset 1 nd ae)
   (ac (bc MD rfl (bK rfl Bz.range_ (aa (ao bP (pv 0) ae) ab)) (aq (i:=2) nd rfl (Or.inl rfl))
   (ad (kset 1 nd (ao bw (pv 1) ae))))
   (ad (af (pv 1)))))
abbrev Au:Stmt:=top 22
theorem EE(D:De Z.K "stands" Au):j3 Z:=okc Bz D DQ bd2 fun hr hu nd=>(ad (af (be (aw gF ae (pv 1) (ah _)) (be (aw gF (pv 1) (Dj Pu OX OY vc (pv 0)) (ah _)) (bq (aw (av hu) (ao aU (ao F4 (pv 0) (ao bP (pv 1) ae)) ae) ae (ah _)))))))
abbrev yf:Stmt:=top 27
theorem CK(D:De Z.K "clashes" yf):kn Z:=okc Bz D Cp bd1 fun hr hu nd=>(ad (af (aw (cr hu) ae (pv 0) (by with_unfolding_all rfl))))
abbrev wk:Stmt:=top 38
theorem A9(D:De Z.K "masks_at" wk):dU Z:=okc Bz D AY bd2 fun hr hu nd=>(ad (af (aI (ix:=[none,none,some 0]) [".0","cell","masks"] (aC rfl (by decide+kernel) rfl rfl rfl) rfl (aA (pv 1)) (fun cl s H fp=>(aq (i:=1) (show([".0","cell","masks"]:List Str).Nodup by decide+kernel) rfl (Or.inl rfl))) (fun cl s H fp=>aT) (fun cl s H fp=>(kix hu (pv 2) (pv 1))))))
abbrev oZ:Stmt:=top 43
theorem wl(D:De Z.K "clue_strikes" oZ):oK Z:=okc Bz D vy bd4 fun hr hu nd=>(ad (af (be (aw (av hu) (pv 3) (ax ab) (ah _)) (be (aw (a8 hu) (kix hu (pv 0) (pv 1)) ae (ah _)) (bq (aw (a8 hu) (kix hu (pv 0) (pv 1)) (pv 2) (ah _)))))))
abbrev jE:Stmt:=top 51
theorem qb(D:De Z.K "are_told_in_order" jE):jB Z:=okc Bz D pW bd2 fun hr hu nd=>(ac (au (OI (b9 (aj (a8 hu) (ar aG rfl Bz.len_ aP (aa (pv 1) ab)) ae (ah _)) (b9 (aj (cb hu) (kix hu (pv 1) ae) (pv 0) (by with_unfolding_all rfl)) (cE (aj (cb hu) (kix hu (pv 1) ae) (pv 0) (by with_unfolding_all rfl)))))) (ad (af bF)) ak)
   (ad (af (aw b7 (bE Mr Nl Nm (iA hu) (pv 0) (aa (kix hu (pv 1) ae) ab)) (bE Mr Nl Nm (iA hu) (pv 0) (aa (kix hu (pv 1) ae) ab)) (ah _)))))
abbrev tV:Stmt:=top 59
theorem Av(D:De Z.K "with_sign" tV):ot Z:=okc Bz D zW bd3 fun hr hu nd=>(ad (af (aI (ix:=[none,none,none,some 1,some 2]) [".0","place","other","cell","sign"] (aC rfl (by decide+kernel) rfl rfl rfl) rfl (wU rfl Bz.enumerate_ (aa (pv 0) ab)) (fun cl s H fp=>(qC rfl (cO (aq (i:=1) (show([".0","place","other","cell","sign"]:List Str).Nodup by decide+kernel) rfl (Or.inl rfl)) (cO (aq (i:=2) (show([".0","place","other","cell","sign"]:List Str).Nodup by decide+kernel) rfl (Or.inl rfl)) ow)))) (fun cl s H fp=>aT) (fun cl s H fp=>(lE (aj (av hu) (pv 1) (pv 3) (ah _)) (pv 4) (pv 2))))))
abbrev qo:Stmt:=top 76
theorem xv(D:De Z.K "place_mores" qo):qj Z:=okc Bz D xm bd2 fun hr hu nd=>(ad (af (aI (ix:=[none,none,some 1]) [".0","other","sign"] (aC rfl (by decide+kernel) rfl rfl rfl) rfl (qD rfl Bz.range_ (aa ae (aa (ao aE (kix hu (pv 0) ae) ae) ab))) (fun cl s H fp=>(aq (i:=1) (show([".0","other","sign"]:List Str).Nodup by decide+kernel) rfl (Or.inl rfl))) (fun cl s H fp=>(ba (aj (a8 hu) (pv 1) (pv 2) (ah _)))) (fun cl s H fp=>(ax (aa (pv 1) ab))))))
abbrev tW:Stmt:=top 90
theorem Aw(D:De Z.K "is_within" tW):tP Z:=okc Bz D zU bd2 fun hr hu nd=>(ad (af (ar (cM rfl) rfl Bz.all_ iN (aa (aI (ix:=[none,none,some 1]) [".0","cell","cells"] (aC rfl (by decide+kernel) rfl rfl rfl) rfl (aA (pv 0)) (fun cl s H fp=>(aq (i:=1) (show([".0","cell","cells"]:List Str).Nodup by decide+kernel) rfl (Or.inl rfl))) (fun cl s H fp=>aT) (fun cl s H fp=>(aw (cr hu) (pv 1) (pv 2) (by with_unfolding_all rfl)))) ab))))
abbrev m7:Stmt:=mtop 91 0
theorem uI{c:RCl RK}(IU:FldK Z.K c "amount")(IY:FldK Z.K c "cells")(Ja:FldK Z.K c "floor")(Jj:FldK Z.K c "mark")(Jw:FldK Z.K c "words"){f:Addr}(D:Me Z.K "__init__" "Rule.__init__" m7 f):Mo Z 1 f ["self","floor","words","cells","amount","mark"] (aM Z.K c):=okm D ue bd6 fun hr hu nd=>(ac (iB (pv 0) (pv 1) Ja)
   (ac (iB (pv 0) (bj tJ rfl Bz.tuple_ pH (aa (pv 2) ab)) Jw)
   (ac (iB (pv 0) (bj tJ rfl Bz.tuple_ pH (aa (pv 3) ab)) IY)
   (ac (iB (pv 0) (pv 4) IU)
   (ad (iB (pv 0) (pv 5) Jj))))))
abbrev tX:Stmt:=mtop 91 1
theorem Ax{c:RCl RK}(Jw:FldK Z.K c "words"){f:Addr}(D:Me Z.K "name" "Rule.name" tX f):Mo Z 1 f ["self"] (qW Z.K c):=okm D zJ bd1 fun hr hu nd=>(ad (af (kix hu (bn (pv 0) Jw) ae)))
abbrev se:Stmt:=mtop 91 2
theorem yM{c:RCl RK}(IY:FldK Z.K c "cells"){f:Addr}(D:Me Z.K "spots" "Rule.spots" se f):Mo Z 1 f ["self"] (qf Z.K c):=okm D yy bd1 fun hr hu nd=>(ad (af (bj dH rfl Bz.list_ df (aa (bn (pv 0) IY) ab))))
abbrev qp:Stmt:=mtop 91 3
theorem xw{c:RCl RK}(IU:FldK Z.K c "amount"){f:Addr}(D:Me Z.K "number" "Rule.number" qp f):Mo Z 1 f ["self"] (oC Z.K c):=okm D w5 bd1 fun hr hu nd=>(ad (af (bn (pv 0) IU)))
abbrev tY:Stmt:=mtop 91 4
theorem Ay{c:RCl RK}(Jj:FldK Z.K c "mark"){f:Addr}(D:Me Z.K "sign" "Rule.sign" tY f):Mo Z 1 f ["self"] (qX Z.K c):=okm D zK bd1 fun hr hu nd=>(ad (af (bn (pv 0) Jj)))
abbrev m8:Stmt:=mtop 91 8
theorem uJ{c:RCl RK}(IY:FldK Z.K c "cells"){f:Addr}(D:Me Z.K "signs_at" "Rule.signs_at" m8 f):Mo Z 1 f ["self","filling"] (lQ Z.K c):=okm D uf bd2 fun hr hu nd=>(ad (af (aI (ix:=[none,none,some 1]) [".0","cell","filling"] (aC rfl (by decide+kernel) rfl rfl rfl) rfl (zd (bn (pv 0) IY)) (fun cl s H fp=>(aq (i:=1) (show([".0","cell","filling"]:List Str).Nodup by decide+kernel) rfl (Or.inl rfl))) (fun cl s H fp=>aT) (fun cl s H fp=>(kix hu (pv 2) (pv 1))))))
abbrev qq:Stmt:=mtop 91 9
theorem j5{c:RCl RK}(IY:FldK Z.K c "cells")(Jj:FldK Z.K c "mark"){f:Addr}(D:Me Z.K "marked" "Rule.marked" qq f):Mo Z 1 f ["self","filling"] (oE Z.K c):=okm D xh bd2 fun hr hu nd=>(ad (af (aI (ix:=[none,none,some 1,some 0]) [".0","cell","filling","self"] (aC rfl (by decide+kernel) rfl rfl rfl) rfl (zd (bn (pv 0) IY)) (fun cl s H fp=>(aq (i:=1) (show([".0","cell","filling","self"]:List Str).Nodup by decide+kernel) rfl (Or.inl rfl))) (fun cl s H fp=>(ba (aj (av hu) (kix hu (pv 2) (pv 1)) (bn (pv 3) Jj) (ah _)))) (fun cl s H fp=>(pv 1)))))
abbrev tZ:Stmt:=top 107
theorem Az{t_FIGURES:Tok}(KO:Z.mg "FIGURES"=some (.str (tx [48,49,50,51,52,53,54,55,56,57]) t_FIGURES)){t_MOST_FIGURES:Tok}(JU:Z.mg "MOST_FIGURES"=some (.int 9 t_MOST_FIGURES))(D:De Z.K "number_in" tZ):tQ Z:=okc Bz D zL bd1 fun hr hu nd=>(ac (au (OI (b9 (aj (av hu) (pv 0) aB (ah _)) (b9 (aj fu (ar aG rfl Bz.len_ aP (aa (pv 0) ab)) (cg rfl JU ⟨t_MOST_FIGURES,rfl⟩) (ah _)) (cE (OI (uT (aj (av hu) (kix hu (pv 0) ae) aB (ah _)) (sC (aj (a8 hu) (pv 0) aB (ah _))))))))) (ad (af ki)) ak)
   (ac (au (bN (aO (ar (cM rfl) rfl Bz.all_ iN (aa (aI (ix:=[none,none]) [".0","figure"] (aC rfl (by decide+kernel) rfl rfl rfl) rfl (Hc (pv 0)) (fun cl s H fp=>(aq (i:=1) (show([".0","figure"]:List Str).Nodup by decide+kernel) rfl (Or.inl rfl))) (fun cl s H fp=>aT) (fun cl s H fp=>(aw (cr hu) (pv 1) (cg rfl KO ⟨t_FIGURES,rfl⟩) (by with_unfolding_all rfl)))) ab)))) (ad (af ki)) ak)
   (ad (af (bj pN rfl Bz.int_ u8 (aa (pv 0) ab))))))
abbrev o4:Stmt:=mtop 120 1
theorem wm{c:RCl RK}{d:RCl PzK}(Jm:FldK Z.K d "floor"){f:Addr}(D:Me Z.K "place" "Puzzle.place" o4 f):Mo Z 1 f ["self"] (mK Z.K c d):=okm D vq bd1 fun hr hu nd=>(ad (af (bn (pv 0) Jm)))
abbrev o5:Stmt:=mtop 120 3
theorem wn{c:RCl RK}{d:RCl PzK}(Jx:FldK Z.K d "given"){f:Addr}(D:Me Z.K "clues" "Puzzle.clues" o5 f):Mo Z 1 f ["self"] (mL Z.K c d):=okm D vt bd1 fun hr hu nd=>(ad (af (bj dH rfl Bz.list_ df (aa (bn (pv 0) Jx) ab))))
abbrev o6:Stmt:=mtop 120 4
theorem wp{c:RCl RK}{d:RCl PzK}(JE:FldK Z.K d "laws"){f:Addr}(D:Me Z.K "rules" "Puzzle.rules" o6 f):Mo Z 1 f ["self"] (mM Z.K c d):=okm D vv bd1 fun hr hu nd=>(ad (af (bj dH rfl Bz.list_ df (aa (bn (pv 0) JE) ab))))
abbrev o7:Stmt:=top 122
theorem wq(D:De Z.K "_law_cell_at" o7):oM Z:=okc Bz D Am bd2 fun hr hu nd=>(ac (au (aj b7 (pv 1) (ar qJ rfl Bz.len_ aP (aa (pv 0) ab)) (ah _)) (ad (af (uW Bo (pv 0) (pv 1) (fun _ _=>rfl)))) ak)
   (ad (af ae)))
abbrev sf:Stmt:=top 123
theorem yN(D:De Z.K "_law_order" sf):md Z:=okc Bz D vT bd2 fun hr hu nd=>(ac (kset 2 nd (nJ rfl rfl rfl Bz.list_ Bz.range_ (aa (pv 1) ab)))
   (ac (kset 3 nd (ax ab))
   (ac (bc MD rfl (bK rfl Bz.range_ (aa (pv 1) ab)) (aq (i:=4) nd rfl (Or.inl rfl))
   (ad (bO (bE Mr MK ML bh (pv 3) (aa (bE Mr PySem.F.slot_list_pop PySem.F.type_list_pop DK (pv 2) (aa (ao aU (ao bz (pv 0) (ao aE (pv 4) ae)) (ar aG rfl Bz.len_ aP (aa (pv 2) ab))) ab)) ab)))))
   (ad (af (pv 3))))))
abbrev sh:Stmt:=top 125
theorem yO(D:De Z.K "_law_mores" sh):rN Z:=okc Bz D vV bd3 fun hr hu nd=>(ac (au (aj (cr hu) (pv 0) (bY (aa aB (aa aB (aa aB (aa aB (aa aB ab)))))) (by with_unfolding_all rfl)) (ad (af (ax (aa (ax ab) ab)))) ak)
   (ac (au (aj (av hu) (pv 0) aB (ah _)) (ad (af (aI (ix:=[none,none]) [".0","_law_sign"] (aC rfl (by decide+kernel) rfl rfl rfl) rfl (qD rfl Bz.range_ (aa ae (aa (ao aE (pv 2) ae) ab))) (fun cl s H fp=>(aq (i:=1) (show([".0","_law_sign"]:List Str).Nodup by decide+kernel) rfl (Or.inl rfl))) (fun cl s H fp=>aT) (fun cl s H fp=>(ax (aa (pv 1) ab)))))) ak)
   (ac (kset 3 nd (ax (aa (ax ab) ab)))
   (ac (bc MD rfl (bK rfl Bz.range_ (aa (pv 1) ab)) (aq (i:=4) nd rfl (Or.inl rfl))
   (ac (bO (bE Mr MK ML bh (pv 3) (aa (ax (aa (pv 4) ab)) ab)))
   (ad (au (aj (cr hu) (pv 0) (bY (aa aB (aa aB ab))) (by with_unfolding_all rfl)) (ad (bc MD rfl (bK rfl Bz.range_ (aa (pv 1) ab)) (aq (i:=5) nd rfl (Or.inl rfl))
   (ad (bO (bE Mr MK ML bh (pv 3) (aa (ax (aa (pv 4) (aa (pv 5) ab))) ab)))))) ak))))
   (ad (af (pv 3)))))))
abbrev mq:Stmt:=top 11
theorem sZ(IW:gl Z)(D:De Z.K "is_from_one_to" mq):iw Z:=okc Bz D sQ bd2 fun hr hu nd=>(ad (af (be (kcal IW hr (aa (pv 0) ab)) (be (aw gF ae (pv 0) (ah _)) (bq (aw gF (pv 0) (pv 1) (ah _)))))))
abbrev AA:Stmt:=top 15
theorem EF(JF:rM Z)(D:De Z.K "beside" AA):j4 Z:=okc Bz D DE bd2 fun hr hu nd=>(ac (kset 2 nd (kix hu (pv 0) ae))
   (ac (kset 3 nd (kix hu (pv 0) ae))
   (ac (kset 4 nd (kcal JF hr (aa (pv 0) (aa (pv 1) ab))))
   (ac (kset 5 nd (ax ab))
   (ac (au (aj fu (kix hu (pv 4) ae) ae (ah _)) (ad (bO (bE Mr MK ML bh (pv 5) (aa (ao bP (pv 1) (pv 3)) ab)))) ak)
   (ac (au (aj fu (kix hu (pv 4) ae) ae (ah _)) (ad (bO (bE Mr MK ML bh (pv 5) (aa (ao bP (pv 1) ae) ab)))) ak)
   (ac (au (aj b7 (kix hu (pv 4) ae) (ao bP (pv 3) ae) (ah _)) (ad (bO (bE Mr MK ML bh (pv 5) (aa (ao aE (pv 1) ae) ab)))) ak)
   (ac (au (aj b7 (kix hu (pv 4) ae) (ao bP (pv 2) ae) (ah _)) (ad (bO (bE Mr MK ML bh (pv 5) (aa (ao aE (pv 1) (pv 3)) ab)))) ak)
   (ad (af (pv 5)))))))))))
abbrev t3:Stmt:=top 16
theorem AB(JF:rM Z)(D:De Z.K "is_corner" t3):tR Z:=okc Bz D zH bd2 fun hr hu nd=>(ac (kset 2 nd (kcal JF hr (aa (pv 0) (aa (pv 1) ab))))
   (ad (af (be (aw b7 (kix hu (pv 2) ae) (ao bP (kix hu (pv 0) ae) ae) (ah _)) (bq (aw b7 (kix hu (pv 2) ae) (ao bP (kix hu (pv 0) ae) ae) (ah _)))))))
abbrev yg:Stmt:=top 23
theorem CL(KW:Ap Z)(Jc:j3 Z)(D:De Z.K "without" yg):rO Z:=okc Bz D Ci bd2 fun hr hu nd=>(ad (af (lE (aO (kcal Jc hr (aa (pv 0) (aa (pv 1) ab)))) (ao bP (pv 0) (kcal KW hr (aa (pv 1) ab))) (pv 0))))
abbrev wr:Stmt:=top 25
theorem Ba(Jc:j3 Z)(D:De Z.K "signs_in" wr):ca Z:=okc Bz D AX bd1 fun hr hu nd=>(ad (af (aI (ix:=[none,none,some 0]) [".0","sign","mask"] (aC rfl (by decide+kernel) rfl rfl rfl) rfl (qD rfl Bz.range_ (aa ae (aa (ao aE (Dj Pu OX OY vc (pv 0)) ae) ab))) (fun cl s H fp=>(aq (i:=1) (show([".0","sign","mask"]:List Str).Nodup by decide+kernel) rfl (Or.inl rfl))) (fun cl s H fp=>(ba (aO (kcal Jc hr (aa (pv 2) (aa (pv 1) ab)))))) (fun cl s H fp=>(pv 1)))))
abbrev yh:Stmt:=top 32
theorem CM(IW:gl Z)(IR:cz Z)(D:De Z.K "is_cell" yh):rP Z:=okc Bz D Cj bd2 fun hr hu nd=>(ad (af (be (kcal IW hr (aa (pv 1) ab)) (be (aw gF ae (pv 1) (ah _)) (bq (aw b7 (pv 1) (kcal IR hr (aa (pv 0) ab)) (ah _)))))))
abbrev yj:Stmt:=top 34
theorem CN{c:RCl RK}(Ll:EC Z c)(JL:GDict Z.w Z.K Z.mg "RULES_OF_KIND" gd_RULES_OF_KIND)(D:De Z.K "goes_by" yj):rQ Z c:=okc Bz D Cl bd2 fun hr hu nd=>(ad (af (yY (aw (av hu) (pv 0) aB (ah _)) (bq (aw Hq (aH Ll hr (by decide) (pv 1)) (Ho JL (pv 0) rfl (fun _ _=>rfl)) (by with_unfolding_all rfl))))))
abbrev AC:Stmt:=top 37
theorem EG{c:RCl RK}(IX:iI Z c)(D:De Z.K "others" AC):cA Z c:=okc Bz D DS bd2 fun hr hu nd=>(ad (af (aI (ix:=[none,none,some 1]) [".0","spot","cell"] (aC rfl (by decide+kernel) rfl rfl rfl) rfl (aA (aH IX hr (by decide) (pv 0))) (fun cl s H fp=>(aq (i:=1) (show([".0","spot","cell"]:List Str).Nodup by decide+kernel) rfl (Or.inl rfl))) (fun cl s H fp=>(ba (aj (a8 hu) (pv 1) (pv 2) (ah _)))) (fun cl s H fp=>(pv 1)))))
abbrev wt:Stmt:=top 40
theorem Bb(Jc:j3 Z)(D:De Z.K "many_may" wt):ly Z:=okc Bz D AZ bd2 fun hr hu nd=>(ad (af (ar aG rfl Bz.len_ aP (aa (aI (ix:=[none,none,some 1]) [".0","mask","sign"] (aC rfl (by decide+kernel) rfl rfl rfl) rfl (aA (pv 0)) (fun cl s H fp=>(aq (i:=1) (show([".0","mask","sign"]:List Str).Nodup by decide+kernel) rfl (Or.inl rfl))) (fun cl s H fp=>(ba (aO (kcal Jc hr (aa (pv 1) (aa (pv 2) ab)))))) (fun cl s H fp=>(pv 1))) ab))))
abbrev wu:Stmt:=top 46
theorem Bc{c:RCl RK}(IX:iI Z c)(D:De Z.K "ahead_of" wu):wa Z c:=okc Bz D A0 bd2 fun hr hu nd=>(ac (kset 2 nd (aH IX hr (by decide) (pv 0)))
   (ac (kset 3 nd (bE Mr Nl Nm (iA hu) (pv 2) (aa (pv 1) ab)))
   (ad (af (lE (aj fu (pv 3) ae (ah _)) (ft mG (pv 2) (d4 (ao bP (pv 3) ae)) (d4 (pv 3))) (ax ab))))))
abbrev AD:Stmt:=top 47
theorem EH{c:RCl RK}(IX:iI Z c)(D:De Z.K "behind" AD):Aq Z c:=okc Bz D DW bd2 fun hr hu nd=>(ac (kset 2 nd (aH IX hr (by decide) (pv 0)))
   (ac (kset 3 nd (bE Mr Nl Nm (iA hu) (pv 2) (aa (pv 1) ab)))
   (ad (af (ft mG (pv 2) (d4 (ao aE (pv 3) ae)) (d4 (ao aE (pv 3) ae)))))))
abbrev mr:Stmt:=top 60
theorem tm(Jr:ot Z)(D:De Z.K "with_each_sign" mr):me Z:=okc Bz D sX bd3 fun hr hu nd=>(ac (kset 3 nd (ax ab))
   (ac (bc MD rfl (aA (pv 0)) (aq (i:=4) nd rfl (Or.inr rfl))
   (ad (bO (bE Mr Pi Pj u7 (pv 3) (aa (aI (ix:=[none,none,some 1,some 4]) [".0","sign","cell","filling"] (aC rfl (by decide+kernel) rfl rfl rfl) rfl (aA (pv 2)) (fun cl s H fp=>(aq (i:=1) (show([".0","sign","cell","filling"]:List Str).Nodup by decide+kernel) rfl (Or.inl rfl))) (fun cl s H fp=>aT) (fun cl s H fp=>(kcal Jr hr (aa (pv 3) (aa (pv 2) (aa (pv 1) ab)))))) ab)))))
   (ad (af (pv 3)))))
abbrev o8:Stmt:=top 84
theorem wv{c:RCl RK}{d:RCl PzK}(IR:cz Z)(Jg:lD Z c d)(IV:iH Z c d)(IX:iI Z c)(D:De Z.K "cells_to_try" o8):oN Z c d:=okc Bz D vO bd3 fun hr hu nd=>(ac (au (aj (av hu) (pv 1) aB (ah _)) (ad (af (nJ rfl rfl rfl Bz.list_ Bz.range_ (aa (kcal IR hr (aa (aH Jg hr (by decide) (pv 0)) ab)) ab)))) ak)
   (ad (af (ar iK rfl Bz.sorted_ mF (aa (aH IX hr (by decide) (kix hu (aH IV hr (by decide) (pv 0)) (pv 2))) ab)))))
abbrev o9:Stmt:=mtop 92 0
theorem ww{c:RCl RK}(Jb:jy Z c){f:Addr}(D:Me Z.K "holds" "Unlike.holds" o9 f):Mo Z 2 f ["self","filling"] (mJ Z.K c):=okm D vo bd2 fun hr hu nd=>(ac (kset 2 nd (b4 Jb hr (by decide) (pv 0) (aa (pv 1) ab)))
   (ad (af (aw (av hu) (xQ rfl rfl rfl Bz.len_ Bz.set_ (pv 2)) (ar aG rfl Bz.len_ aP (aa (pv 2) ab)) (ah _)))))
abbrev t4:Stmt:=mtop 93 1
theorem AE{c:RCl RK}(IU:FldK Z.K c "amount")(Jb:jy Z c){f:Addr}(D:Me Z.K "holds" "Sum.holds" t4 f):Mo Z 2 f ["self","filling"] (rj Z.K c):=okm D zT bd2 fun hr hu nd=>(ad (af (aw (av hu) (ar (qQ rfl) rfl Bz.sum_ zw (aa (b4 Jb hr (by decide) (pv 0) (aa (pv 1) ab)) ab)) (bn (pv 0) IU) (ah _))))
abbrev pb:Stmt:=mtop 94 1
theorem wx{c:RCl RK}(Jb:jy Z c){f:Addr}(D:Me Z.K "holds" "Rising.holds" pb f):Mo Z 2 f ["self","filling"] (mN Z.K c):=okm D vE bd2 fun hr hu nd=>(ac (dX (i:=2) nd rfl (Or.inr rfl) (b4 Jb hr (by decide) (pv 0) (aa (pv 1) ab)))
   (ad (af (ar (cM rfl) rfl Bz.all_ iN (aa (aI (ix:=[none,none,some 2]) [".0","place","signs"] (aC rfl (by decide+kernel) rfl rfl rfl) rfl (bK rfl Bz.range_ (aa (ao bP (ar aG rfl Bz.len_ aP (aa (pv 2) ab)) ae) ab)) (fun cl s H fp=>(aq (i:=1) (show([".0","place","signs"]:List Str).Nodup by decide+kernel) rfl (Or.inl rfl))) (fun cl s H fp=>aT) (fun cl s H fp=>(aw b7 (kix hu (pv 2) (pv 1)) (kix hu (pv 2) (ao aE (pv 1) ae)) (ah _)))) ab)))))
abbrev si:Stmt:=mtop 95 1
theorem yP{c:RCl RK}(IU:FldK Z.K c "amount")(Jb:jy Z c){f:Addr}(D:Me Z.K "holds" "Seen.holds" si f):Mo Z 2 f ["self","filling"] (qh Z.K c):=okm D yD bd2 fun hr hu nd=>(ac (kset 2 nd ae)
   (ac (kset 3 nd ae)
   (ac (bc MD rfl (aA (b4 Jb hr (by decide) (pv 0) (aa (pv 1) ab))) (aq (i:=4) nd rfl (Or.inl rfl))
   (ad (au (aj fu (pv 4) (pv 2) (ah _)) (ac (kset 2 nd (pv 4))
   (ad (kset 3 nd (ao aE (pv 3) ae)))) ak)))
   (ad (af (aw (av hu) (pv 3) (bn (pv 0) IU) (ah _)))))))
abbrev qr:Stmt:=mtop 96 0
theorem xy{c:RCl RK}(IU:FldK Z.K c "amount")(Jo:iy Z c){f:Addr}(D:Me Z.K "holds" "Count.holds" qr f):Mo Z 2 f ["self","filling"] (oF Z.K c):=okm D xi bd2 fun hr hu nd=>(ad (af (aw (av hu) (ar aG rfl Bz.len_ aP (aa (b4 Jo hr (by decide) (pv 0) (aa (pv 1) ab)) ab)) (bn (pv 0) IU) (ah _))))
abbrev nc:Stmt:=top 108
theorem uK(Kw:tQ Z)(D:De Z.K "number_within" nc):jx Z:=okc Bz D ug bd3 fun hr hu nd=>(ac (kset 3 nd (kcal Kw hr (aa (pv 0) ab)))
   (ac (au (OI (b9 (aj Da (pv 3) ki (ah _)) (b9 (aj b7 (pv 3) (pv 1) (ah _)) (cE (aj fu (pv 3) (pv 2) (ah _)))))) (ad bG) ak)
   (ad (af (pv 3)))))
abbrev sj:Stmt:=top 118
theorem yQ(IW:gl Z)(IR:cz Z)(D:De Z.K "is_filling" sj):rR Z:=okc Bz D yB bd3 fun hr hu nd=>(ac (au (OI (b9 (bN (aO (ar dF rfl Bz.isinstance_ bL (aa (pv 1) (aa (iz (v:=.ty "list") rfl Bz.list_ df rfl) ab))))) (cE (aj (a8 hu) (ar aG rfl Bz.len_ aP (aa (pv 1) ab)) (kcal IR hr (aa (pv 0) ab)) (ah _))))) (ad (af bF)) ak)
   (ad (af (ar (cM rfl) rfl Bz.all_ iN (aa (aI (ix:=[none,none,some 0,some 2]) [".0","sign","floor","least"] (aC rfl (by decide+kernel) rfl rfl rfl) rfl (aA (pv 1)) (fun cl s H fp=>(aq (i:=1) (show([".0","sign","floor","least"]:List Str).Nodup by decide+kernel) rfl (Or.inl rfl))) (fun cl s H fp=>aT) (fun cl s H fp=>(be (kcal IW hr (aa (pv 1) ab)) (be (aw gF (pv 3) (pv 1) (ah _)) (bq (aw gF (pv 1) (kix hu (pv 2) ae) (ah _))))))) ab)))))
abbrev wy:Stmt:=top 124
theorem Be(Jq:md Z)(D:De Z.K "_law_row" wy):wc Z:=okc Bz D yI bd3 fun hr hu nd=>(ac (kset 3 nd (kix hu (ax (aa aB (aa aB (aa aB (aa aB (aa aB (aa aB (aa aB (aa aB (aa aB ab)))))))))) (ao aU (pv 0) ae)))
   (ac (au (aj (cr hu) (pv 3) (bY (aa aB (aa aB (aa aB ab)))) (by with_unfolding_all rfl)) (ad (af (ao aE (ao aE (pv 3) aB) (bj xP rfl Bz.str_ zt (aa (ao aE ae (ao aU (ao bz (pv 0) ae) (pv 2))) ab))))) ak)
   (ac (kset 4 nd (ft mG (kcal Jq hr (aa (ao bz (pv 0) ae) (aa (pv 1) ab))) lA (d4 (ao aE ae (ao aU (ao bz (pv 0) ae) (pv 1))))))
   (ac (au (aj (cr hu) (pv 3) (bY (aa aB (aa aB ab))) (by with_unfolding_all rfl)) (ad (kset 4 nd (ft mG (pv 4) lA (d4 (pv 2))))) ak)
   (ac (kset 5 nd (ax ab))
   (ac (au (aj (av hu) (pv 3) aB (ah _)) (ad (kset 5 nd (ax (aa (ao aE (ar aG rfl Bz.len_ aP (aa (pv 4) ab)) (ao aU (ao bz (pv 0) ae) (ao aE (ar aG rfl Bz.len_ aP (aa (pv 4) ab)) ae))) ab)))) ak)
   (ac (au (aj (av hu) (pv 3) aB (ah _)) (ad (kset 5 nd (ax (aa (ao aE ae (ao aU (ao bz (pv 0) ae) ae)) ab)))) ak)
   (ac (au (aj (av hu) (pv 3) aB (ah _)) (ad (kset 5 nd (ax (aa (ao aU (ao bz (pv 0) ae) (ao aE (ar aG rfl Bz.len_ aP (aa (pv 4) ab)) ae)) (aa (ao aE ae (ao aU (ao bz (pv 0) ae) (pv 2))) ab))))) ak)
   (ad (af (bE Pw PySem.F.slot_str_join PySem.F.type_str_join DJ aB (aa (ao aE (ax (aa (pv 3) ab)) (aI (ix:=[none,none]) [".0","_law_one_here"] (aC rfl (by decide+kernel) rfl rfl rfl) rfl (aA (ao aE (pv 5) (pv 4))) (fun cl s H fp=>(aq (i:=1) (show([".0","_law_one_here"]:List Str).Nodup by decide+kernel) rfl (Or.inl rfl))) (fun cl s H fp=>aT) (fun cl s H fp=>(bj xP rfl Bz.str_ zt (aa (pv 1) ab))))) ab))))))))))))
abbrev nh:Stmt:=top 126
theorem uL(Kj:rN Z)(D:De Z.K "_law_thoughts" nh):mS Z:=okc Bz D rF bd4 fun hr hu nd=>(ac (kset 4 nd (ax ab))
   (ac (bc MD rfl (aA (pv 0)) (aq (i:=5) nd rfl (Or.inl rfl))
   (ac (kset 6 nd (kcal Kj hr (aa (pv 5) (aa (pv 2) (aa (pv 3) ab)))))
   (ad (bc MD rfl (bK rfl Bz.range_ (aa (kix hu (ax (aa (pv 1) (aa ae ab))) (bj pN rfl Bz.int_ u8 (aa (aw (av hu) (pv 5) aB (ah _)) ab))) ab)) (aq (i:=7) nd rfl (Or.inl rfl))
   (ad (bc MD rfl (bK rfl Bz.range_ (aa (ao bw (pv 2) (pv 3)) ab)) (aq (i:=8) nd rfl (Or.inl rfl))
   (ad (bc MD rfl (aA (pv 6)) (aq (i:=9) nd rfl (Or.inl rfl))
   (ad (bO (bE Mr MK ML bh (pv 4) (aa (bY (aa (pv 5) (aa (pv 7) (aa (ao bz (pv 8) (pv 3)) (aa (ao aE ae (ao aU (pv 8) (pv 3))) (aa (pv 9) ab)))))) ab))))))))))))
   (ad (af (pv 4)))))
abbrev wz:Stmt:=top 12
theorem Bf(IZ:iw Z){t_MOST_CELLS:Tok}(Kk:Z.mg "MOST_CELLS"=some (.int 16 t_MOST_CELLS)){t_MOST_SIDE:Tok}(Kb:Z.mg "MOST_SIDE"=some (.int 6 t_MOST_SIDE)){t_MOST_SIGNS:Tok}(Kl:Z.mg "MOST_SIGNS"=some (.int 6 t_MOST_SIGNS))(D:De Z.K "floor_of" wz):wd Z:=okc Bz D AV bd3 fun hr hu nd=>(ac (au (bN (aO (kcal IZ hr (aa (pv 0) (aa (cg rfl Kb ⟨t_MOST_SIDE,rfl⟩) ab))))) (ad bG) ak)
   (ac (au (bN (aO (kcal IZ hr (aa (pv 1) (aa (cg rfl Kb ⟨t_MOST_SIDE,rfl⟩) ab))))) (ad bG) ak)
   (ac (au (aj fu (ao bw (pv 0) (pv 1)) (cg rfl Kk ⟨t_MOST_CELLS,rfl⟩) (ah _)) (ad bG) ak)
   (ac (au (bN (aO (kcal IZ hr (aa (pv 2) (aa (cg rfl Kl ⟨t_MOST_SIGNS,rfl⟩) ab))))) (ad bG) ak)
   (ad (af (bY (aa (pv 0) (aa (pv 1) (aa (pv 2) ab))))))))))
abbrev yn:Stmt:=top 18
theorem CO(Kx:tR Z)(IR:cz Z)(Ky:tO Z)(D:De Z.K "squares" yn):mT Z:=okc Bz D Cg bd1 fun hr hu nd=>(ad (af (aI (ix:=[none,none,some 0]) [".0","cell","floor"] (aC rfl (by decide+kernel) rfl rfl rfl) rfl (bK rfl Bz.range_ (aa (kcal IR hr (aa (pv 0) ab)) ab)) (fun cl s H fp=>(aq (i:=1) (show([".0","cell","floor"]:List Str).Nodup by decide+kernel) rfl (Or.inl rfl))) (fun cl s H fp=>(ba (aO (kcal Kx hr (aa (pv 2) (aa (pv 1) ab)))))) (fun cl s H fp=>(kcal Ky hr (aa (pv 2) (aa (pv 1) ab)))))))
abbrev yo:Stmt:=top 19
theorem CP(I0:j4 Z)(D:De Z.K "reached" yo):mU Z:=okc Bz D Cq bd3 fun hr hu nd=>(ac (au (aj (cb hu) (pv 2) (pv 1) (by with_unfolding_all rfl)) (ad (af (ax ab))) ak)
   (ac (kset 3 nd (ax (aa (pv 2) ab)))
   (ac (kset 4 nd ae)
   (ac (zc MD (aj b7 (pv 4) (ar aG rfl Bz.len_ aP (aa (pv 3) ab)) (ah _))
   (ac (bc MD rfl (aA (kcal I0 hr (aa (pv 0) (aa (kix hu (pv 3) (pv 4)) ab)))) (aq (i:=5) nd rfl (Or.inl rfl))
   (ad (au (OI (uT (aj (cr hu) (pv 5) (pv 1) (by with_unfolding_all rfl)) (sC (aj (cb hu) (pv 5) (pv 3) (by with_unfolding_all rfl))))) (ad (bO (bE Mr MK ML bh (pv 3) (aa (pv 5) ab)))) ak)))
   (ad (kset 4 nd (ao aE (pv 4) ae)))))
   (ad (af (ar iK rfl Bz.sorted_ mF (aa (pv 3) ab))))))))
abbrev wA:Stmt:=top 24
theorem Bg(JG:rO Z)(D:De Z.K "has_only" wA):dW Z:=okc Bz D AW bd2 fun hr hu nd=>(ad (af (aw (av hu) (kcal JG hr (aa (pv 0) (aa (pv 1) ab))) ae (ah _))))
abbrev AF:Stmt:=top 26
theorem EI(JG:rO Z)(D:De Z.K "struck" AF):uG Z:=okc Bz D El bd3 fun hr hu nd=>(ad (af (aI (ix:=[none,none,none,some 1,some 2]) [".0","place","mask","cell","sign"] (aC rfl (by decide+kernel) rfl rfl rfl) rfl (wU rfl Bz.enumerate_ (aa (pv 0) ab)) (fun cl s H fp=>(qC rfl (cO (aq (i:=1) (show([".0","place","mask","cell","sign"]:List Str).Nodup by decide+kernel) rfl (Or.inl rfl)) (cO (aq (i:=2) (show([".0","place","mask","cell","sign"]:List Str).Nodup by decide+kernel) rfl (Or.inl rfl)) ow)))) (fun cl s H fp=>aT) (fun cl s H fp=>(lE (aj (av hu) (pv 1) (pv 3) (ah _)) (kcal JG hr (aa (pv 2) (aa (pv 4) ab))) (pv 2))))))
abbrev EJ:Stmt:=top 28
theorem GJ(IP:ca Z)(D:De Z.K "ways" EJ):EB Z:=okc Bz D Gr bd1 fun hr hu nd=>(ac (kset 1 nd ae)
   (ac (bc MD rfl (aA (pv 0)) (aq (i:=2) nd rfl (Or.inl rfl))
   (ad (kset 1 nd (ao bw (pv 1) (ar aG rfl Bz.len_ aP (aa (kcal IP hr (aa (pv 2) ab)) ab))))))
   (ad (af (pv 1)))))
abbrev yp:Stmt:=top 33
theorem CQ(IZ:iw Z)(D:De Z.K "is_sign" yp):rS Z:=okc Bz D Ck bd2 fun hr hu nd=>(ad (af (kcal IZ hr (aa (pv 1) (aa (kix hu (pv 0) ae) ab)))))
abbrev pc:Stmt:=top 35
theorem wB{c:RCl RK}{d:RCl PzK}(JH:rQ Z c)(IW:gl Z)(IV:iH Z c d)(IX:iI Z c)(D:De Z.K "has_its_rule" pc):oO Z c d:=okc Bz D vw bd4 fun hr hu nd=>(ac (au (OI (b9 (bN (aO (kcal IW hr (aa (pv 2) ab)))) (cE (aj b7 (pv 2) ae (ah _))))) (ad (af bF)) ak)
   (ac (au (aj (av hu) (pv 1) aB (ah _)) (ad (af (aw (av hu) (pv 2) ae (ah _)))) ak)
   (ac (kset 4 nd (aH IV hr (by decide) (pv 0)))
   (ac (au (aj u6 (pv 2) (ar aG rfl Bz.len_ aP (aa (pv 4) ab)) (ah _)) (ad (af bF)) ak)
   (ad (af (be (kcal JH hr (aa (pv 1) (aa (kix hu (pv 4) (pv 2)) ab))) (bq (aw (cr hu) (pv 3) (aH IX hr (by decide) (kix hu (pv 4) (pv 2))) (by with_unfolding_all rfl))))))))))
abbrev ni:Stmt:=top 48
theorem uM(IP:ca Z)(D:De Z.K "is_no_greater" ni):mV Z:=okc Bz D ut bd2 fun hr hu nd=>(ad (af (ar (cM rfl) rfl Bz.all_ iN (aa (aI (ix:=[none,none,some 0]) [".0","other","sign"] (aC rfl (by decide+kernel) rfl rfl rfl) rfl (aA (kcal IP hr (aa (pv 1) ab))) (fun cl s H fp=>(aq (i:=1) (show([".0","other","sign"]:List Str).Nodup by decide+kernel) rfl (Or.inl rfl))) (fun cl s H fp=>aT) (fun cl s H fp=>(aw gF (pv 2) (pv 1) (ah _)))) ab))))
abbrev sk:Stmt:=top 49
theorem yR(IP:ca Z)(D:De Z.K "is_no_less" sk):rT Z:=okc Bz D yC bd2 fun hr hu nd=>(ad (af (ar (cM rfl) rfl Bz.all_ iN (aa (aI (ix:=[none,none,some 0]) [".0","other","sign"] (aC rfl (by decide+kernel) rfl rfl rfl) rfl (aA (kcal IP hr (aa (pv 1) ab))) (fun cl s H fp=>(aq (i:=1) (show([".0","other","sign"]:List Str).Nodup by decide+kernel) rfl (Or.inl rfl))) (fun cl s H fp=>aT) (fun cl s H fp=>(aw u6 (pv 2) (pv 1) (ah _)))) ab))))
abbrev pf:Stmt:=top 52
theorem wC{c:RCl RK}(Js:jB Z)(IQ:cA Z c)(IP:ca Z)(D:De Z.K "pair_strikes" pf):oP Z c:=okc Bz D vC bd5 fun hr hu nd=>(ac (au (bN (aO (kcal Js hr (aa (kcal IQ hr (aa (pv 0) (aa (pv 2) ab))) (aa (pv 4) ab))))) (ad (af bF)) ak)
   (ac (kset 5 nd (kcal IP hr (aa (ao Hd (kix hu (pv 1) (kix hu (pv 4) ae)) (kix hu (pv 1) (kix hu (pv 4) ae))) ab)))
   (ad (af (aw gF (ar aG rfl Bz.len_ aP (aa (aI (ix:=[none,none,some 3]) [".0","other","sign"] (aC rfl (by decide+kernel) rfl rfl rfl) rfl (aA (pv 5)) (fun cl s H fp=>(aq (i:=1) (show([".0","other","sign"]:List Str).Nodup by decide+kernel) rfl (Or.inl rfl))) (fun cl s H fp=>(ba (aj (a8 hu) (pv 1) (pv 2) (ah _)))) (fun cl s H fp=>(pv 1))) ab)) ae (ah _))))))
abbrev qt:Stmt:=top 58
theorem xz{c:RCl RK}(Je:kn Z)(IS:dU Z)(IQ:cA Z c)(IP:ca Z)(Jv:uH Z c)(D:De Z.K "sum_strikes" qt):qk Z c:=okc Bz D xg bd5 fun hr hu nd=>(ac (au (aj (a8 hu) (pv 4) (ax ab) (ah _)) (ad (af bF)) ak)
   (ac (kset 5 nd (kcal IS hr (aa (pv 1) (aa (kcal IQ hr (aa (pv 0) (aa (pv 2) ab))) ab))))
   (ac (au (aO (kcal Je hr (aa (pv 5) ab))) (ad (af bF)) ak)
   (ac (kset 6 nd (ao aE (pv 3) (ar (qQ rfl) rfl Bz.sum_ zw (aa (aI (ix:=[none,none]) [".0","mask"] (aC rfl (by decide+kernel) rfl rfl rfl) rfl (aA (pv 5)) (fun cl s H fp=>(aq (i:=1) (show([".0","mask"]:List Str).Nodup by decide+kernel) rfl (Or.inl rfl))) (fun cl s H fp=>aT) (fun cl s H fp=>(kix hu (kcal IP hr (aa (pv 1) ab)) ae))) ab))))
   (ac (kset 7 nd (ao aE (pv 3) (ar (qQ rfl) rfl Bz.sum_ zw (aa (aI (ix:=[none,none]) [".0","mask"] (aC rfl (by decide+kernel) rfl rfl rfl) rfl (aA (pv 5)) (fun cl s H fp=>(aq (i:=1) (show([".0","mask"]:List Str).Nodup by decide+kernel) rfl (Or.inl rfl))) (fun cl s H fp=>aT) (fun cl s H fp=>(kix hu (kcal IP hr (aa (pv 1) ab)) (Ib GV ae)))) ab))))
   (ad (af (yY (aw fu (pv 6) (aH Jv hr (by decide) (pv 0)) (ah _)) (bq (aw b7 (pv 7) (aH Jv hr (by decide) (pv 0)) (ah _)))))))))))
abbrev AG:Stmt:=top 68
theorem EK(I0:j4 Z)(D:De Z.K "around" AG):Ar Z:=okc Bz D Eg bd3 fun hr hu nd=>(ad (af (aI (ix:=[none,none,some 2]) [".0","other","cell"] (aC rfl (by decide+kernel) rfl rfl rfl) rfl (aA (kcal I0 hr (aa (pv 0) (aa (pv 1) ab)))) (fun cl s H fp=>(aq (i:=1) (show([".0","other","cell"]:List Str).Nodup by decide+kernel) rfl (Or.inl rfl))) (fun cl s H fp=>(ba (aj (a8 hu) (pv 1) (pv 2) (ah _)))) (fun cl s H fp=>(pv 1)))))
abbrev so:Stmt:=top 79
theorem yS(I0:j4 Z)(D:De Z.K "turn_mores" so):rV Z:=okc Bz D yG bd2 fun hr hu nd=>(ad (af (ao aE (ax (aa (ax ab) ab)) (aI (ix:=[none,none]) [".0","other"] (aC rfl (by decide+kernel) rfl rfl rfl) rfl (aA (kcal I0 hr (aa (pv 0) (aa (pv 1) ab)))) (fun cl s H fp=>(aq (i:=1) (show([".0","other"]:List Str).Nodup by decide+kernel) rfl (Or.inl rfl))) (fun cl s H fp=>aT) (fun cl s H fp=>(ax (aa (pv 1) ab)))))))
abbrev sr:Stmt:=top 80
theorem yT{c:RCl RK}(IQ:cA Z c)(IP:ca Z)(IX:iI Z c)(D:De Z.K "pair_mores" sr):rW Z c:=okc Bz D yH bd3 fun hr hu nd=>(ac (dX (i:=3) nd rfl (Or.inr rfl) (aH IX hr (by decide) (pv 0)))
   (ac (lB (k:=4) nd rfl (Or.inl rfl) rfl (ix:=[none,none,some 1]) [".0","other","masks"] (aC rfl (by decide+kernel) rfl rfl rfl) rfl (aA (ar iK rfl Bz.sorted_ mF (aa (kcal IQ hr (aa (pv 0) (aa (pv 2) ab))) ab))) (fun cl s H fp=>(aq (i:=1) (show([".0","other","masks"]:List Str).Nodup by decide+kernel) rfl (Or.inl rfl))) (fun cl s H fp=>(ba (aj gF (ar aG rfl Bz.len_ aP (aa (kcal IP hr (aa (kix hu (pv 2) (pv 1)) ab)) ab)) ae (ah _)))) (fun cl s H fp=>(pv 1)))
   (ac (kset 5 nd (ax ab))
   (ac (bc MD rfl (aA (pv 4)) (aq (i:=6) nd rfl (Or.inr rfl))
   (ad (bO (bE Mr Pi Pj u7 (pv 5) (aa (aI (ix:=[none,none,some 6,some 3]) [".0","second","first","spots"] (aC rfl (by decide+kernel) rfl rfl rfl) rfl (aA (pv 4)) (fun cl s H fp=>(aq (i:=1) (show([".0","second","first","spots"]:List Str).Nodup by decide+kernel) rfl (Or.inl rfl))) (fun cl s H fp=>(ba (aj b7 (bE Mr Nl Nm (iA hu) (pv 3) (aa (pv 2) ab)) (bE Mr Nl Nm (iA hu) (pv 3) (aa (pv 1) ab)) (ah _)))) (fun cl s H fp=>(ax (aa (pv 2) (aa (pv 1) ab))))) ab)))))
   (ad (af (pv 5)))))))
abbrev ph:Stmt:=top 83
theorem wD{c:RCl RK}{d:RCl PzK}(JH:rQ Z c)(IV:iH Z c d)(D:De Z.K "rule_numbers" ph):oQ Z c d:=okc Bz D vN bd2 fun hr hu nd=>(ac (au (aj (av hu) (pv 1) aB (ah _)) (ad (af (ax (aa ae ab)))) ak)
   (ad (af (aI (ix:=[none,none,none,some 1]) [".0","number","rule","kind"] (aC rfl (by decide+kernel) rfl rfl rfl) rfl (wU rfl Bz.enumerate_ (aa (aH IV hr (by decide) (pv 0)) ab)) (fun cl s H fp=>(qC rfl (cO (aq (i:=1) (show([".0","number","rule","kind"]:List Str).Nodup by decide+kernel) rfl (Or.inl rfl)) (cO (aq (i:=2) (show([".0","number","rule","kind"]:List Str).Nodup by decide+kernel) rfl (Or.inl rfl)) ow)))) (fun cl s H fp=>(ba (aO (kcal JH hr (aa (pv 3) (aa (pv 2) ab)))))) (fun cl s H fp=>(pv 1))))))
abbrev iJ:Stmt:=mtop 99 1
theorem ou{c:RCl RK}(I0:j4 Z)(Ja:FldK Z.K c "floor"){f:Addr}(D:Me Z.K "has_two_beside" "Ring.has_two_beside" iJ f):Mo Z 3 f ["self","cells","cell"] (gO Z.K c):=okm D oe bd3 fun hr hu nd=>(ad (af (aw (av hu) (ar aG rfl Bz.len_ aP (aa (aI (ix:=[none,none,some 1]) [".0","other","cells"] (aC rfl (by decide+kernel) rfl rfl rfl) rfl (aA (kcal I0 hr (aa (bn (pv 0) Ja) (aa (pv 2) ab)))) (fun cl s H fp=>(aq (i:=1) (show([".0","other","cells"]:List Str).Nodup by decide+kernel) rfl (Or.inl rfl))) (fun cl s H fp=>(ba (aj (cr hu) (pv 1) (pv 2) (by with_unfolding_all rfl)))) (fun cl s H fp=>(pv 1))) ab)) ae (ah _))))
abbrev pi:Stmt:=top 109
theorem wE(Jk:jx Z)(D:De Z.K "first_within" pi):oR Z:=okc Bz D vi bd3 fun hr hu nd=>(ac (au (aj (av hu) (pv 0) (ax ab) (ah _)) (ad bG) ak)
   (ad (af (kcal Jk hr (aa (kix hu (pv 0) ae) (aa (pv 1) (aa (pv 2) ab)))))))
abbrev su:Stmt:=top 110
theorem yU(IR:cz Z)(Jk:jx Z)(D:De Z.K "told_cells" su):rX Z:=okc Bz D yz bd2 fun hr hu nd=>(ac (lB (k:=2) nd rfl (Or.inl rfl) rfl (ix:=[none,none,some 0]) [".0","word","floor"] (aC rfl (by decide+kernel) rfl rfl rfl) rfl (aA (pv 1)) (fun cl s H fp=>(aq (i:=1) (show([".0","word","floor"]:List Str).Nodup by decide+kernel) rfl (Or.inl rfl))) (fun cl s H fp=>aT) (fun cl s H fp=>(kcal Jk hr (aa (pv 1) (aa ae (aa (ao bP (kcal IR hr (aa (pv 2) ab)) ae) ab))))))
   (ac (au (aj (av hu) (pv 2) (ax ab) (ah _)) (ad bG) ak)
   (ac (au (aj (a8 hu) (xQ rfl rfl rfl Bz.len_ Bz.set_ (pv 2)) (ar aG rfl Bz.len_ aP (aa (pv 2) ab)) (ah _)) (ad bG) ak)
   (ad (af (pv 2))))))
abbrev yq:Stmt:=top 112
theorem CS{c:RCl RK}(La:aL Z "Count" (c.A .Count) c)(KY:aL Z "Joined" (c.A .Joined) c)(KH:aL Z "NoSquare" (c.A .NoSquare) c)(Lm:aL Z "Ring" (c.A .Ring) c)(KZ:aL Z "Rising" (c.A .Rising) c)(Lo:aL Z "Seen" (c.A .Seen) c)(K_Sum:aL Z "Sum" (c.A .Sum) c)(K0:aL Z "Unlike" (c.A .Unlike) c)(D:De Z.K "rule_by" yq):yc Z c:=okc Bz D Ch bd5 fun hr hu nd=>(ac (kset 5 nd (kix hu (pv 1) ae))
   (ac (au (aj (av hu) (pv 5) aB (ah _)) (ad (af (lj K0 hr (by decide) rfl (aa (pv 0) (aa (pv 1) (aa (pv 2) (aa (pv 3) (aa (pv 4) ab)))))))) ak)
   (ac (au (aj (av hu) (pv 5) aB (ah _)) (ad (af (lj K_Sum hr (by decide) rfl (aa (pv 0) (aa (pv 1) (aa (pv 2) (aa (pv 3) (aa (pv 4) ab)))))))) ak)
   (ac (au (aj (av hu) (pv 5) aB (ah _)) (ad (af (lj KZ hr (by decide) rfl (aa (pv 0) (aa (pv 1) (aa (pv 2) (aa (pv 3) (aa (pv 4) ab)))))))) ak)
   (ac (au (aj (av hu) (pv 5) aB (ah _)) (ad (af (lj Lo hr (by decide) rfl (aa (pv 0) (aa (pv 1) (aa (pv 2) (aa (pv 3) (aa (pv 4) ab)))))))) ak)
   (ac (au (aj (av hu) (pv 5) aB (ah _)) (ad (af (lj La hr (by decide) rfl (aa (pv 0) (aa (pv 1) (aa (pv 2) (aa (pv 3) (aa (pv 4) ab)))))))) ak)
   (ac (au (aj (av hu) (pv 5) aB (ah _)) (ad (af (lj KY hr (by decide) rfl (aa (pv 0) (aa (pv 1) (aa (pv 2) (aa (pv 3) (aa (pv 4) ab)))))))) ak)
   (ac (au (aj (av hu) (pv 5) aB (ah _)) (ad (af (lj KH hr (by decide) rfl (aa (pv 0) (aa (pv 1) (aa (pv 2) (aa (pv 3) (aa (pv 4) ab)))))))) ak)
   (ac (au (aj (av hu) (pv 5) aB (ah _)) (ad (af (lj Lm hr (by decide) rfl (aa (pv 0) (aa (pv 1) (aa (pv 2) (aa (pv 3) (aa (pv 4) ab)))))))) ak)
   (ad bG))))))))))
abbrev nk:Stmt:=top 119
theorem uN(Km:rR Z)(D:De Z.K "checked_clues" nk):mW Z:=okc Bz D ui bd2 fun hr hu nd=>(ac (au (bN (aO (kcal Km hr (aa (pv 0) (aa (pv 1) (aa ae ab)))))) (ad bG) ak)
   (ad (af (bj dH rfl Bz.list_ df (aa (pv 1) ab)))))
abbrev t5:Stmt:=top 36
theorem AH{c:RCl RK}{d:RCl PzK}(JV:oO Z c d)(JI:rP Z)(JJ:rS Z)(IW:gl Z)(Jg:lD Z c d)(Jy:GTup Z.K Z.mg "KINDS" gt_KINDS)(D:De Z.K "is_formed" t5):tS Z c d:=okc Bz D zP bd2 fun hr hu nd=>(ac (au (OI (b9 (bN (aO (ar dF rfl Bz.isinstance_ bL (aa (pv 1) (aa (iz (v:=.ty "tuple") rfl Bz.tuple_ pH rfl) ab))))) (b9 (aj (a8 hu) (ar aG rfl Bz.len_ aP (aa (pv 1) ab)) ae (ah _)) (cE (Bx Jy (kix hu (pv 1) ae) rfl))))) (ad (af bF)) ak)
   (ac (kset 2 nd (aH Jg hr (by decide) (pv 0)))
   (ac (au (OI (b9 (bN (aO (kcal JI hr (aa (pv 2) (aa (kix hu (pv 1) ae) ab))))) (cE (bN (aO (kcal JJ hr (aa (pv 2) (aa (kix hu (pv 1) ae) ab)))))))) (ad (af bF)) ak)
   (ac (au (bN (aO (kcal JV hr (aa (pv 0) (aa (kix hu (pv 1) ae) (aa (kix hu (pv 1) ae) (aa (kix hu (pv 1) ae) ab))))))) (ad (af bF)) ak)
   (ad (af (be (ar dF rfl Bz.isinstance_ bL (aa (kix hu (pv 1) ae) (aa (iz (v:=.ty "list") rfl Bz.list_ df rfl) ab))) (bq (ar (cM rfl) rfl Bz.all_ iN (aa (aI (ix:=[none,none]) [".0","part"] (aC rfl (by decide+kernel) rfl rfl rfl) rfl (aA (kix hu (pv 1) ae)) (fun cl s H fp=>(aq (i:=1) (show([".0","part"]:List Str).Nodup by decide+kernel) rfl (Or.inl rfl))) (fun cl s H fp=>aT) (fun cl s H fp=>(kcal IW hr (aa (pv 1) ab)))) ab))))))))))
abbrev t6:Stmt:=top 39
theorem AI(IT:dW Z)(D:De Z.K "many_only" t6):kg Z:=okc Bz D zR bd2 fun hr hu nd=>(ad (af (ar aG rfl Bz.len_ aP (aa (aI (ix:=[none,none,some 1]) [".0","mask","sign"] (aC rfl (by decide+kernel) rfl rfl rfl) rfl (aA (pv 0)) (fun cl s H fp=>(aq (i:=1) (show([".0","mask","sign"]:List Str).Nodup by decide+kernel) rfl (Or.inl rfl))) (fun cl s H fp=>(ba (aO (kcal IT hr (aa (pv 1) (aa (pv 2) ab)))))) (fun cl s H fp=>(pv 1))) ab))))
abbrev pj:Stmt:=top 44
theorem wF{c:RCl RK}(IT:dW Z)(IQ:cA Z c)(D:De Z.K "only_strikes" pj):oS Z c:=okc Bz D vz bd5 fun hr hu nd=>(ad (af (be (aw (av hu) (ar aG rfl Bz.len_ aP (aa (pv 4) ab)) ae (ah _)) (be (aw (cr hu) (kix hu (pv 4) ae) (kcal IQ hr (aa (pv 0) (aa (pv 2) ab))) (by with_unfolding_all rfl)) (bq (kcal IT hr (aa (kix hu (pv 1) (kix hu (pv 4) ae)) (aa (pv 3) ab))))))))
abbrev np:Stmt:=top 45
theorem uO{c:RCl RK}(JJ:rS Z)(Ji:ly Z)(IS:dU Z)(IQ:cA Z c)(IX:iI Z c)(D:De Z.K "place_strikes" np):mX Z c:=okc Bz D uo bd6 fun hr hu nd=>(ac (au (OI (b9 (aj (a8 hu) (ar aG rfl Bz.len_ aP (aa (aH IX hr (by decide) (pv 1)) ab)) (kix hu (pv 0) ae) (ah _)) (cE (aj (a8 hu) (ar aG rfl Bz.len_ aP (aa (pv 5) ab)) ae (ah _))))) (ad (af bF)) ak)
   (ac (au (OI (b9 (aj (av hu) (kix hu (pv 5) ae) (pv 4) (ah _)) (cE (bN (aO (kcal JJ hr (aa (pv 0) (aa (kix hu (pv 5) ae) ab)))))))) (ad (af bF)) ak)
   (ad (af (aw (av hu) (kcal Ji hr (aa (kcal IS hr (aa (pv 2) (aa (kcal IQ hr (aa (pv 1) (aa (pv 3) ab))) ab))) (aa (kix hu (pv 5) ae) ab))) ae (ah _))))))
abbrev pk:Stmt:=top 50
theorem wG{c:RCl RK}(KI:wa Z c)(K1:Aq Z c)(JM:mV Z)(Kn:rT Z)(D:De Z.K "step_strikes" pk):oT Z c:=okc Bz D vD bd5 fun hr hu nd=>(ac (au (aj (a8 hu) (pv 4) (ax ab) (ah _)) (ad (af bF)) ak)
   (ac (au (aO (ar (qP rfl) rfl Bz.any_ zr (aa (aI (ix:=[none,none,some 1,some 3]) [".0","other","masks","sign"] (aC rfl (by decide+kernel) rfl rfl rfl) rfl (aA (kcal KI hr (aa (pv 0) (aa (pv 2) ab)))) (fun cl s H fp=>(aq (i:=1) (show([".0","other","masks","sign"]:List Str).Nodup by decide+kernel) rfl (Or.inl rfl))) (fun cl s H fp=>aT) (fun cl s H fp=>(kcal JM hr (aa (pv 3) (aa (kix hu (pv 2) (pv 1)) ab))))) ab))) (ad (af bF)) ak)
   (ad (af (ar (qP rfl) rfl Bz.any_ zr (aa (aI (ix:=[none,none,some 1,some 3]) [".0","other","masks","sign"] (aC rfl (by decide+kernel) rfl rfl rfl) rfl (aA (kcal K1 hr (aa (pv 0) (aa (pv 2) ab)))) (fun cl s H fp=>(aq (i:=1) (show([".0","other","masks","sign"]:List Str).Nodup by decide+kernel) rfl (Or.inl rfl))) (fun cl s H fp=>aT) (fun cl s H fp=>(kcal Kn hr (aa (pv 3) (aa (kix hu (pv 2) (pv 1)) ab))))) ab))))))
abbrev mw:Stmt:=top 64
theorem tq(Jn:mT Z)(D:De Z.K "rest_of_square" mw):mf Z:=okc Bz D sR bd3 fun hr hu nd=>(ac (bc MD rfl (aA (kcal Jn hr (aa (pv 0) ab))) (aq (i:=3) nd rfl (Or.inl rfl))
   (ad (au (OI (uT (aj (av hu) (kix hu (pv 3) ae) (pv 1) (ah _)) (sC (aj (cr hu) (pv 2) (pv 3) (by with_unfolding_all rfl))))) (ad (af (aI (ix:=[none,none,some 2]) [".0","other","cell"] (aC rfl (by decide+kernel) rfl rfl rfl) rfl (aA (pv 3)) (fun cl s H fp=>(aq (i:=1) (show([".0","other","cell"]:List Str).Nodup by decide+kernel) rfl (Or.inl rfl))) (fun cl s H fp=>(ba (aj (a8 hu) (pv 1) (pv 2) (ah _)))) (fun cl s H fp=>(pv 1))))) ak)))
   (ad (af (ax ab))))
abbrev gR:Stmt:=top 66
theorem mD(IT:dW Z)(JI:rP Z)(D:De Z.K "is_another_with_only" gR):gQ Z:=okc Bz D mC bd5 fun hr hu nd=>(ad (af (be (kcal JI hr (aa (pv 0) (aa (pv 3) ab))) (be (aw (a8 hu) (pv 3) (pv 2) (ah _)) (bq (kcal IT hr (aa (kix hu (pv 1) (pv 3)) (aa (pv 4) ab))))))))
abbrev sw:Stmt:=top 75
theorem yV{c:RCl RK}(IT:dW Z)(IQ:cA Z c)(D:De Z.K "only_mores" sw):rY Z c:=okc Bz D yF bd4 fun hr hu nd=>(ad (af (aI (ix:=[none,none,some 1,some 3]) [".0","other","masks","sign"] (aC rfl (by decide+kernel) rfl rfl rfl) rfl (aA (ar iK rfl Bz.sorted_ mF (aa (kcal IQ hr (aa (pv 0) (aa (pv 2) ab))) ab))) (fun cl s H fp=>(aq (i:=1) (show([".0","other","masks","sign"]:List Str).Nodup by decide+kernel) rfl (Or.inl rfl))) (fun cl s H fp=>(ba (aO (kcal IT hr (aa (kix hu (pv 2) (pv 1)) (aa (pv 3) ab)))))) (fun cl s H fp=>(ax (aa (pv 1) ab))))))
abbrev pp:Stmt:=top 77
theorem wH(Jn:mT Z)(D:De Z.K "square_mores" pp):oU Z:=okc Bz D vL bd2 fun hr hu nd=>(ad (af (aI (ix:=[none,none,some 1]) [".0","square","cell"] (aC rfl (by decide+kernel) rfl rfl rfl) rfl (aA (kcal Jn hr (aa (pv 0) ab))) (fun cl s H fp=>(aq (i:=1) (show([".0","square","cell"]:List Str).Nodup by decide+kernel) rfl (Or.inl rfl))) (fun cl s H fp=>(ba (aj (cr hu) (pv 2) (pv 1) (by with_unfolding_all rfl)))) (fun cl s H fp=>(ax (aa (kix hu (pv 1) ae) ab))))))
abbrev qu:Stmt:=top 78
theorem xA{c:RCl RK}(IT:dW Z)(IQ:cA Z c)(Jf:mU Z)(Jc:j3 Z)(Jl:oY Z c)(D:De Z.K "reach_mores" qu):ql Z c:=okc Bz D xn bd5 fun hr hu nd=>(ac (dX (i:=5) nd rfl (Or.inr rfl) (aH Jl hr (by decide) (pv 1)))
   (ac (dX (i:=6) nd rfl (Or.inr rfl) (aI (ix:=[none,none,some 5,some 2]) [".0","other","mark","masks"] (aC rfl (by decide+kernel) rfl rfl rfl) rfl (aA (kcal IQ hr (aa (pv 1) (aa (pv 3) ab)))) (fun cl s H fp=>(aq (i:=1) (show([".0","other","mark","masks"]:List Str).Nodup by decide+kernel) rfl (Or.inl rfl))) (fun cl s H fp=>(ba (aO (kcal IT hr (aa (kix hu (pv 3) (pv 1)) (aa (pv 2) ab)))))) (fun cl s H fp=>(pv 1))))
   (ac (lB (k:=7) nd rfl (Or.inl rfl) rfl (ix:=[none,none,some 5,some 2]) [".0","other","mark","masks"] (aC rfl (by decide+kernel) rfl rfl rfl) rfl (aA (kcal IQ hr (aa (pv 1) (aa (pv 3) ab)))) (fun cl s H fp=>(aq (i:=1) (show([".0","other","mark","masks"]:List Str).Nodup by decide+kernel) rfl (Or.inl rfl))) (fun cl s H fp=>(ba (aO (kcal Jc hr (aa (kix hu (pv 3) (pv 1)) (aa (pv 2) ab)))))) (fun cl s H fp=>(pv 1)))
   (ac (au (aj (av hu) (pv 4) (pv 5) (ah _)) (ac (dX (i:=8) nd rfl (Or.inr rfl) (kcal Jf hr (aa (pv 0) (aa (ao aE (pv 7) (ax (aa (pv 3) ab))) (aa (pv 3) ab)))))
   (ad (af (aI (ix:=[none,none,some 8]) [".0","other","joined"] (aC rfl (by decide+kernel) rfl rfl rfl) rfl (aA (pv 6)) (fun cl s H fp=>(aq (i:=1) (show([".0","other","joined"]:List Str).Nodup by decide+kernel) rfl (Or.inl rfl))) (fun cl s H fp=>(ba (aj (cb hu) (pv 1) (pv 2) (by with_unfolding_all rfl)))) (fun cl s H fp=>(ax (aa (pv 1) ab))))))) ak)
   (ac (dX (i:=8) nd rfl (Or.inr rfl) (lE (aj (a8 hu) (pv 6) (ax ab) (ah _)) (kcal Jf hr (aa (pv 0) (aa (pv 7) (aa (kix hu (pv 6) ae) ab)))) (ax ab)))
   (ad (af (aI (ix:=[none,none,some 8,some 6]) [".0","other","joined","sure"] (aC rfl (by decide+kernel) rfl rfl rfl) rfl (aA (pv 6)) (fun cl s H fp=>(aq (i:=1) (show([".0","other","joined","sure"]:List Str).Nodup by decide+kernel) rfl (Or.inl rfl))) (fun cl s H fp=>(ba (aj (cb hu) (pv 1) (pv 2) (by with_unfolding_all rfl)))) (fun cl s H fp=>(ax (aa (kix hu (pv 3) ae) (aa (pv 1) ab))))))))))))
abbrev ko:Stmt:=mtop 97 1
theorem jF{c:RCl RK}(Jf:mU Z)(Ja:FldK Z.K c "floor"){f:Addr}(D:Me Z.K "is_joined" "Joined.is_joined" ko f):Mo Z 4 f ["self","cells"] (jA Z.K c):=okm D qy bd2 fun hr hu nd=>(ad (af (yY (aw (av hu) (pv 1) (ax ab) (ah _)) (bq (aw (av hu) (kcal Jf hr (aa (bn (pv 0) Ja) (aa (pv 1) (aa (kix hu (pv 1) ae) ab)))) (pv 1) (ah _))))))
abbrev my:Stmt:=mtop 98 0
theorem tu{c:RCl RK}(Kz:tP Z)(Jn:mT Z)(Ja:FldK Z.K c "floor")(Jo:iy Z c){f:Addr}(D:Me Z.K "holds" "NoSquare.holds" my f):Mo Z 4 f ["self","filling"] (kS Z.K c):=okm D sW bd2 fun hr hu nd=>(ac (dX (i:=2) nd rfl (Or.inr rfl) (b4 Jo hr (by decide) (pv 0) (aa (pv 1) ab)))
   (ad (af (CZ (ar (qP rfl) rfl Bz.any_ zr (aa (aI (ix:=[none,none,some 2]) [".0","square","cells"] (aC rfl (by decide+kernel) rfl rfl rfl) rfl (aA (kcal Jn hr (aa (bn (pv 0) Ja) ab))) (fun cl s H fp=>(aq (i:=1) (show([".0","square","cells"]:List Str).Nodup by decide+kernel) rfl (Or.inl rfl))) (fun cl s H fp=>aT) (fun cl s H fp=>(kcal Kz hr (aa (pv 1) (aa (pv 2) ab))))) ab))))))
abbrev wI:Stmt:=top 111
theorem Bh(IR:cz Z)(Ko:rX Z)(JW:GTup Z.K Z.mg "OF_ALL_CELLS" fj)(D:De Z.K "cells_of" wI):we Z:=okc Bz D AR bd3 fun hr hu nd=>(ac (au (Bx JW (pv 1) rfl) (ad (af (kcal Ko hr (aa (pv 0) (aa (pv 2) ab))))) ak)
   (ac (au (aj (a8 hu) (pv 2) (ax ab) (ah _)) (ad bG) ak)
   (ad (af (nJ rfl rfl rfl Bz.list_ Bz.range_ (aa (kcal IR hr (aa (pv 0) ab)) ab))))))
abbrev nt:Stmt:=top 116
theorem uP(KJ:wd Z)(D:De Z.K "checked_floor" nt):mY Z:=okc Bz D uh bd1 fun hr hu nd=>(ac (au (OI (b9 (bN (aO (ar dF rfl Bz.isinstance_ bL (aa (pv 0) (aa (iz (v:=.ty "tuple") rfl Bz.tuple_ pH rfl) ab))))) (cE (aj (a8 hu) (ar aG rfl Bz.len_ aP (aa (pv 0) ab)) ae (ah _))))) (ad bG) ak)
   (ad (af (kcal KJ hr (aa (kix hu (pv 0) ae) (aa (kix hu (pv 0) ae) (aa (kix hu (pv 0) ae) ab)))))))
abbrev kX:Stmt:=top 53
theorem sx{c:RCl RK}{d:RCl PzK}(JX:oK Z)(JY:oS Z c)(JZ:oP Z c)(JN:mX Z c)(J0:oT Z c)(Lb:BV Z c d)(Jg:lD Z c d)(IV:iH Z c d)(D:De Z.K "strikes_by_line" kX):kU Z c d:=okc Bz D qB bd3 fun hr hu nd=>(ac (kset 3 nd (kix hu (pv 2) ae))
   (ac (kset 4 nd (kix hu (pv 2) ae))
   (ac (kset 5 nd (kix hu (pv 2) ae))
   (ac (kset 6 nd (kix hu (pv 2) ae))
   (ac (au (aj (av hu) (pv 3) aB (ah _)) (ad (af (kcal JX hr (aa (aH Lb hr (by decide) (pv 0)) (aa (pv 4) (aa (pv 5) (aa (pv 6) ab))))))) ak)
   (ac (kset 7 nd (kix hu (aH IV hr (by decide) (pv 0)) (kix hu (pv 2) ae)))
   (ac (au (aj (av hu) (pv 3) aB (ah _)) (ad (af (kcal JY hr (aa (pv 7) (aa (pv 1) (aa (pv 4) (aa (pv 5) (aa (pv 6) ab)))))))) ak)
   (ac (au (aj (av hu) (pv 3) aB (ah _)) (ad (af (kcal JN hr (aa (aH Jg hr (by decide) (pv 0)) (aa (pv 7) (aa (pv 1) (aa (pv 4) (aa (pv 5) (aa (pv 6) ab))))))))) ak)
   (ac (au (aj (av hu) (pv 3) aB (ah _)) (ad (af (kcal J0 hr (aa (pv 7) (aa (pv 1) (aa (pv 4) (aa (pv 5) (aa (pv 6) ab)))))))) ak)
   (ad (af (kcal JZ hr (aa (pv 7) (aa (pv 1) (aa (pv 4) (aa (pv 5) (aa (pv 6) ab)))))))))))))))))
abbrev nv:Stmt:=top 57
theorem uQ{c:RCl RK}(Ji:ly Z)(Jd:kg Z)(IS:dU Z)(IQ:cA Z c)(Jv:uH Z c)(Jl:oY Z c)(D:De Z.K "count_strikes" nv):mZ Z c:=okc Bz D uq bd5 fun hr hu nd=>(ac (au (aj (a8 hu) (pv 4) (ax ab) (ah _)) (ad (af bF)) ak)
   (ac (kset 5 nd (kcal IS hr (aa (pv 1) (aa (kcal IQ hr (aa (pv 0) (aa (pv 2) ab))) ab))))
   (ac (au (aj (av hu) (pv 3) (aH Jl hr (by decide) (pv 0)) (ah _)) (ad (af (aw u6 (kcal Jd hr (aa (pv 5) (aa (pv 3) ab))) (aH Jv hr (by decide) (pv 0)) (ah _)))) ak)
   (ad (af (aw b7 (kcal Ji hr (aa (pv 5) (aa (aH Jl hr (by decide) (pv 0)) ab))) (aH Jv hr (by decide) (pv 0)) (ah _)))))))
abbrev mB:Stmt:=top 65
theorem tw{c:RCl RK}(Jd:kg Z)(IS:dU Z)(JB:mf Z)(Jl:oY Z c)(D:De Z.K "square_strikes" mB):mh Z c:=okc Bz D sS bd6 fun hr hu nd=>(ac (au (OI (b9 (aj (a8 hu) (pv 4) (aH Jl hr (by decide) (pv 1)) (ah _)) (cE (aj (a8 hu) (ar aG rfl Bz.len_ aP (aa (pv 5) ab)) ae (ah _))))) (ad (af bF)) ak)
   (ac (kset 6 nd (kcal JB hr (aa (pv 0) (aa (kix hu (pv 5) ae) (aa (pv 3) ab)))))
   (ad (af (be (aw (a8 hu) (pv 6) (ax ab) (ah _)) (bq (aw (av hu) (kcal Jd hr (aa (kcal IS hr (aa (pv 2) (aa (pv 6) ab))) (aa (pv 4) ab))) (ar aG rfl Bz.len_ aP (aa (pv 6) ab)) (ah _))))))))
abbrev nD:Stmt:=top 67
theorem uR{c:RCl RK}(Jp:gQ Z)(IQ:cA Z c)(Jf:mU Z)(Jc:j3 Z)(Jl:oY Z c)(D:De Z.K "reach_strikes" nD):m3 Z c:=okc Bz D uv bd6 fun hr hu nd=>(ac (dX (i:=6) nd rfl (Or.inr rfl) (aH Jl hr (by decide) (pv 1)))
   (ac (au (bN (aO (ar (cM rfl) rfl Bz.all_ iN (aa (aI (ix:=[none,none,some 3,some 0,some 6,some 2]) [".0","other","cell","floor","mark","masks"] (aC rfl (by decide+kernel) rfl rfl rfl) rfl (aA (pv 5)) (fun cl s H fp=>(aq (i:=1) (show([".0","other","cell","floor","mark","masks"]:List Str).Nodup by decide+kernel) rfl (Or.inl rfl))) (fun cl s H fp=>aT) (fun cl s H fp=>(kcal Jp hr (aa (pv 3) (aa (pv 5) (aa (pv 2) (aa (pv 1) (aa (pv 4) ab)))))))) ab)))) (ad (af bF)) ak)
   (ac (lB (k:=7) nd rfl (Or.inl rfl) rfl (ix:=[none,none,some 6,some 2]) [".0","other","mark","masks"] (aC rfl (by decide+kernel) rfl rfl rfl) rfl (aA (kcal IQ hr (aa (pv 1) (aa (pv 3) ab)))) (fun cl s H fp=>(aq (i:=1) (show([".0","other","mark","masks"]:List Str).Nodup by decide+kernel) rfl (Or.inl rfl))) (fun cl s H fp=>(ba (aO (kcal Jc hr (aa (kix hu (pv 3) (pv 1)) (aa (pv 2) ab)))))) (fun cl s H fp=>(pv 1)))
   (ac (au (aj (av hu) (pv 4) (pv 6) (ah _)) (ad (af (be (aw (av hu) (ar aG rfl Bz.len_ aP (aa (pv 5) ab)) ae (ah _)) (bq (aw (cb hu) (kix hu (pv 5) ae) (kcal Jf hr (aa (pv 0) (aa (ao aE (pv 7) (ax (aa (pv 3) ab))) (aa (pv 3) ab)))) (by with_unfolding_all rfl)))))) ak)
   (ac (au (OI (b9 (aj (a8 hu) (ar aG rfl Bz.len_ aP (aa (pv 5) ab)) ae (ah _)) (cE (aj (av hu) (kix hu (pv 5) ae) (kix hu (pv 5) ae) (ah _))))) (ad (af bF)) ak)
   (ad (af (aw (cb hu) (kix hu (pv 5) ae) (kcal Jf hr (aa (pv 0) (aa (pv 7) (aa (kix hu (pv 5) ae) ab)))) (by with_unfolding_all rfl)))))))))
abbrev pq:Stmt:=top 69
theorem wJ{c:RCl RK}(K2:Ar Z)(I0:j4 Z)(IT:dW Z)(Ji:ly Z)(Jd:kg Z)(IS:dU Z)(Jl:oY Z c)(D:De Z.K "turn_strikes" pq):oV Z c:=okc Bz D vK bd6 fun hr hu nd=>(ac (kset 6 nd (aH Jl hr (by decide) (pv 1)))
   (ac (au (aj (av hu) (pv 5) (ax ab) (ah _)) (ac (kset 7 nd (kcal IS hr (aa (pv 2) (aa (kcal I0 hr (aa (pv 0) (aa (pv 3) ab))) ab))))
   (ad (af (be (aw (av hu) (pv 4) (pv 6) (ah _)) (bq (yY (aw b7 (kcal Ji hr (aa (pv 7) (aa (pv 6) ab))) ae (ah _)) (bq (aw fu (kcal Jd hr (aa (pv 7) (aa (pv 6) ab))) ae (ah _))))))))) ak)
   (ac (au (OI (b9 (aj (a8 hu) (ar aG rfl Bz.len_ aP (aa (pv 5) ab)) ae (ah _)) (b9 (aj (cb hu) (kix hu (pv 5) ae) (kcal I0 hr (aa (pv 0) (aa (pv 3) ab))) (by with_unfolding_all rfl)) (cE (bN (aO (kcal IT hr (aa (kix hu (pv 2) (kix hu (pv 5) ae)) (aa (pv 6) ab))))))))) (ad (af bF)) ak)
   (ac (kset 7 nd (kcal IS hr (aa (pv 2) (aa (kcal K2 hr (aa (pv 0) (aa (kix hu (pv 5) ae) (aa (pv 3) ab)))) ab))))
   (ac (au (aj (av hu) (pv 4) (pv 6) (ah _)) (ad (af (aw u6 (kcal Jd hr (aa (pv 7) (aa (pv 6) ab))) ae (ah _)))) ak)
   (ad (af (aw b7 (kcal Ji hr (aa (pv 7) (aa (pv 6) ab))) ae (ah _)))))))))
abbrev px:Stmt:=top 81
theorem wK{c:RCl RK}{d:RCl PzK}(Kp:rY Z c)(Kq:rW Z c)(Kc:qj Z)(Ke:ql Z c)(J3:oU Z)(Kr:rV Z)(Jg:lD Z c d)(IV:iH Z c d)(D:De Z.K "mores_to_try" px):oW Z c d:=okc Bz D vM bd6 fun hr hu nd=>(ac (kset 6 nd (aH Jg hr (by decide) (pv 0)))
   (ac (au (aj (av hu) (pv 2) aB (ah _)) (ad (af (kcal Kc hr (aa (pv 6) (aa (pv 5) ab))))) ak)
   (ac (au (aj (av hu) (pv 2) aB (ah _)) (ad (af (kcal J3 hr (aa (pv 6) (aa (pv 4) ab))))) ak)
   (ac (au (aj (av hu) (pv 2) aB (ah _)) (ad (af (kcal Kr hr (aa (pv 6) (aa (pv 4) ab))))) ak)
   (ac (au (aj (av hu) (pv 2) aB (ah _)) (ad (af (kcal Kp hr (aa (kix hu (aH IV hr (by decide) (pv 0)) (pv 3)) (aa (pv 1) (aa (pv 4) (aa (pv 5) ab))))))) ak)
   (ac (au (aj (av hu) (pv 2) aB (ah _)) (ad (af (kcal Ke hr (aa (pv 6) (aa (kix hu (aH IV hr (by decide) (pv 0)) (pv 3)) (aa (pv 1) (aa (pv 4) (aa (pv 5) ab)))))))) ak)
   (ac (au (aj (av hu) (pv 2) aB (ah _)) (ad (af (kcal Kq hr (aa (kix hu (aH IV hr (by decide) (pv 0)) (pv 3)) (aa (pv 1) (aa (pv 4) ab)))))) ak)
   (ad (af (ax (aa (ax ab) ab)))))))))))
abbrev pA:Stmt:=mtop 97 0
theorem wL{c:RCl RK}(KA:kh Z c)(Jo:iy Z c){f:Addr}(D:Me Z.K "holds" "Joined.holds" pA f):Mo Z 5 f ["self","filling"] (mO Z.K c):=okm D vF bd2 fun hr hu nd=>(ad (af (b4 KA hr (by decide) (pv 0) (aa (b4 Jo hr (by decide) (pv 0) (aa (pv 1) ab)) ab))))
abbrev sy:Stmt:=mtop 99 0
theorem yW{c:RCl RK}(K3:mj Z c)(KA:kh Z c)(Jo:iy Z c){f:Addr}(D:Me Z.K "holds" "Ring.holds" sy f):Mo Z 5 f ["self","filling"] (qi Z.K c):=okm D yE bd2 fun hr hu nd=>(ac (dX (i:=2) nd rfl (Or.inr rfl) (b4 Jo hr (by decide) (pv 0) (aa (pv 1) ab)))
   (ad (af (be (b4 KA hr (by decide) (pv 0) (aa (pv 2) ab)) (bq (ar (cM rfl) rfl Bz.all_ iN (aa (aI (ix:=[none,none,some 2,some 0]) [".0","cell","cells","self"] (aC rfl (by decide+kernel) rfl rfl rfl) rfl (aA (pv 2)) (fun cl s H fp=>(aq (i:=1) (show([".0","cell","cells","self"]:List Str).Nodup by decide+kernel) rfl (Or.inl rfl))) (fun cl s H fp=>aT) (fun cl s H fp=>(b4 K3 hr (by decide) (pv 3) (aa (pv 2) (aa (pv 1) ab))))) ab)))))))
abbrev t7:Stmt:=top 113
theorem AJ{c:RCl RK}(KK:we Z)(Jz:oR Z)(KP:yc Z c){t_MOST_NUMBER:Tok}(Kf:Z.mg "MOST_NUMBER"=some (.int 99 t_MOST_NUMBER))(Kg:GTup Z.K Z.mg "WITH_NUMBER" gj)(KB:GTup Z.K Z.mg "WITH_SIGN" fw)(D:De Z.K "read_rule" t7):tT Z c:=okc Bz D zO bd2 fun hr hu nd=>(ac (au (bN (aO (ar dF rfl Bz.isinstance_ bL (aa (pv 1) (aa (iz (v:=.ty "str") rfl Bz.str_ zt rfl) ab))))) (ad bG) ak)
   (ac (kset 2 nd (bE Pw PySem.F.slot_str_split PySem.F.type_str_split Dw (pv 1) (aa aB ab)))
   (ac (kset 3 nd (kix hu (pv 2) ae))
   (ac (kset 4 nd (ft mG (pv 2) (d4 ae) lA))
   (ac (kset 5 nd ae)
   (ac (kset 6 nd ae)
   (ac (au (vp Kg (pv 3) rfl) (ac (kset 5 nd (kcal Jz hr (aa (pv 4) (aa ae (aa (cg rfl Kf ⟨t_MOST_NUMBER,rfl⟩) ab)))))
   (ad (kset 4 nd (ft mG (pv 4) (d4 ae) lA)))) ak)
   (ac (au (vp KB (pv 3) rfl) (ac (kset 6 nd (kcal Jz hr (aa (pv 4) (aa ae (aa (kix hu (pv 0) ae) ab)))))
   (ad (kset 4 nd (ft mG (pv 4) (d4 ae) lA)))) ak)
   (ad (af (kcal KP hr (aa (pv 0) (aa (pv 2) (aa (kcal KK hr (aa (pv 0) (aa (pv 3) (aa (pv 4) ab)))) (aa (pv 5) (aa (pv 6) ab))))))))))))))))
abbrev pB:Stmt:=top 61
theorem wM{c:RCl RK}(Je:kn Z)(IS:dU Z)(IQ:cA Z c)(IP:ca Z)(Lp:EB Z)(JC:me Z)(Jr:ot Z){t_MOST_WAYS:Tok}(KC:Z.mg "MOST_WAYS"=some (.int 32 t_MOST_WAYS))(Lc:BW Z c)(D:De Z.K "ways_strikes" pB):oX Z c:=okc Bz D vH bd5 fun hr hu nd=>(ac (kset 5 nd (kcal IQ hr (aa (pv 0) (aa (pv 2) ab))))
   (ac (kset 6 nd (kcal IS hr (aa (pv 1) (aa (pv 5) ab))))
   (ac (au (OI (b9 (aj (a8 hu) (pv 4) (ax ab) (ah _)) (cE (aj fu (kcal Lp hr (aa (pv 6) ab)) (cg rfl KC ⟨t_MOST_WAYS,rfl⟩) (ah _))))) (ad (af bF)) ak)
   (ac (au (aO (kcal Je hr (aa (pv 6) ab))) (ad (af bF)) ak)
   (ac (kset 7 nd (ax (aa (kcal Jr hr (aa (ao EX (ax (aa ae ab)) (ar aG rfl Bz.len_ aP (aa (pv 1) ab))) (aa (pv 2) (aa (pv 3) ab)))) ab)))
   (ac (bc MD rfl (aA (pv 5)) (aq (i:=8) nd rfl (Or.inl rfl))
   (ad (kset 7 nd (kcal JC hr (aa (pv 7) (aa (pv 8) (aa (kcal IP hr (aa (kix hu (pv 1) (pv 8)) ab)) ab)))))))
   (ac (bc MD rfl (aA (pv 7)) (aq (i:=9) nd rfl (Or.inl rfl))
   (ad (au (aO (b4 Lc hr (by decide) (pv 0) (aa (pv 9) ab))) (ad (af bF)) ak)))
   (ad (af bF)))))))))
abbrev jG:Stmt:=top 70
theorem qc{c:RCl RK}{d:RCl PzK}(JO:m3 Z c)(JD:mh Z c)(J4:oV Z c)(Jg:lD Z c d)(IV:iH Z c d)(D:De Z.K "strikes_by_region" jG):jC Z c d:=okc Bz D og bd3 fun hr hu nd=>(ac (kset 3 nd (aH Jg hr (by decide) (pv 0)))
   (ac (kset 4 nd (kix hu (aH IV hr (by decide) (pv 0)) (kix hu (pv 2) ae)))
   (ac (au (aj (av hu) (kix hu (pv 2) ae) aB (ah _)) (ad (af (kcal JD hr (aa (pv 3) (aa (pv 4) (aa (pv 1) (aa (kix hu (pv 2) ae) (aa (kix hu (pv 2) ae) (aa (kix hu (pv 2) ae) ab))))))))) ak)
   (ac (au (aj (av hu) (kix hu (pv 2) ae) aB (ah _)) (ad (af (kcal JO hr (aa (pv 3) (aa (pv 4) (aa (pv 1) (aa (kix hu (pv 2) ae) (aa (kix hu (pv 2) ae) (aa (kix hu (pv 2) ae) ab))))))))) ak)
   (ad (af (kcal J4 hr (aa (pv 3) (aa (pv 4) (aa (pv 1) (aa (kix hu (pv 2) ae) (aa (kix hu (pv 2) ae) (aa (kix hu (pv 2) ae) ab)))))))))))))
abbrev sA:Stmt:=top 117
theorem yX{c:RCl RK}(KD:tT Z c){t_MOST_RULES:Tok}(Ks:Z.mg "MOST_RULES"=some (.int 12 t_MOST_RULES))(D:De Z.K "read_rules" sA):rZ Z c:=okc Bz D yA bd2 fun hr hu nd=>(ac (au (aj fu (ar aG rfl Bz.len_ aP (aa (pv 1) ab)) (cg rfl Ks ⟨t_MOST_RULES,rfl⟩) (ah _)) (ad bG) ak)
   (ad (af (aI (ix:=[none,none,some 0]) [".0","line","floor"] (aC rfl (by decide+kernel) rfl rfl rfl) rfl (aA (pv 1)) (fun cl s H fp=>(aq (i:=1) (show([".0","line","floor"]:List Str).Nodup by decide+kernel) rfl (Or.inl rfl))) (fun cl s H fp=>aT) (fun cl s H fp=>(kcal KD hr (aa (pv 2) (aa (pv 1) ab))))))))
abbrev jH:Stmt:=top 62
theorem qd{c:RCl RK}{d:RCl PzK}(JP:mZ Z c)(Kh:qk Z c)(J5:oX Z c)(IV:iH Z c d)(D:De Z.K "strikes_by_number" jH):jD Z c d:=okc Bz D oh bd3 fun hr hu nd=>(ac (kset 3 nd (kix hu (aH IV hr (by decide) (pv 0)) (kix hu (pv 2) ae)))
   (ac (au (aj (av hu) (kix hu (pv 2) ae) aB (ah _)) (ad (af (kcal JP hr (aa (pv 3) (aa (pv 1) (aa (kix hu (pv 2) ae) (aa (kix hu (pv 2) ae) (aa (kix hu (pv 2) ae) ab)))))))) ak)
   (ac (au (aj (av hu) (kix hu (pv 2) ae) aB (ah _)) (ad (af (kcal Kh hr (aa (pv 3) (aa (pv 1) (aa (kix hu (pv 2) ae) (aa (kix hu (pv 2) ae) (aa (kix hu (pv 2) ae) ab)))))))) ak)
   (ad (af (kcal J5 hr (aa (pv 3) (aa (pv 1) (aa (kix hu (pv 2) ae) (aa (kix hu (pv 2) ae) (aa (kix hu (pv 2) ae) ab)))))))))))
abbrev kY:Stmt:=mtop 120 0
theorem sB{c:RCl RK}{d:RCl PzK}(JQ:mW Z)(JR:mY Z)(Kt:rZ Z c)(Jm:FldK Z.K d "floor")(Jx:FldK Z.K d "given")(JE:FldK Z.K d "laws"){f:Addr}(D:Me Z.K "__init__" "Puzzle.__init__" kY f):Mo Z 7 f ["self","floor","lines","clues"] (bZ Z.K c d):=okm D qZ bd4 fun hr hu nd=>(ac (iB (pv 0) (kcal JR hr (aa (pv 1) ab)) Jm)
   (ac (iB (pv 0) (kcal Kt hr (aa (bn (pv 0) Jm) (aa (pv 2) ab))) JE)
   (ad (iB (pv 0) (kcal JQ hr (aa (bn (pv 0) Jm) (aa (pv 3) ab))) Jx))))
abbrev yr:Stmt:=top 72
theorem CT{c:RCl RK}{d:RCl PzK}(JA:kU Z c d)(Jt:jD Z c d)(Ju:jC Z c d)(Ku:GTup Z.K Z.mg "LINE_KINDS" gU)(J6:GTup Z.K Z.mg "NUMBER_KINDS" fm)(D:De Z.K "strikes" yr):r8 Z c d:=okc Bz D A1 bd3 fun hr hu nd=>(ac (au (vp Ku (kix hu (pv 2) ae) rfl) (ad (af (kcal JA hr (aa (pv 0) (aa (pv 1) (aa (pv 2) ab)))))) ak)
   (ac (au (vp J6 (kix hu (pv 2) ae) rfl) (ad (af (kcal Jt hr (aa (pv 0) (aa (pv 1) (aa (pv 2) ab)))))) ak)
   (ad (af (kcal Ju hr (aa (pv 0) (aa (pv 1) (aa (pv 2) ab))))))))
abbrev yt:Stmt:=top 73
theorem CU{c:RCl RK}{d:RCl PzK}(KF:tS Z c d)(JK:r8 Z c d)(D:De Z.K "allowed" yt):yd Z c d:=okc Bz D A3 bd3 fun hr hu nd=>(ad (af (be (kcal KF hr (aa (pv 0) (aa (pv 2) ab))) (bq (kcal JK hr (aa (pv 0) (aa (pv 1) (aa (pv 2) ab))))))))
abbrev wN:Stmt:=top 82
theorem Bi{c:RCl RK}{d:RCl PzK}(J7:oW Z c d)(JK:r8 Z c d)(D:De Z.K "first_at" wN):wf Z c d:=okc Bz D A5 bd6 fun hr hu nd=>(ac (bc MD rfl (aA (kcal J7 hr (aa (pv 0) (aa (pv 1) (aa (pv 2) (aa (pv 3) (aa (pv 4) (aa (pv 5) ab)))))))) (aq (i:=6) nd rfl (Or.inl rfl))
   (ac (kset 7 nd (bY (aa (pv 2) (aa (pv 3) (aa (pv 4) (aa (pv 5) (aa (pv 6) ab)))))))
   (ad (au (aO (kcal JK hr (aa (pv 0) (aa (pv 1) (aa (pv 7) ab))))) (ad (af (pv 7))) ak))))
   (ad (af ki)))
abbrev nE:Stmt:=top 85
theorem uS{c:RCl RK}{d:RCl PzK}(J8:oN Z c d)(Je:kn Z)(KL:wf Z c d)(IP:ca Z)(J9:uG Z)(D:De Z.K "found_by_rule" nE):m5 Z c d:=okc Bz D uA bd4 fun hr hu nd=>(ac (kset 4 nd (bj dH rfl Bz.list_ df (aa (pv 1) ab)))
   (ac (kset 5 nd (ax ab))
   (ac (bc MD rfl (aA (kcal J8 hr (aa (pv 0) (aa (pv 2) (aa (pv 3) ab))))) (aq (i:=6) nd rfl (Or.inl rfl))
   (ac (bc MD rfl (aA (kcal IP hr (aa (kix hu (pv 4) (pv 6)) ab))) (aq (i:=7) nd rfl (Or.inl rfl))
   (ac (kset 8 nd (kcal KL hr (aa (pv 0) (aa (pv 4) (aa (pv 2) (aa (pv 3) (aa (pv 6) (aa (pv 7) ab))))))))
   (ad (au (aj FP (pv 8) ki (ah _)) (ac (bO (bE Mr MK ML bh (pv 5) (aa (pv 8) ab)))
   (ad (kset 4 nd (kcal J9 hr (aa (pv 4) (aa (pv 6) (aa (pv 7) ab))))))) ak))))
   (ad (au (aO (kcal Je hr (aa (pv 4) ab))) (ad (af (pv 5))) ak))))
   (ad (af (pv 5))))))
abbrev wO:Stmt:=top 127
theorem Bj{c:RCl RK}{d:RCl PzK}(KQ:yd Z c d)(D:De Z.K "_law_one" wO):wg Z c d:=okc Bz D yK bd4 fun hr hu nd=>(ac (bc MD rfl (bK rfl Bz.range_ (aa (ar aG rfl Bz.len_ aP (aa (pv 2) ab)) ab)) (aq (i:=4) nd rfl (Or.inl rfl))
   (ac (kset 5 nd (kix hu (pv 2) (ao aU (ao aE (pv 3) (pv 4)) (ar aG rfl Bz.len_ aP (aa (pv 2) ab)))))
   (ac (kset 6 nd (kix hu (ax (aa ae (aa ae (aa ae ab)))) (ao bP (kix hu (pv 5) ae) ae)))
   (ad (au (OI (uT (aj (av hu) (ao aU (ao bz (kix hu (pv 1) (kix hu (pv 5) ae)) (pv 6)) ae) ae (ah _)) (sC (aO (kcal KQ hr (aa (pv 0) (aa (pv 1) (aa (pv 5) ab)))))))) (ad (af (pv 5))) ak)))))
   (ad (af ki)))
abbrev qv:Stmt:=top 87
theorem xB{c:RCl RK}{d:RCl PzK}(JS:m5 Z c d)(Ka:oQ Z c d)(Jy:GTup Z.K Z.mg "KINDS" gt_KINDS)(D:De Z.K "first_found" qv):qm Z c d:=okc Bz D xp bd3 fun hr hu nd=>(ac (bc MD rfl (aA (aI (ix:=[none,none,some 2]) [".0","word","kinds"] (aC rfl (by decide+kernel) rfl rfl rfl) rfl (zd (FH Jy rfl)) (fun cl s H fp=>(aq (i:=1) (show([".0","word","kinds"]:List Str).Nodup by decide+kernel) rfl (Or.inl rfl))) (fun cl s H fp=>(ba (aj mE (pv 1) (pv 2) (by with_unfolding_all rfl)))) (fun cl s H fp=>(pv 1)))) (aq (i:=3) nd rfl (Or.inl rfl))
   (ad (bc MD rfl (aA (kcal Ka hr (aa (pv 0) (aa (pv 3) ab)))) (aq (i:=4) nd rfl (Or.inl rfl))
   (ac (kset 5 nd (kcal JS hr (aa (pv 0) (aa (pv 1) (aa (pv 3) (aa (pv 4) ab))))))
   (ad (au (aj (a8 hu) (pv 5) (ax ab) (ah _)) (ad (af (pv 5))) ak))))))
   (ad (af (ax ab))))
abbrev BX:Stmt:=top 88
theorem FA{c:RCl RK}{d:RCl PzK}(Je:kn Z)(Ki:qm Z c d)(J9:uG Z)(D:De Z.K "think" BX):BU Z c d:=okc Bz D Fp bd3 fun hr hu nd=>(ac (kset 3 nd (bj dH rfl Bz.list_ df (aa (pv 1) ab)))
   (ac (kset 4 nd (ax ab))
   (ac (zc MD (bN (aO (kcal Je hr (aa (pv 3) ab))))
   (ac (kset 5 nd (kcal Ki hr (aa (pv 0) (aa (pv 3) (aa (pv 2) ab)))))
   (ac (au (aj (av hu) (pv 5) (ax ab) (ah _)) (ad (af (bY (aa (pv 3) (aa (pv 4) ab))))) ak)
   (ad (bc MD rfl (aA (pv 5)) (aq (i:=6) nd rfl (Or.inl rfl))
   (ac (bO (bE Mr MK ML bh (pv 4) (aa (pv 6) ab)))
   (ad (kset 3 nd (kcal J9 hr (aa (pv 3) (aa (kix hu (pv 6) ae) (aa (kix hu (pv 6) ae) ab))))))))))))
   (ad (af (bY (aa (pv 3) (aa (pv 4) ab))))))))
abbrev wP:Stmt:=top 128
theorem HY{c:RCl RK}{d:RCl PzK}(Jh:oM Z)(KM:wg Z c d)(Jq:md Z)(KN:wc Z)(JT:mS Z)(Ld:BU Z c d)(K4:kW Z "Puzzle" (d.A .Puzzle) c d)(Jy:GTup Z.K Z.mg "KINDS" gt_KINDS){f:Addr}{fd:FuncData}(F:Fun Z.K "law" "law" wP f fd):FnOk Z.P Z.w Z.K Z.mg Z.base CX0 13 f fd ["_law_script"] (Eu Z.K c d):=okf F (by ac_rfl) HW (fun hr hu nd=>by
 refine ac ?s0 ?r0
 case s0=>exact(kset 1 nd (ao aU (ao bw (kcal Jh hr (aa (pv 0) (aa ae ab))) ae) ae))
 case r0=>
  refine ac ?s1 ?r1
  case s1=>
   refine za (te:=?te) (g:=gTup Z.K 2 (gCons (gName 2) (gCons (gName 3) gNil))) ?h1 ?h2 ?h4 ?h5 ?h6
   case h2=>exact(qC rfl (cO (aq (i:=2) nd rfl (Or.inl rfl)) (cO (aq (i:=3) nd rfl (Or.inl rfl)) ow)))
   case h4=>rfl
   case h5=>rfl
   case h6=>rfl
   case h1=>
    refine uW ?x ?l ?j ?p
    case x=>exact(G6 hu)
    case p=>exact(fun _ _=>rfl)
    case j=>exact(ao aU (pv 1) ae)
    case l=>
     refine ax ?_;refine j2 ?_ ?_
     . exact bY (b5 ae (b5 ae ab))
     refine j2 ?_ ?_
     . exact bY (b5 ae (b5 ae ab))
     refine j2 ?_ ?_
     . exact bY (b5 ae (b5 ae ab))
     refine j2 ?_ ?_
     . exact bY (b5 ae (b5 ae ab))
     refine j2 ?_ ?_
     . exact bY (b5 ae (b5 ae ab))
     refine j2 ?_ ?_
     . exact bY (b5 ae (b5 ae ab))
     exact ab
  case r1=>
   exact(ac (dX (i:=4) nd rfl (Or.inr rfl) (ao aE ae (ao aU (ao bz (pv 1) ae) ae)))
   (ac (dX (i:=5) nd rfl (Or.inr rfl) (ao bw (pv 2) (pv 3)))
   (ac (kset 6 nd (ao aE ae (ao aU (ao bz (pv 1) ae) ae)))
   (ac (lB (k:=8) nd rfl (Or.inl rfl) rfl (ix:=[none,none,some 5,some 0,some 4]) [".0","_law_k","_law_many","_law_script","_law_signs"] (aC rfl (by decide+kernel) rfl rfl rfl) rfl (bK rfl Bz.range_ (aa (pv 6) ab)) (fun cl s H fp=>(aq (i:=1) (show([".0","_law_k","_law_many","_law_script","_law_signs"]:List Str).Nodup by decide+kernel) rfl (Or.inl rfl))) (fun cl s H fp=>aT) (fun cl s H fp=>(kcal KN hr (aa (ao aU (ao bw (ao aE (kcal Jh hr (aa (pv 3) (aa (ao aE ae (pv 1)) ab))) (ao bw ae (pv 1))) ae) ae) (aa (pv 2) (aa (pv 4) ab))))))
   (ac (kset 9 nd (ax ab))
   (ac (kset 10 nd (ax ab))
   (ac (bc MD rfl (bK rfl Bz.range_ (aa (pv 5) ab)) (aq (i:=7) nd rfl (Or.inl rfl))
   (ac (kset 11 nd (ao aU (ao bw (ao aE (kcal Jh hr (aa (pv 0) (aa (ao aE ae (pv 7)) ab))) (ao bw (ao bw ae (pv 7)) (pv 7))) ae) ae))
   (ac (bO (bE Mr MK ML bh (pv 9) (aa (kix hu (ax (aa ae (aa ae (aa (ao aE ae (ao aU (ao bz (pv 11) ae) (pv 4))) ab)))) (ao aU (pv 11) ae)) ab)))
   (ad (bO (bE Mr MK ML bh (pv 10) (aa (kix hu (ax (aa ae (aa ae (aa ae (aa (ao aE ae (ao aU (ao bz (pv 11) ae) ae)) ab))))) (ao aE (ao bw (ao aU (ao bz (pv 11) ae) ae) ae) (bj pN rfl Bz.int_ u8 (aa (aw (av hu) (pv 4) ae (ah _)) ab)))) ab)))))))
   (ac (kset 12 nd (lj K4 hr (by decide) rfl (aa (bY (aa (pv 2) (aa (pv 3) (aa (pv 4) ab)))) (aa (pv 8) (aa (pv 9) ab)))))
   (ac (kset 13 nd (kcal Jq hr (aa (ao aU (ao bw (kcal Jh hr (aa (pv 0) (aa ae ab))) ae) ae) (aa ae ab))))
   (ac (lB (k:=14) nd rfl (Or.inl rfl) rfl (ix:=[none,none]) [".0","_law_k"] (aC rfl (by decide+kernel) rfl rfl rfl) rfl (aA (ft mG (pv 13) lA (d4 (ao aE ae (ao aU (ao bz (pv 1) ae) ae))))) (fun cl s H fp=>(aq (i:=1) (show([".0","_law_k"]:List Str).Nodup by decide+kernel) rfl (Or.inl rfl))) (fun cl s H fp=>aT) (fun cl s H fp=>(uW Dg (FH Jy rfl) (pv 1) (fun _ _=>rfl))))
   (ac (za (kcal Ld hr (aa (pv 12) (aa (bj dH rfl Bz.list_ df (aa (pv 10) ab)) (aa (pv 14) ab)))) (qC rfl (cO (aq (i:=15) nd rfl (Or.inl rfl)) (cO (aq (i:=16) nd rfl (Or.inl rfl)) ow))))
   (ac (kset 17 nd (kcal JT hr (aa (pv 14) (aa (pv 6) (aa (pv 5) (aa (pv 4) ab))))))
   (ac (bc MD rfl (bK rfl Bz.range_ (aa (ao aE (ao bw (pv 5) (pv 4)) ae) ab)) (aq (i:=7) nd rfl (Or.inl rfl))
   (ac (kset 18 nd (ao aU (ao bw (ao aE (kcal Jh hr (aa (pv 0) (aa (ao aE ae (pv 7)) ab))) (ao bw ae (pv 7))) ae) ae))
   (ac (kset 19 nd ki)
   (ac (au (aj (cb hu) ae (pv 10) (by with_unfolding_all rfl)) (ad (kset 19 nd (kcal KM hr (aa (pv 12) (aa (pv 10) (aa (pv 17) (aa (pv 18) ab))))))) ak)
   (ac (au (aj Da (pv 19) ki (ah _)) (ad EM) ak)
   (ad (za (ao bP (kix hu (pv 10) (kix hu (pv 19) ae)) (kix hu (ax (aa ae (aa ae (aa ae ab)))) (ao bP (kix hu (pv 19) ae) ae))) (GP (pv 10) (kix hu (pv 19) ae) (Ip hu)))))))))
   (ac (au (aj (cr hu) ae (pv 10) (by with_unfolding_all rfl)) (ad (af (be (aw (cr hu) ae (pv 15) (by with_unfolding_all rfl)) (bq (ar dF rfl Bz.isinstance_ bL (aa (pv 16) (aa (iz (v:=.ty "list") rfl Bz.list_ df rfl) ab))))))) ak)
   (ad (af (aw (av hu) (pv 15) (pv 10) (ah _))))))))))))))))))) (by walk_at "l")
end
variable{l:PySem.W.OpenLaw}
theorem HZ {w:World} {K:Frag} {h:Heap} {mg:Str->Option Value} {fa:Addr} (X:K.In h) (G:h.Ns mainGlobals mg) (hfa:mg "law"=some (.ref fa)) {x1 x2 x3 x4 x5 x6 x7 x8 y1 f13 f14 f15 f16 f17 f18 f19 f21 f22 f23 f40 f41 f42 f43 f44 f65 f80 f81 f90 f91 f97:Addr} {tk_FIGURES tk_MOST_CELLS tk_MOST_FIGURES tk_MOST_NUMBER tk_MOST_RULES tk_MOST_SIDE tk_MOST_SIGNS tk_MOST_WAYS:Tok}
  (Q_Unlike:ClsP K "Unlike" x1 f13) (Q_Sum:ClsP K "Sum" x2 f13) (Q_Rising:ClsP K "Rising" x3 f13) (Q_Seen:ClsP K "Seen" x4 f13) (Q_Count:ClsP K "Count" x5 f13) (Q_Joined:ClsP K "Joined" x6 f13) (Q_NoSquare:ClsP K "NoSquare" x7 f13) (Q_Ring:ClsP K "Ring" x8 f13) (Q_Puzzle:ClsP K "Puzzle" y1 f97) (a14:At8 K "name" (some (.ref f14)) x1 x2 x3 x4 x5 x6 x7 x8) (a15:At8 K "spots" (some (.ref f15)) x1 x2 x3 x4 x5 x6 x7 x8) (a16:At8 K "number" (some (.ref f16)) x1 x2 x3 x4 x5 x6 x7 x8) (a17:At8 K "sign" (some (.ref f17)) x1 x2 x3 x4 x5 x6 x7 x8) (a18:At8 K "signs_at" (some (.ref f18)) x1 x2 x3 x4 x5 x6 x7 x8) (a19:At8 K "marked" (some (.ref f19)) x1 x2 x3 x4 x5 x6 x7 x8) (Lu:findIn K (.ref y1) "place"=some (some (.ref f21))) (Lv:findIn K (.ref y1) "clues"=some (some (.ref f22))) (Lw:findIn K (.ref y1) "rules"=some (some (.ref f23))) (Lx:findIn K (.ref x1) "holds"=some (some (.ref f40))) (LH:findIn K (.ref x2) "holds"=some (some (.ref f41))) (Ly:findIn K (.ref x3) "holds"=some (some (.ref f42))) (LD:findIn K (.ref x4) "holds"=some (some (.ref f43))) (LC:findIn K (.ref x5) "holds"=some (some (.ref f44))) (LE:findIn K (.ref x8) "has_two_beside"=some (some (.ref f65))) (Lz:findIn K (.ref x6) "is_joined"=some (some (.ref f80))) (LF:findIn K (.ref x8) "is_joined"=some (some (.ref f80))) (Lq:findIn K (.ref x7) "holds"=some (some (.ref f81))) (LA:findIn K (.ref x6) "holds"=some (some (.ref f90))) (LG:findIn K (.ref x8) "holds"=some (some (.ref f91))) (n_c_amount:At8 K "amount" none x1 x2 x3 x4 x5 x6 x7 x8) (n_c_cells:At8 K "cells" none x1 x2 x3 x4 x5 x6 x7 x8) (n_c_floor:At8 K "floor" none x1 x2 x3 x4 x5 x6 x7 x8) (n_c_mark:At8 K "mark" none x1 x2 x3 x4 x5 x6 x7 x8) (n_c_words:At8 K "words" none x1 x2 x3 x4 x5 x6 x7 x8) (n_d_floor:findIn K (.ref y1) "floor"=some none) (n_d_given:findIn K (.ref y1) "given"=some none) (n_d_laws:findIn K (.ref y1) "laws"=some none) (D0:De K "is_whole" wj) (D1:De K "many_cells" sd) (D2:De K "spot_of" ye) (D3:De K "square_at" tU) (D4:De K "bit_of" At) (D5:De K "stands" Au) (D6:De K "clashes" yf) (D7:De K "masks_at" wk) (D8:De K "clue_strikes" oZ) (D9:De K "are_told_in_order" jE) (D10:De K "with_sign" tV) (D11:De K "place_mores" qo) (D12:De K "is_within" tW) (D13:Me K "__init__" "Rule.__init__" m7 f13) (D14:Me K "name" "Rule.name" tX f14) (D15:Me K "spots" "Rule.spots" se f15) (D16:Me K "number" "Rule.number" qp f16) (D17:Me K "sign" "Rule.sign" tY f17) (D18:Me K "signs_at" "Rule.signs_at" m8 f18) (D19:Me K "marked" "Rule.marked" qq f19) (D20:De K "number_in" tZ) (D21:Me K "place" "Puzzle.place" o4 f21) (D22:Me K "clues" "Puzzle.clues" o5 f22) (D23:Me K "rules" "Puzzle.rules" o6 f23) (D24:De K "_law_cell_at" o7) (D25:De K "_law_order" sf) (D26:De K "_law_mores" sh) (D27:De K "is_from_one_to" mq) (D28:De K "beside" AA) (D29:De K "is_corner" t3) (D30:De K "without" yg) (D31:De K "signs_in" wr) (D32:De K "is_cell" yh) (D33:De K "goes_by" yj) (D34:De K "others" AC) (D35:De K "many_may" wt) (D36:De K "ahead_of" wu) (D37:De K "behind" AD) (D38:De K "with_each_sign" mr) (D39:De K "cells_to_try" o8) (D40:Me K "holds" "Unlike.holds" o9 f40) (D41:Me K "holds" "Sum.holds" t4 f41) (D42:Me K "holds" "Rising.holds" pb f42) (D43:Me K "holds" "Seen.holds" si f43) (D44:Me K "holds" "Count.holds" qr f44) (D45:De K "number_within" nc) (D46:De K "is_filling" sj) (D47:De K "_law_row" wy) (D48:De K "_law_thoughts" nh) (D49:De K "floor_of" wz) (D50:De K "squares" yn) (D51:De K "reached" yo) (D52:De K "has_only" wA) (D53:De K "struck" AF) (D54:De K "ways" EJ) (D55:De K "is_sign" yp) (D56:De K "has_its_rule" pc) (D57:De K "is_no_greater" ni) (D58:De K "is_no_less" sk) (D59:De K "pair_strikes" pf) (D60:De K "sum_strikes" qt) (D61:De K "around" AG) (D62:De K "turn_mores" so) (D63:De K "pair_mores" sr) (D64:De K "rule_numbers" ph) (D65:Me K "has_two_beside" "Ring.has_two_beside" iJ f65) (D66:De K "first_within" pi) (D67:De K "told_cells" su) (D68:De K "rule_by" yq) (D69:De K "checked_clues" nk) (D70:De K "is_formed" t5) (D71:De K "many_only" t6) (D72:De K "only_strikes" pj) (D73:De K "place_strikes" np) (D74:De K "step_strikes" pk) (D75:De K "rest_of_square" mw) (D76:De K "is_another_with_only" gR) (D77:De K "only_mores" sw) (D78:De K "square_mores" pp) (D79:De K "reach_mores" qu) (D80:Me K "is_joined" "Joined.is_joined" ko f80) (D81:Me K "holds" "NoSquare.holds" my f81) (D82:De K "cells_of" wI) (D83:De K "checked_floor" nt) (D84:De K "strikes_by_line" kX) (D85:De K "count_strikes" nv) (D86:De K "square_strikes" mB) (D87:De K "reach_strikes" nD) (D88:De K "turn_strikes" pq) (D89:De K "mores_to_try" px) (D90:Me K "holds" "Joined.holds" pA f90) (D91:Me K "holds" "Ring.holds" sy f91) (D92:De K "read_rule" t7) (D93:De K "ways_strikes" pB) (D94:De K "strikes_by_region" jG) (D95:De K "read_rules" sA) (D96:De K "strikes_by_number" jH) (D97:Me K "__init__" "Puzzle.__init__" kY f97) (D98:De K "strikes" yr) (D99:De K "allowed" yt) (D100:De K "first_at" wN) (D101:De K "found_by_rule" nE) (D102:De K "_law_one" wO) (D103:De K "first_found" qv) (D104:De K "think" BX) (D105:De K "law" wP) (g_KINDS:GT0 K "KINDS" gt_KINDS) (g_LINE_KINDS:GT0 K "LINE_KINDS" gU) (g_NUMBER_KINDS:GT0 K "NUMBER_KINDS" fm) (g_OF_ALL_CELLS:GT0 K "OF_ALL_CELLS" fj) (g_WITH_NUMBER:GT0 K "WITH_NUMBER" gj) (g_WITH_SIGN:GT0 K "WITH_SIGN" fw) (gd_RULES_OF_KIND_:GD0 w K "RULES_OF_KIND" gd_RULES_OF_KIND) (LB:nsIn K mainGlobals "FIGURES"=some (some (.str (tx [48,49,50,51,52,53,54,55,56,57]) tk_FIGURES))) (Lg:nsIn K mainGlobals "MOST_CELLS"=some (some (.int 16 tk_MOST_CELLS))) (K7:nsIn K mainGlobals "MOST_FIGURES"=some (some (.int 9 tk_MOST_FIGURES))) (Le:nsIn K mainGlobals "MOST_NUMBER"=some (some (.int 99 tk_MOST_NUMBER))) (Lh:nsIn K mainGlobals "MOST_RULES"=some (some (.int 12 tk_MOST_RULES))) (Lr:nsIn K mainGlobals "MOST_SIDE"=some (some (.int 6 tk_MOST_SIDE))) (Li:nsIn K mainGlobals "MOST_SIGNS"=some (some (.int 6 tk_MOST_SIGNS))) (Ls:nsIn K mainGlobals "MOST_WAYS"=some (some (.int 32 tk_MOST_WAYS))) (z:Zn K):
  ∃ fd:FuncData,(∀(s:Shared) (v:Value),BindsTo s fd ⟨[v],[]⟩ [("_law_script",v)])/\∀ base:Heap,K.In base->base.Ns mainGlobals mg->FnOk l.prog w K mg base CX0 13 fa fd ["_law_script"] (xt K):=by
 obtain⟨f,fd,a,F⟩:=D105.ex;have e:=hfa.symm.trans (PySem.W.mg_of X G a);cases e;obtain⟨oc,od,kV,doc,pm,an,LL,ct,osl,rfl,lk,hcd⟩:=F.ex;refine⟨fnOf "law" "law" (cD wP) (b3 wP) (aX wP) .none kV doc pm an LL ct,fun s v=>.of_eq rfl,fun base _ _=>?_⟩;let Z:Z5:=⟨l.prog,w,K,mg,base⟩;have Bz:Bt3 Z:=HX X G z;let c:RCl RK:=mkC x1 x2 x3 x4 x5 x6 x7 x8;let d:RCl PzK:=mkD y1;have CC:C8 K x1 x2 x3 x4 x5 x6 x7 x8:=⟨Q_Unlike.cl,Q_Sum.cl,Q_Rising.cl,Q_Seen.cl,Q_Count.cl,Q_Joined.cl,Q_NoSquare.cl,Q_Ring.cl⟩;have KO:=Bz.ns LB;have Kk:=Bz.ns Lg;have JU:=Bz.ns K7;have Kf:=Bz.ns Le;have Ks:=Bz.ns Lh;have Kb:=Bz.ns Lr;have Kl:=Bz.ns Li;have KC:=Bz.ns Ls;have IU:FldK Z.K c "amount":=fk8 CC n_c_amount;have IY:FldK Z.K c "cells":=fk8 CC n_c_cells;have Ja:FldK Z.K c "floor":=fk8 CC n_c_floor;have Jj:FldK Z.K c "mark":=fk8 CC n_c_mark;have Jw:FldK Z.K c "words":=fk8 CC n_c_words;have Jm:FldK Z.K d "floor":=⟨fun _ _=>⟨Q_Puzzle.cl,n_d_floor⟩⟩;have Jx:FldK Z.K d "given":=⟨fun _ _=>⟨Q_Puzzle.cl,n_d_given⟩⟩;have JE:FldK Z.K d "laws":=⟨fun _ _=>⟨Q_Puzzle.cl,n_d_laws⟩⟩;have Jy:=g_KINDS.of Bz;have Ku:=g_LINE_KINDS.of Bz;have J6:=g_NUMBER_KINDS.of Bz;have JW:=g_OF_ALL_CELLS.of Bz;have Kg:=g_WITH_NUMBER.of Bz;have KB:=g_WITH_SIGN.of Bz;have JL:=GD0.of (Z:=Z) gd_RULES_OF_KIND_ Bz;have IW:=A8 Bz D0;have IR:=yL Bz D1;have JF:=CJ Bz D2;have Ky:=As Bz D3;have KW:=ED Bz D4;have Jc:=EE Bz D5;have Je:=CK Bz D6;have IS:=A9 Bz D7;have JX:=wl Bz D8;have Js:=qb Bz D9;have Jr:=Av Bz D10;have Kc:=xv Bz D11;have Kz:=Aw Bz D12;have T13:=uI Bz IU IY Ja Jj Jw D13;have K0:aL Z "Unlike" (c.A .Unlike) c:=T13.mke Bz Q_Unlike;have K_Sum:aL Z "Sum" (c.A .Sum) c:=T13.mke Bz Q_Sum;have KZ:aL Z "Rising" (c.A .Rising) c:=T13.mke Bz Q_Rising;have Lo:aL Z "Seen" (c.A .Seen) c:=T13.mke Bz Q_Seen;have La:aL Z "Count" (c.A .Count) c:=T13.mke Bz Q_Count;have KY:aL Z "Joined" (c.A .Joined) c:=T13.mke Bz Q_Joined;have KH:aL Z "NoSquare" (c.A .NoSquare) c:=T13.mke Bz Q_NoSquare;have Lm:aL Z "Ring" (c.A .Ring) c:=T13.mke Bz Q_Ring;have T14:=Ax Bz Jw D14;have Ll:EC Z c:=⟨fun i hi=>T14.at (c8 CC i) (at8 a14 i) fun _ _ _ _ h=>⟨i,h⟩⟩;have T15:=yM Bz IY D15;have IX:iI Z c:=⟨fun i hi=>T15.at (c8 CC i) (at8 a15 i) fun _ _ _ _ h=>⟨i,h⟩⟩;have T16:=xw Bz IU D16;have Jv:uH Z c:=⟨fun i hi=>T16.at (c8 CC i) (at8 a16 i) fun _ _ _ _ h=>⟨i,h⟩⟩;have T17:=Ay Bz Jj D17;have Jl:oY Z c:=⟨fun i hi=>T17.at (c8 CC i) (at8 a17 i) fun _ _ _ _ h=>⟨i,h⟩⟩;have T18:=uJ Bz IY D18;have Jb:jy Z c:=⟨fun i hi=>T18.at (c8 CC i) (at8 a18 i) fun _ _ _ _ h=>⟨i,h⟩⟩;have KS:=fk1 (k:=.Joined) rfl IY;have K5:=fk1 (k:=.Joined) rfl Jj;have T19_Joined:=j5 (c:=(mk1 c .Joined)) Bz KS K5 D19;have K8:iy Z (mk1 c .Joined):=⟨fun i hi=>by cases oJ hi;exact T19_Joined.at Q_Joined.cl (at8 a19 .Joined) fun _ _ _ _ h=>⟨.Joined,h⟩⟩;have K9:=fk1 (k:=.Ring) rfl IY;have Lf:=fk1 (k:=.Ring) rfl Jj;have T19_Ring:=j5 (c:=(mk1 c .Ring)) Bz K9 Lf D19;have Lj:iy Z (mk1 c .Ring):=⟨fun i hi=>by cases oJ hi;exact T19_Ring.at Q_Ring.cl (at8 a19 .Ring) fun _ _ _ _ h=>⟨.Ring,h⟩⟩;have T19:=j5 Bz IY Jj D19;have Jo:iy Z c:=⟨fun i hi=>T19.at (c8 CC i) (at8 a19 i) fun _ _ _ _ h=>⟨i,h⟩⟩;have Kw:=Az Bz KO JU D20;have T21:=wm (c:=c) Bz Jm D21;have Jg:lD Z c d:=⟨fun i hi=>by cases i;exact T21.at Q_Puzzle.cl Lu fun _ _ _ _ h=>h⟩;have T22:=wn (c:=c) Bz Jx D22;have Lb:BV Z c d:=⟨fun i hi=>by cases i;exact T22.at Q_Puzzle.cl Lv fun _ _ _ _ h=>h⟩;have T23:=wp (c:=c) Bz JE D23;have IV:iH Z c d:=⟨fun i hi=>by cases i;exact T23.at Q_Puzzle.cl Lw fun _ _ _ _ h=>h⟩;have Jh:=wq Bz D24;have Jq:=yN Bz D25;have Kj:=yO Bz D26;have IZ:=sZ Bz IW D27;have I0:=EF Bz JF D28;have Kx:=AB Bz JF D29;have JG:=CL Bz KW Jc D30;have IP:=Ba Bz Jc D31;have JI:=CM Bz IW IR D32;have JH:=CN Bz Ll JL D33;have IQ:=EG Bz IX D34;have Ji:=Bb Bz Jc D35;have KI:=Bc Bz IX D36;have K1:=EH Bz IX D37;have JC:=tm Bz Jr D38;have J8:=wv Bz IR Jg IV IX D39;have T40:=ww Bz Jb D40;have T41:=AE Bz IU Jb D41;have T42:=wx Bz Jb D42;have T43:=yP Bz IU Jb D43;have T44:=xy Bz IU Jo D44;have Jk:=uK Bz Kw D45;have Km:=yQ Bz IW IR D46;have KN:=Be Bz Jq D47;have JT:=uL Bz Kj D48;have KJ:=Bf Bz IZ Kk Kb Kl D49;have Jn:=CO Bz Kx IR Ky D50;have Jf:=CP Bz I0 D51;have IT:=Bg Bz JG D52;have J9:=EI Bz JG D53;have Lp:=GJ Bz IP D54;have JJ:=CQ Bz IZ D55;have JV:=wB Bz JH IW IV IX D56;have JM:=uM Bz IP D57;have Kn:=yR Bz IP D58;have JZ:=wC Bz Js IQ IP D59;have Kh:=xz Bz Je IS IQ IP Jv D60;have K2:=EK Bz I0 D61;have Kr:=yS Bz I0 D62;have Kq:=yT Bz IQ IP IX D63;have Ka:=wD Bz JH IV D64;have Kv:=fk1 (k:=.Ring) rfl Ja;have T65_Ring:=ou (c:=(mk1 c .Ring)) Bz I0 Kv D65;have KG:mj Z (mk1 c .Ring):=⟨fun i hi=>by cases oJ hi;exact T65_Ring.at Q_Ring.cl LE fun _ _ _ _ h=>h⟩;have Jz:=wE Bz Jk D66;have Ko:=yU Bz IR Jk D67;have KP:=CS Bz La KY KH Lm KZ Lo K_Sum K0 D68;have JQ:=uN Bz Km D69;have KF:=AH Bz JV JI JJ IW Jg Jy D70;have Jd:=AI Bz IT D71;have JY:=wF Bz IT IQ D72;have JN:=uO Bz JJ Ji IS IQ IX D73;have J0:=wG Bz KI K1 JM Kn D74;have JB:=tq Bz Jn D75;have Jp:=mD Bz IT JI D76;have Kp:=yV Bz IT IQ D77;have J3:=wH Bz Jn D78;have Ke:=xA Bz IT IQ Jf Jc Jl D79;have KU:=fk1 (k:=.Joined) rfl Ja;have T80_Joined:=jF (c:=(mk1 c .Joined)) Bz Jf KU D80;have KR:kh Z (mk1 c .Joined):=⟨fun i hi=>by cases oJ hi;exact T80_Joined.at Q_Joined.cl Lz fun _ _ _ _ h=>⟨.Joined,h⟩⟩;have T80_Ring:=jF (c:=(mk1 c .Ring)) Bz Jf Kv D80;have K6:kh Z (mk1 c .Ring):=⟨fun i hi=>by cases oJ hi;exact T80_Ring.at Q_Ring.cl LF fun _ _ _ _ h=>⟨.Ring,h⟩⟩;have T81:=tu Bz Kz Jn Ja Jo D81;have KK:=Bh Bz IR Ko JW D82;have JR:=uP Bz KJ D83;have JA:=sx Bz JX JY JZ JN J0 Lb Jg IV D84;have JP:=uQ Bz Ji Jd IS IQ Jv Jl D85;have JD:=tw Bz Jd IS JB Jl D86;have JO:=uR Bz Jp IQ Jf Jc Jl D87;have J4:=wJ Bz K2 I0 IT Ji Jd IS Jl D88;have J7:=wK Bz Kp Kq Kc Ke J3 Kr Jg IV D89;have T90_Joined:=wL (c:=(mk1 c .Joined)) Bz KR K8 D90;have T91_Ring:=yW (c:=(mk1 c .Ring)) Bz KG K6 Lj D91;have Lc:BW Z c:=⟨fun i hi=>by cases i with | Rule=>exact(L7 hi).elim | Unlike=>exact T40.at Q_Unlike.cl Lx fun _ _ _ _ h=>h | Sum=>exact T41.at Q_Sum.cl LH fun _ _ _ _ h=>h | Rising=>exact T42.at Q_Rising.cl Ly fun _ _ _ _ h=>h | Seen=>exact T43.at Q_Seen.cl LD fun _ _ _ _ h=>h | Count=>exact T44.at Q_Count.cl LC fun _ _ _ _ h=>h | Joined=>exact T90_Joined.at Q_Joined.cl LA (fun vs H Q E h=>by obtain⟨r,p,f,ws,cs,xs,n,m,h,w,g,e,x,y⟩:=h;exact⟨r,p,f,ws,cs,xs,n,m,h,w,g,e,⟨rfl,x.ex⟩,y⟩) | NoSquare=>exact T81.at Q_NoSquare.cl Lq fun _ _ _ _ h=>h | Ring=>exact T91_Ring.at Q_Ring.cl LG (fun vs H Q E h=>by obtain⟨r,p,f,ws,cs,xs,n,m,h,w,g,e,x,y⟩:=h;exact⟨r,p,f,ws,cs,xs,n,m,h,w,g,e,⟨rfl,x.ex⟩,y⟩)⟩;have KD:=AJ Bz KK Jz KP Kf Kg KB D92;have J5:=wM Bz Je IS IQ IP Lp JC Jr KC Lc D93;have Ju:=qc Bz JO JD J4 Jg IV D94;have Kt:=yX Bz KD Ks D95;have Jt:=qd Bz JP Kh J5 IV D96;have T97:=sB Bz JQ JR Kt Jm Jx JE D97;have K4:kW Z "Puzzle" (d.A .Puzzle) c d:=T97.mke Bz Q_Puzzle;have JK:=CT Bz JA Jt Ju Ku J6 D98;have KQ:=CU Bz KF JK D99;have KL:=Bi Bz J7 JK D100;have JS:=uS Bz J8 Je KL IP J9 D101;have KM:=Bj Bz KQ D102;have Ki:=xB Bz JS Ka Jy D103;have Ld:=FA Bz Je Ki J9 D104;exact(HY Bz Jh KM Jq KN JT Ld K4 Jy F).imp fun vs H Q E h=>by obtain⟨a,ns,e,hS,hn,k⟩:=h;exact⟨a,ns,e,hS,hn,fun k hk=>by cases k <;> first | rfl | exact absurd rfl hk,rfl,k⟩
theorem walk {q:Program} {loose:List Str} {XP:(Str->Option Value)->Heap->Prop} {YP:World->Heap->Prop} {d:DefRec} {K:Params->Frag} (hn:l.most=some 63) (hdf:d.params.defaults=[])
  (hY:∀(w:World) (h:Heap),YP w h->(K w.params).In h)
  (F:∀(w:World) (mg:Str->Option Value) (fa:Addr) (h:Heap),(K w.params).In h->h.Ns mainGlobals mg->mg d.name=some (.ref fa)->
   ∃ fd:FuncData,(∀(s:Shared) (u:Value),BindsTo s fd ⟨[u],[]⟩ [("_law_script",u)])/\∀ base:Heap,(K w.params).In base->base.Ns mainGlobals mg->FnOk l.prog w (K w.params) mg base CX0 13 fa fd ["_law_script"] (xt (K w.params))):
  PySem.W.WalkO q loose XP YP l.row.toRowW d [] (fun f vs=>PySem.call f vs):=
 L2.F0 (n:=63) (k:=13) (x:="_law_script") (CX:=fun _=>CX0) (sp:=fun w=>xt (K w.params)) hn (by decide) hdf ⟨rfl,by decide,by decide⟩ hY F (fun _ _ a ns hl _ hS=>⟨a,ns,rfl,hS,hl,fun _=>rfl⟩) fun _ _ _ _ _ z=>z
variable{P:Program}{w:World}{K:Frag}{mg:Str->Option Value}{base:Heap}
theorem tz {w:World} {K:Frag} {p:Addr} {ep:Nat} {dh0:Int} {dt0:Tok} {dq0:Addr} {dod0:Option Addr} {dn0:Nat} {dsl0:Array (Option Value)} {du0_0:Tok} {dh1:Int} {dt1:Tok} {dq1:Addr} {dod1:Option Addr} {dn1:Nat} {dsl1:Array (Option Value)} {du1_0:Tok} {dh2:Int} {dt2:Tok} {dq2:Addr} {dod2:Option Addr} {dn2:Nat} {dsl2:Array (Option Value)} {du2_0:Tok} {dh3:Int} {dt3:Tok} {dq3:Addr} {dod3:Option Addr} {dn3:Nat} {dsl3:Array (Option Value)} {du3_0:Tok} {dh4:Int} {dt4:Tok} {dq4:Addr} {dod4:Option Addr} {dn4:Nat} {dsl4:Array (Option Value)} {du4_0:Tok} {dh5:Int} {dt5:Tok} {dq5:Addr} {dod5:Option Addr} {dn5:Nat} {dsl5:Array (Option Value)} {du5_0:Tok} {dh6:Int} {dt6:Tok} {dq6:Addr} {dod6:Option Addr} {dn6:Nat} {dsl6:Array (Option Value)} {du6_0 du6_1:Tok} {dh7:Int} {dt7:Tok} {dq7:Addr} {dod7:Option Addr} {dn7:Nat} {dsl7:Array (Option Value)} {du7_0:Tok} {dh8:Int} {dt8:Tok} {dq8:Addr} {dod8:Option Addr} {dn8:Nat} {dsl8:Array (Option Value)} {du8_0:Tok}
  (a:nsIn K mainGlobals "RULES_OF_KIND"=some (some (.ref p))) (b:K.lookup p=some ⟨.type "dict",none,.dict #[⟨dh0,.str (tx [111,110,108,121]) dt0,.ref dq0⟩,⟨dh1,.str (tx [112,108,97,99,101]) dt1,.ref dq1⟩,⟨dh2,.str (tx [99,111,117,110,116]) dt2,.ref dq2⟩,⟨dh3,.str (tx [115,116,101,112]) dt3,.ref dq3⟩,⟨dh4,.str (tx [115,117,109]) dt4,.ref dq4⟩,⟨dh5,.str (tx [115,113,117,97,114,101]) dt5,.ref dq5⟩,⟨dh6,.str (tx [114,101,97,99,104]) dt6,.ref dq6⟩,⟨dh7,.str (tx [116,117,114,110]) dt7,.ref dq7⟩,⟨dh8,.str (tx [112,97,105,114]) dt8,.ref dq8⟩] ep,#[]⟩) (k0:K.lookup dq0=some ⟨.type "tuple",dod0,.seq #[.str (tx [117,110,108,105,107,101]) du0_0] dn0,dsl0⟩) (h0:dh0=hashStr w (tx [111,110,108,121])) (k1:K.lookup dq1=some ⟨.type "tuple",dod1,.seq #[.str (tx [117,110,108,105,107,101]) du1_0] dn1,dsl1⟩) (h1:dh1=hashStr w (tx [112,108,97,99,101])) (k2:K.lookup dq2=some ⟨.type "tuple",dod2,.seq #[.str (tx [99,111,117,110,116]) du2_0] dn2,dsl2⟩) (h2:dh2=hashStr w (tx [99,111,117,110,116])) (k3:K.lookup dq3=some ⟨.type "tuple",dod3,.seq #[.str (tx [114,105,115,105,110,103]) du3_0] dn3,dsl3⟩) (h3:dh3=hashStr w (tx [115,116,101,112])) (k4:K.lookup dq4=some ⟨.type "tuple",dod4,.seq #[.str (tx [115,117,109]) du4_0] dn4,dsl4⟩) (h4:dh4=hashStr w (tx [115,117,109])) (k5:K.lookup dq5=some ⟨.type "tuple",dod5,.seq #[.str (tx [110,111,115,113,117,97,114,101]) du5_0] dn5,dsl5⟩) (h5:dh5=hashStr w (tx [115,113,117,97,114,101])) (k6:K.lookup dq6=some ⟨.type "tuple",dod6,.seq #[.str (tx [106,111,105,110,101,100]) du6_0,.str (tx [114,105,110,103]) du6_1] dn6,dsl6⟩) (h6:dh6=hashStr w (tx [114,101,97,99,104])) (k7:K.lookup dq7=some ⟨.type "tuple",dod7,.seq #[.str (tx [114,105,110,103]) du7_0] dn7,dsl7⟩) (h7:dh7=hashStr w (tx [116,117,114,110])) (k8:K.lookup dq8=some ⟨.type "tuple",dod8,.seq #[.str (tx [117,110,108,105,107,101]) du8_0] dn8,dsl8⟩) (h8:dh8=hashStr w (tx [112,97,105,114])):GD0 w K "RULES_OF_KIND" gd_RULES_OF_KIND:=
 ⟨p,_,_,_,a,b,⟨rfl,rfl,rfl⟩,rfl,(.cons h0 k0 rfl rfl (MS (aD (MY rfl))) (.cons ⟨_,rfl⟩ .nil) (.cons h1 k1 rfl rfl (MS (aD (MY rfl))) (.cons ⟨_,rfl⟩ .nil) (.cons h2 k2 rfl rfl (MS (aD (MY rfl))) (.cons ⟨_,rfl⟩ .nil) (.cons h3 k3 rfl rfl (MS (aD (MY rfl))) (.cons ⟨_,rfl⟩ .nil) (.cons h4 k4 rfl rfl (MS (aD (MY rfl))) (.cons ⟨_,rfl⟩ .nil) (.cons h5 k5 rfl rfl (MS (aD (MY rfl))) (.cons ⟨_,rfl⟩ .nil) (.cons h6 k6 rfl rfl (MS (aD (MY rfl))) (.cons ⟨_,rfl⟩ (.cons ⟨_,rfl⟩ .nil)) (.cons h7 k7 rfl rfl (MS (aD (MY rfl))) (.cons ⟨_,rfl⟩ .nil) (.cons h8 k8 rfl rfl (MS (aD (MY rfl))) (.cons ⟨_,rfl⟩ .nil) .nil))))))))),by decide+kernel⟩
end L2
open PySem PySem.W PyProof.Rows
namespace PySem.W.Fast
def tw6782808009902687221:=()
def tw8672705610962580496:=()
def tw9612292040588401704:=()
def tw11238548798753113626:=()
def tw3320840136776657924:=()
def tw4685017740357800889:=()
def tw8268190833221511850:=()
def tw16741290890179307536:=()
def tw8431971529772662035:=()
def tw2793192164143017394:=()
def tw2432557443209546187:=()
def tw11512459599292797574:=()
def tw17687387705185581176:=()
def tw5692337004479606615:=()
def tw17096402001654399163:=()
def tw4213683504973039908:=()
def tw8476872897724967957:=()
def tw1600297239619724157:=()
def tw5419008637369739680:=()
def tw9760456445629188144:=()
def tw14342601020005844991:=()
def tw2023305298490259768:=()
def tw10665692082490230633:=()
def tw9490069221631330087:=()
def tw7085286392157764567:=()
def tw13877999556748799529:=()
def tw14370705706960129402:=()
def tw9168495867609818596:=()
def tw3128520220587087198:=()
def tw2444557052152221191:=()
def tw11402041622263197200:=()
def tw10465292637952708963:=()
def tw10730139827266886923:=()
def tw6154759638094529225:=()
def tw7757397113919241954:=()
def tw9559088551263116838:=()
def tw3198664378454448722:=()
def tw8223776320981257383:=()
def tw13907463892667792061:=()
def tw1304164941513309102:=()
def tw8857897382825661989:=()
def tw1618808069270466466:=()
def tw1506771298577775877:=()
def tw16820326537223757372:=()
def tw513464318431654288:=()
def tw4728396514995790791:=()
def tw1451600129936779736:=()
def tw8250120451716020636:=()
def tw14482555517629661667:=()
def tw2856400112779172510:=()
def tw8129543805721329784:=()
def tw7093767422428518682:=()
def tw3463224191396435590:=()
def tw9714393336785173915:=()
def tw2236380069205977559:=()
def tw16065136284489770789:=()
def tw3254177360140761629:=()
def tw7367078090196814977:=()
def tw508837425699510707:=()
def tw16459209838157757659:=()
def tw13119184428984768579:=()
def tw1770905235623318173:=()
def tw7417920454655051765:=()
def tw15588909337865476865:=()
def tw8013149232789314305:=()
def tw14336014604159914193:=()
def tw843262456667972274:=()
def tw2771102807039477052:=()
def tw16655862536707796065:=()
def tw10765406094860069542:=()
def tw9695173562597213040:=()
def tw2033633936238040293:=()
def tw17162096251938249223:=()
def tw15200756130157403246:=()
def tw2457682474398549138:=()
def tw11527787924194139504:=()
def tw16759081486297586718:=()
def tw11479589246458139479:=()
def tw1316452662417488568:=()
def tw16550367214277887989:=()
def tw3604755348288713409:=()
def tw9188193746827644627:=()
def tw15567475028003274040:=()
def tw12274714431242320343:=()
def tw15469403157592979330:=()
def tw11868341949938241071:=()
def tw12847468416529013267:=()
def tw14320316925056932928:=()
def tw1970680288723244727:=()
def tw6090954813372802788:=()
def tw1772025738095103941:=()
def tw17339741033911719413:=()
def tw17712381457698513851:=()
def tw2240933935938558710:=()
def tw17798460211622558054:=()
def tw13507083865296789147:=()
def tw7780807375489938437:=()
def tw3137862058860881176:=()
def tw946649438588124844:=()
def tw10526618336851905847:=()
def tw12436726013921918705:=()
def tw14095675069571847022:=()
def tw15325052565674260018:=()
def tw8974903045889928764:=()
def tw4945225190781268394:=()
def tw3974498536797097432:=()
def tw15976236730821638861:=()
def tw13695254638327083121:=()
def tw16611973351007112734:=()
def tw1579691296865093861:=()
def tw6674363454476933944:=()
def tw2100795852311495059:=()
def tw2440038118274798301:=()
def tw8228435987573476956:=()
def tw6765275922854014389:=()
def tw13865335465782427129:=()
def tw138220806950914351:=()
def tw4478913076489232488:=()
def tw16232796414010020294:=()
def tw7132385837563715829:=()
def tw12438884812649805822:=()
def tw6697323297190333949:=()
def tw9074248609424511536:=()
def tw11411233677425400935:=()
def tw8013808261755660028:=()
def tw14920718019439253321:=()
def tw15324804006589449145:=()
def tw11185284855388627415:=()
def tw16414936045057262497:=()
def tw16539173820394052096:=()
def tw6340820453195992578:=()
def tw351170422274470573:=()
def tw13014583969950051457:=()
def tw4263412859824726369:=()
def tw14012106838332788568:=()
def tw16246247149175934192:=()
def tw1227633013023378262:=()
def tw2304782870597776916:=()
def tw4293599084394659599:=()
def tw7326179790018418346:=()
def tw12243917998574461356:=()
def tw4524280255296187687:=()
def tw11878198755998939060:=()
def tw12279347796120492082:=()
def tw4156347071935602541:=()
def tw8312906158778078416:=()
def tw9984496761707056335:=()
def tw15230139855335362209:=()
def tw7928535775624183765:=()
def tw6193736050732580842:=()
def tw16726201481562546284:=()
def tw6674870758076789029:=()
def tw16416044295392155283:=()
def tw8058978514642992873:=()
def tw5957873805256468315:=()
def tw17800110835025469910:=()
def tw7355979456577025024:=()
def tw4479232633307555778:=()
def tw4409409024836562174:=()
def tw5515971507501625122:=()
def tw6207150044339915987:=()
def tw13738767551675286282:=()
def tw7846218680838364935:=()
def tw18384265452161947692:=()
def tw3616152510413862118:=()
def tw13264180035716713477:=()
def tw11691255823178602245:=()
def tw15319140128923399308:=()
def tw2410401077745815428:=()
def tw16132557028869428999:=()
def tw10225608322098867355:=()
def tw2968455306467641811:=()
def tw8988847935726863524:=()
def tw6436036900329249712:=()
def tw15989932528183023576:=()
def tw8165606266482758969:=()
def tw18265769888854142740:=()
def tw7751409590434451105:=()
def tw5419043705858797991:=()
def tw16406600982160209061:=()
def tw7377346586732167075:=()
def tw5822823708220568015:=()
def tw244274755526524521:=()
def tw13188986919763248693:=()
def tw1879458333816794084:=()
def tw10915142633931617244:=()
def tw993529543019144352:=()
def tw11199341056584420583:=()
def tw3724984936359311263:=()
def tw12726589719485276485:=()
def tw13768730843147882667:=()
def tw14268816527705066212:=()
def tw490409007932143010:=()
def tw17713457556843629199:=()
def tw14595879435081055636:=()
def tw14847625260768248544:=()
def tw1855726499970535622:=()
def tw9396388570791578359:=()
def tw14320896670660129480:=()
def tw14203051763082715218:=()
def tw5246459073910978861:=()
def tw7053122774209229178:=()
def tw6970300550901524350:=()
def tw3764975160172675028:=()
def tw12606671054383542291:=()
def tw4278111278514095156:=()
def tw5699047298256111562:=()
def tw9589761010359497776:=()
def tw11680651443349938013:=()
def tw14838731583516900951:=()
def tw3371147897943357028:=()
def tw1546966062991715168:=()
def tw6047429500008785244:=()
def tw12754916559486782477:=()
def tw16785520013061058357:=()
def tw7160394472744077310:=()
def tw2589536085557591209:=()
def tw15426633925237264593:=()
def tw1039080730878800599:=()
def tw1842106058973136964:=()
def tw15422770323212591100:=()
def tw15995877972066533776:=()
def tw17191547881509966896:=()
def tw3723221547868999456:=()
def tw3055001406601911795:=()
def tw5083054581019646801:=()
def tw10225799507628537650:=()
def tw13014210977117464069:=()
def tw2263243043453264492:=()
def tw16308514124545592402:=()
def tw447174453741716326:=()
def tw5774085433292233102:=()
def tw11209996571389773721:=()
def tw17745070581466980620:=()
def tw7728808952798559351:=()
def tw12416867557198818652:=()
def tw12176776837879371638:=()
def tw13740777344216740632:=()
def tw12518217431930193870:=()
def tw2214928145606112200:=()
def tw3491417499517047517:=()
def tw923121296871207198:=()
def tw6393840645910174433:=()
def tw6453638087195841884:=()
def tw18263684402439121327:=()
def tw7822970609083999278:=()
def tw4372898852788288351:=()
def tw4920398236195464409:=()
def tw4426266133571138530:=()
def tw9349208303525972220:=()
def tw6647043698403331707:=()
def tw8844592925475229179:=()
def tw12187799639264806350:=()
def tw1699128225737253777:=()
def tw14426683800778013957:=()
def tw7527875938921274762:=()
def tw17563629287340410437:=()
def tw5459676123749770529:=()
def tw9779926180816117810:=()
def tw11060043768853600232:=()
def tw59370263808993962:=()
def tw3944980609082090775:=()
def tw1781688370942455260:=()
def tw8468458042724148599:=()
def tw3235198641306033543:=()
def tw18184950352569948367:=()
def tw15730970580739369442:=()
def tw15417132718730319495:=()
def tw5692949722992883483:=()
def tw15646902574080804817:=()
def tw6463375273068430156:=()
def tw7779111537113240747:=()
def tw16484308076441446388:=()
def tw9588848049369321594:=()
def tw10885218470345620454:=()
def tw13234415604464906467:=()
def tw5497229474574542909:=()
def tw17911880524967666768:=()
def tw11723838639138794581:=()
def tw12874520795815369883:=()
def tw7494027550248046755:=()
def tw6339499761115618251:=()
def tw9976066683153417229:=()
def tw307160900735171293:=()
def tw7058572467900028181:=()
def tw464153959384323498:=()
def tw4428832554977307046:=()
def tw13145627513520748849:=()
def tw3169789615186625941:=()
def tw5512156869897304059:=()
def tw6731542031823731706:=()
def tw10945312162300543198:=()
def tw14319888431994373052:=()
def tw3333881363016174947:=()
def tw9309537253800355980:=()
def tw879916060489960224:=()
def tw3979623808317907782:=()
def tw15750392883334579567:=()
def tw16157079704562228313:=()
def tw4840923900722463209:=()
def tw17135440538331480752:=()
def tw531640693052404473:=()
end PySem.W.Fast
set_option maxRecDepth 100000 in
set_option maxHeartbeats 0 in
theorem PySem.Challenge.cw_cluemaker_k52_whole_one_standstill_holds : PySem.Challenge.rw_cluemaker_k52_whole_one_standstill.Holds := by
  w_on; o_law; k_head; (case hw => w_witness2)
  k_fill
  refine L2.walk (l := PySem.Challenge.rw_cluemaker_k52_whole_one_standstill) rfl rfl (fun w h Y => PySem.W.kIn_of Y) ?F
  case F =>
    intro w mg fa h KX G hmg
    refine' L2.HZ KX G hmg ?_ ?_ ?_ ?_ ?_ ?_ ?_ ?_ ?_ ?_ ?_ ?_ ?_ ?_ ?_ ?_ ?_ ?_ ?_ ?_ ?_ ?_ ?_ ?_ ?_ ?_ ?_ ?_ ?_ ?_ ?_ ?_ ?_ ?_ ?_ ?_ ?_ ?_ ?_ ?_ ?_ ?_ ?_ ?_ ?_ ?_ ?_ ?_ ?_ ?_ ?_ ?_ ?_ ?_ ?_ ?_ ?_ ?_ ?_ ?_ ?_ ?_ ?_ ?_ ?_ ?_ ?_ ?_ ?_ ?_ ?_ ?_ ?_ ?_ ?_ ?_ ?_ ?_ ?_ ?_ ?_ ?_ ?_ ?_ ?_ ?_ ?_ ?_ ?_ ?_ ?_ ?_ ?_ ?_ ?_ ?_ ?_ ?_ ?_ ?_ ?_ ?_ ?_ ?_ ?_ ?_ ?_ ?_ ?_ ?_ ?_ ?_ ?_ ?_ ?_ ?_ ?_ ?_ ?_ ?_ ?_ ?_ ?_ ?_ ?_ ?_ ?_ ?_ ?_ ?_ ?_ ?_ ?_ ?_ ?_ ?_ ?_ ?_ ?_ ?_ ?_ ?_ ?_ ?_ ?_ ?_ ?_ ?_ ?_ ?_ ?_ ?_ ?_ ?_ ?_ ?_ ?_ ?_ ?_
    all_goals first
      | (refine' L2.De.of ?a (L2.Dl ?l ?c ?k); (case a => k_is); (case l => k_is); (case c => k_is); case k => k_is)
      | (refine' L2.Me.of (L2.Dl ?l ?c ?k) ?n; (case l => k_is); (case c => k_is); (case k => k_is); case n => k_is)
      | (refine' L2.ClsP.mk ?a ?b ?c ?d ⟨?e, ?f, ?g, ?h⟩; (case a => k_is); (case b => k_is); (case c => k_is); (case d => k_is); (case e => k_is); (case f => k_is); (case g => k_is); case h => k_is)
      | (unfold L2.At8; refine' ⟨?_, ?_, ?_, ?_, ?_, ?_, ?_, ?_⟩ <;> k_is)
      | (refine' L2.GT0.mk' ?a ?b ?x ?y ?c ?d; (case a => k_is); (case b => k_is); (case x => rfl); (case y => rfl); (case c => exact Nat.le_of_lt (L2.aD (by decide))); (case d => repeat' (first | exact .nil | refine' .cons ⟨_, rfl⟩ ?_)))
      | (refine' L2.tz ?a ?b ?k0 ?h0 ?k1 ?h1 ?k2 ?h2 ?k3 ?h3 ?k4 ?h4 ?k5 ?h5 ?k6 ?h6 ?k7 ?h7 ?k8 ?h8; (case a => k_is); (case b => k_is); (case k0 => k_is); (case h0 => first | exact rfl | with_unfolding_all rfl); (case k1 => k_is); (case h1 => first | exact rfl | with_unfolding_all rfl); (case k2 => k_is); (case h2 => first | exact rfl | with_unfolding_all rfl); (case k3 => k_is); (case h3 => first | exact rfl | with_unfolding_all rfl); (case k4 => k_is); (case h4 => first | exact rfl | with_unfolding_all rfl); (case k5 => k_is); (case h5 => first | exact rfl | with_unfolding_all rfl); (case k6 => k_is); (case h6 => first | exact rfl | with_unfolding_all rfl); (case k7 => k_is); (case h7 => first | exact rfl | with_unfolding_all rfl); (case k8 => k_is); case h8 => first | exact rfl | with_unfolding_all rfl)
      | (unfold L2.Zn; refine' ⟨?_, ?_, ?_, ?_, ?_, ?_, ?_, ?_, ?_, ?_, ?_, ?_, ?_, ?_, ?_, ?_, ?_, ?_, ?_⟩ <;> (unfold L2.Nn; k_is))
      | (unfold L2.Nn; k_is)
      | k_is
      | skip
