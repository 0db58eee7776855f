import PyProof.Rows.All
import Wide.All
import OpenK.AllK
import Wide.FinOn
import Lean
import PyProof.EqAt
import PyProof.EqKinds
import PyProof.TupleCall
import PyProof.ZipIter
import PyProof.ConsumeS
import PyProof.StrCalls2
import PyProof.StrWalks
import PyProof.SliceStr2
import PyProof.StrBlock
import PyProof.StrBlockL
import PyProof.ListIndex
import PyProof.StrLawsTight
import PyProof.StrLawsChain
import PyProof.StrLaws
import PyProof.StrLawsFirst
import PyProof.StationsW
import PyProof.ExcClass3
import PyProof.NsDelKeeps
import PyProof.RulesAs
import PyProof.ExcBaseAll.ValueError
import PyProof.ExcArgsOwn
import PyProof.ExcAttrAll.ValueError
import KE.KTryMore
import KE.RegKTryMore
import KE.RegKIsAll
import PyProof.Rows.Range3
import PyProof.Rows.SumGenD
import PyProof.Rows.RuleM_int
import PyProof.EnumMake
import PyProof.EnumFor
import PyProof.EnumStmt
import PyProof.Rows.EnumRows
import KE.KRevIter
import PyProof.ListNew
import PyProof.CollectIter
import PyProof.ListRange
import PyProof.CallStr
import PyProof.StrBlock2
import PyProof.Rows.StrMadeLen
import PyProof.Rows.SetFrom
import PyProof.SetRoads
import PyProof.MeetsStr2
import KE.KRevSl
import PyProof.Conv_int
import PyProof.WalkInts
import PyProof.Rows.SeqMore
import PySem.Challenge.RW_cluemaker_k50_the_next_thought
set_option Elab.async false
set_option linter.all false
set_option maxRecDepth 100000
open PySem.W (Frag nsIn findIn fnOf isFn codeIn keepIn)
set_option maxHeartbeats 40000000
namespace L2
open PySem PySem.Spec PyProof.Rows
abbrev LM:=@List.length_map
abbrev LN:=@List.getElem?_eq_getElem
abbrev LO:=@decide_eq_true_eq
abbrev LP:=@List.getElem?_eq_some_iff
abbrev LR:=@decide_eq_false
abbrev LS:=@List.mem_filter
abbrev LT:=@Bool.and_eq_true
abbrev LU:=@decide_eq_true
abbrev LV:=@List.mem_of_getElem?
abbrev LW:=@List.getElem?_map
abbrev LX:=@of_decide_eq_true
abbrev LY:=@Bool.false_ne_true
abbrev LZ:=@List.mem_range
abbrev L0:=@List.mem_singleton
abbrev L1:=@List.mem_map
abbrev L3:=@List.all_eq_true
abbrev L4:=@if_neg
abbrev L5:=@List.mem_cons_of_mem
abbrev L6:=@List.mem_cons
abbrev L8:=@Nat.le_trans
abbrev L9:=@List.length_filter_le
abbrev Ma:=@List.mem_cons_self
abbrev Mb:=@Bool.false_and
abbrev Md:=@if_pos
abbrev Mf:=@Bool.true_and
abbrev Mg:=@PySem.F.plainAttrs_list
abbrev Mh:=@Heap.get?_push_of_some
abbrev Mi:=@List.size_toArray
abbrev Mj:=@Nat.le_refl
abbrev Ml:=@List.mem_append
abbrev Mm:=@Heap.lt_size
abbrev Mn:=@Bool.eq_iff_iff
abbrev Mp:=@List.getElem_mem
abbrev Mq:=@PassesOwn.never
abbrev Mr:=@List.getElem?_append_left
abbrev Mt:=@List.length_append
abbrev Mu:=@Int.emod_lt_of_pos
abbrev Mv:=@List.map_map
abbrev Mw:=@Nat.lt_of_lt_of_le
abbrev Mx:=@List.length_cons
abbrev My:=@Bool.false_eq_true
abbrev Mz:=@List.getElem?_eq_none
abbrev MA:=@wpAny_bind
abbrev MB:=@List.map_cons
abbrev MC:=@Int.emod_nonneg
abbrev MD:=@List.getElem?_append_right
abbrev ME:=@PySem.F.slot_list_append
abbrev MF:=@PySem.F.type_list_append
abbrev MG:=@List.filter_append
abbrev MH:=@Heap.get?_push_size
abbrev MI:=@List.filter_cons
abbrev MJ:=@decide_eq_false_iff_not
abbrev MK:=@Nat.le_of_lt
abbrev ML:=@Nat.ne_of_lt
abbrev MM:=@List.range_succ
abbrev MN:=@Bool.not_eq_true'
abbrev MO:=@wpAny_pure
abbrev MP:=@List.mem_append_right
abbrev MQ:=@Nat.le_of_ble_eq_true
abbrev MR:=@List.lookup_cons
abbrev MS:=@List.length_range
abbrev MT:=@List.take_of_length_le
abbrev MU:=@PyProof.Rows.callWith_type1
abbrev MV:=@Nat.zero_le
abbrev MW:=@PySem.W.kia_one
abbrev MX:=@List.nodup_cons
abbrev MY:=@List.pairwise_map
abbrev MZ:=@List.eq_nil_of_length_eq_zero
abbrev M0:=@List.length_take
abbrev M1:=@PySem.mem_of_lookup
abbrev M2:=@wpAny_mono
abbrev M3:=@Nat.lt_of_le_of_lt
abbrev M4:=@List.pairwise_cons
abbrev M5:=@Option.map_eq_some_iff
abbrev M6:=@List.take_length
abbrev M7:=@List.getElem?_range
abbrev M8:=@if_true
abbrev M9:=@Option.some.inj
abbrev Na:=@List.foldl_cons
abbrev Nb:=@wpAny_Call_Name_kw
abbrev Nc:=@PySem.F.slot_list_index
abbrev Nd:=@PySem.F.type_list_index
abbrev Nf:=@Bool.false_or
abbrev Ng:=@if_false
abbrev Nh:=@List.map_id'
abbrev Ni:=@List.take_add_one
abbrev Nj:=@List.pairwise_lt_range
abbrev Nk:=@List.mem_flatMap
abbrev Nl:=@Int.zero_add
abbrev Nm:=@List.mem_iff_getElem
abbrev No:=@wpAny_truthy_bool
abbrev Np:=@Nat.lt_succ_of_lt
abbrev Nq:=@List.flatMap_append
abbrev Nr:=@List.set_set
abbrev Nt:=@Nat.lt_irrefl
abbrev Nv:=@List.not_mem_nil
abbrev Nw:=@List.mem_of_find?_eq_some
abbrev Ny:=@List.drop_eq_getElem_cons
abbrev Nz:=@wpAny_passesOwn
abbrev NA:=@List.find?_cons
abbrev NB:=@List.append_assoc
abbrev NC:=@List.ext_getElem?
abbrev ND:=@Int.le_refl
abbrev NE:=@beq_iff_eq
abbrev NF:=@Bool.not_true
abbrev NG:=@List.replicate_succ
abbrev NH:=@Heap.size_push
abbrev NI:=@wpAny_getItem_str_slice
abbrev NJ:=@Int.eq_ofNat_of_zero_le
abbrev NK:=@Int.mul_nonneg
abbrev NL:=@List.length_eq_zero_iff
abbrev NM:=@List.pairwise_singleton
abbrev NN:=@call_meets
abbrev NO:=@List.length_pos_of_mem
abbrev NP:=@List.all_map
abbrev NQ:=@List.map_append
abbrev NR:=@List.any_cons
abbrev NS:=@Int.mul_ediv_add_emod
abbrev NT:=@List.take_sublist
abbrev NU:=@List.nodup_append
abbrev NV:=@Int.ediv_emod_unique
abbrev NW:=@Bool.not_false
abbrev NX:=@List.any_eq_true
abbrev NY:=@List.mem_take_iff_getElem
abbrev NZ:=@List.pairwise_iff_getElem
abbrev N0:=@beq_eq_false_iff_ne
abbrev N1:=@Array.length_toList
abbrev N4:=@Nat.add_le_add_left
abbrev N5:=@List.mergeSort_perm
abbrev N6:=@List.getElem_of_mem
abbrev N7:=@List.map_take
abbrev Oa:=@List.filter_map
abbrev Ob:=@Calls.spliced_cons
abbrev Oc:=@tupleKind_room_in1
abbrev Od:=@List.find?_eq_none
abbrev Oe:=@wpAny_pyIter_list
abbrev Of:=@Calls.spliced_nil
abbrev Og:=@List.flatten_cons
abbrev Oh:=@Bool.true_or
abbrev Oi:=@Int.le_of_lt
abbrev Oj:=@List.nodup_nil
abbrev Ol:=@List.findIdx_lt_length_of_exists
abbrev Om:=@List.foldl_append
abbrev On:=@Int.toNat_natCast
abbrev Oo:=@List.findIdx_cons
abbrev Op:=@Int.ediv_lt_of_lt_mul
abbrev Oq:=@builtinLookup_eq_fast
abbrev Os:=@Nat.lt_succ_self
abbrev Ot:=@PyProof.Rows.callWith_builtin1
abbrev Ou:=@typeIs_str
abbrev Ov:=@Nat.le_add_right
abbrev Ow:=@Nat.min_eq_right
abbrev Ox:=@List.find?_eq_some_iff_getElem
abbrev Oy:=@List.drop_length
abbrev Oz:=@Bool.not_eq_true
abbrev OA:=@Int.mul_le_mul_of_nonneg_right
abbrev OB:=@List.all_cons
abbrev OC:=@List.mem_append_left
abbrev OD:=@Nat.le_succ
abbrev OE:=@Nat.mul_le_mul_right
abbrev OF:=@List.getElem?_of_mem
abbrev OG:=@wpAny_execs_nil
abbrev OH:=@pushCells_keeps
abbrev OI:=@post_val_or_str
abbrev OJ:=@List.find?_some
abbrev OK:=@Int.le_antisymm
abbrev OL:=@List.filterMap_cons
abbrev OM:=@PySem.W.plainGet_of
abbrev ON:=@ne_true_of_eq_false
abbrev OO:=@List.filter_eq_self
abbrev OP:=@List.map_congr_left
abbrev OQ:=@Nat.ne_of_gt
abbrev OR:=@Int.lt_or_le
abbrev OS:=@PySem.F.slot_int_bit_length
abbrev OT:=@PySem.F.type_int_bit_length
abbrev OU:=@Calls.Name_function_global
abbrev OV:=@Int.fdiv_eq_ediv_of_nonneg
abbrev OW:=@PySem.W.kitx_tuple
abbrev OX:=@PySem.W.callWith_K
abbrev OY:=@F.args_str_split_2
abbrev OZ:=@Nat.mul_le_mul
abbrev O0:=@List.take_succ
abbrev O1:=@List.map_replicate
abbrev O4:=@List.mem_replicate
abbrev O5:=@decide_eq_true_iff
abbrev O6:=@PySem.F.slot_dict_getitem
abbrev O7:=@Array.getElem?_eq_getElem
abbrev O8:=@Option.isSome_map
abbrev O9:=@F.entry_str_split
abbrev Pa:=@List.flatMap_cons
abbrev Pb:=@Nat.lt_trichotomy
abbrev Pc:=@wpAny_holding
abbrev Pd:=@wpAny_comprehension_free
abbrev Pe:=@List.Pairwise.imp_of_mem
abbrev Pf:=@PySem.F.slot_list_extend
abbrev Pg:=@PySem.F.type_list_extend
abbrev Ph:=@or_false
abbrev Pi:=@F.slot_str_split
abbrev Pj:=@List.ext_getElem
abbrev Pk:=@List.pairwise_mergeSort
abbrev Pl:=@List.getElem?_set_self
abbrev Pm:=@PySem.W.cellsFrom_some
abbrev Pn:=@subscriptTail_builtinR
abbrev Po:=@Calls.callWith_builtin
abbrev Pp:=@Nat.succ_mul
abbrev Pq:=@Txt.slice_le
abbrev Pr:=@List.drop_eq_nil_of_le
abbrev Ps:=@PySem.F.plainAttrs_int
abbrev Pt:=@PySem.F.plainAttrs_str
abbrev Pu:=@List.append_nil
abbrev Pw:=@List.of_mem_zip
abbrev Px:=@Bool.or_eq_true
abbrev Py:=@typeLookup_type
abbrev Pz:=@Nat.min_eq_left
abbrev PB:=@List.length_singleton
abbrev PC:=@Array.getElem?_toList
abbrev PD:=@PySem.W.methodCall_KW
abbrev PF:=@List.pairwise_flatMap
abbrev PH:=@Ne.symm
abbrev PJ:=@Paired.length
abbrev PK:=@wpAny_standAt
abbrev PL:=@Bool.and_self
abbrev PP:=@codeAny_mono
abbrev PQ:=@Int.ne_of_gt
abbrev PR:=@Int.mul_comm
abbrev PU:=@List.any_map
abbrev PV:=@Int.le_trans
abbrev Key:=Sum Int Str
def keyIs:Key->Value->Bool
 | .inl k,v=>Value.isInt k v
 | .inr x,v=>Value.isStrOf x v
def keyH(w:World):Key->Int
 | .inl k=>hashInt k
 | .inr x=>hashStr w x
theorem bV:∀{k:Key} {v:Value},keyIs k v=true->(∃ i t,k=Sum.inl i/\v=Value.int i t)\/(∃ x t,k=Sum.inr x/\v=Value.str x t)
 | .inl i,v,h=>by
  obtain⟨t,e⟩:=Value.isInt_shape (k:=i) (v:=v) h;exact .inl ⟨i,t,rfl,e⟩
 | .inr x,v,h=>by
  obtain⟨t,e⟩:=Value.isStrOf_shape (x:=x) (v:=v) h;exact .inr ⟨x,t,rfl,e⟩
theorem C7(i:Int)(t:Tok):keyIs (.inl i) (.int i t)=true:=by simp[keyIs,Value.isInt]
theorem C9(x:Str)(t:Tok):keyIs (.inr x) (.str x t)=true:=by simp[keyIs,Value.isStrOf]
theorem GG(a b:Int):decide ((Sum.inl a:Key)=Sum.inl b)=(a==b):=by
 by_cases e:a=b
 . subst e;simp
 . have h:¬ (Sum.inl a:Key)=Sum.inl b:=fun q=>e (Sum.inl.inj q);rw[LR h];exact(N0.mpr e).symm
theorem GH(a b:Str):decide ((Sum.inr a:Key)=Sum.inr b)=decide (a=b):=by
 by_cases e:a=b
 . subst e;simp
 . have h:¬ (Sum.inr a:Key)=Sum.inr b:=fun q=>e (Sum.inr.inj q);rw[LR h,LR e]
theorem GI(a:Int)(b:Str):decide ((Sum.inl a:Key)=Sum.inr b)=false:=LR (fun q=>nomatch q)
theorem GJ(a:Str)(b:Int):decide ((Sum.inr a:Key)=Sum.inl b)=false:=LR (fun q=>nomatch q)
def cm(prog:Program)(w:World):PySem.KeyKind prog w Key where
 is:=keyIs
 hash:=keyH w
 inj:=fun v a b ha hb=>by
  rcases bV ha with ⟨i,t,rfl,rfl⟩ | ⟨x,t,rfl,rfl⟩
  . rcases bV hb with ⟨j,u,rfl,e⟩ | ⟨y,u,rfl,e⟩
    . injection e with e1 _;rw[e1]
    . exact nomatch e
  . rcases bV hb with ⟨j,u,rfl,e⟩ | ⟨y,u,rfl,e⟩
    . exact nomatch e
    . injection e with e1 _;rw[e1]
 byValue:=fun k v h=>by
  rcases bV h with ⟨i,t,rfl,rfl⟩ | ⟨x,t,rfl,rfl⟩ <;> rfl
 pyHash:=fun hv h=>by
  rcases bV hv with ⟨i,t,rfl,rfl⟩ | ⟨x,t,rfl,rfl⟩
  . exact wpAny_pyHash_int h
  . exact wpAny_pyHash_str h
 eqBool:=fun hu hv h=>by
  rcases bV hu with ⟨i,t,rfl,rfl⟩ | ⟨x,t,rfl,rfl⟩
  . rcases bV hv with ⟨j,u,rfl,rfl⟩ | ⟨y,u,rfl,rfl⟩
    . rw[GG] at h;exact wpAny_eqBool_int h
    . rw[GI] at h;exact SeqAt.EqAt.int_str i t y u _ _ _ _ h
  . rcases bV hv with ⟨j,u,rfl,rfl⟩ | ⟨y,u,rfl,rfl⟩
    . rw[GJ] at h;exact SeqAt.EqAt.str_int x t j u _ _ _ _ h
    . rw[GH] at h;exact wpAny_eqBool_str h
 «strs»:=fun k x t v h=>by
  rcases bV h with ⟨i,u,rfl,e⟩ | ⟨y,u,rfl,e⟩
  . exact nomatch e
  . injection e with e1 _;subst e1;cases v <;> rfl
theorem A0(prog:Program)(w:World)(i:Int)(t:Tok):(cm prog w).is (.inl i) (.int i t)=true:=C7 i t
theorem A1(prog:Program)(w:World)(x:Str)(t:Tok):(cm prog w).is (.inr x) (.str x t)=true:=C9 x t
inductive V where
 | non | bl (b:Bool) | int (i:Int) | str (x:Str) | byt (b:Array UInt8) | flt (b:UInt64) | ref (a:Addr) | ty (n:String)
 deriving DecidableEq
def RelV:V->Value->Prop
 | .non,u=>u=Value.none
 | .bl b,u=>u=Value.bool b
 | .int i,u=>∃ t,u=Value.int i t
 | .str x,u=>∃ t,u=Value.str x t
 | .byt b,u=>∃ t,u=Value.bytes b t
 | .flt b,u=>∃ t,u=Value.float b t
 | .ref a,u=>u=Value.ref a
 | .ty n,u=>u=Value.type n
abbrev Vals:List V->List Value->Prop:=Paired RelV
theorem Vals.length{xs:List V}{us:List Value}(r:Vals xs us):xs.length=us.length:=PJ r
theorem Vals.get:∀{xs:List V} {us:List Value} {i:Nat} {x:V},Vals xs us->xs[i]? =some x->∃ u,us[i]? =some u/\RelV x u
 | _,_,_,_,.nil,e=>by simp at e
 | _,_,0,_,.cons r _,e=>by simp at e;subst e;exact⟨_,rfl,r⟩
 | _,_,i+1,x,.cons _ t,e=>by
  obtain⟨u,h1,h2⟩:=Vals.get (i:=i) (x:=x) t (by simpa using e);exact⟨u,by simpa using h1,h2⟩
theorem Vals.append:∀{xs ys:List V} {us ws:List Value},Vals xs us->Vals ys ws->Vals (xs++ys) (us++ws)
 | _,_,_,_,.nil,s=>s
 | _,_,_,_,.cons r t,s=>.cons r (Vals.append t s)
theorem Vals.take:∀{xs:List V} {us:List Value} (n:Nat),Vals xs us->Vals (xs.take n) (us.take n)
 | _,_,0,_=>.nil
 | _,_,_+1,.nil=>.nil
 | _,_,n+1,.cons r t=>.cons r (Vals.take n t)
theorem Vals.drop:∀{xs:List V} {us:List Value} (n:Nat),Vals xs us->Vals (xs.drop n) (us.drop n)
 | _,_,0,r=>r
 | _,_,_+1,.nil=>.nil
 | _,_,n+1,.cons _ t=>Vals.drop n t
def RelO:Option V->Option Value->Prop
 | some v,some u=>RelV v u
 | none,none=>True
 | _,_=>False
def KV{κ:Type}:List (κ × V)->List (κ × Value)->Prop:=Paired fun(p:κ × V) (q:κ × Value)=>p.1=q.1/\RelV p.2 q.2
def kV:Key->V
 | .inl i=>.int i
 | .inr x=>.str x
inductive HO where
  | lst (xs:List V)
  | tup (xs:List V)
  | dK (LE:List (Key × V)) | dT (LE:List (List Key × V))
  | set (S:Int->Bool) (n:Nat)
  | ins (C dx:Addr) (fs:List (Str × V))
  | own (x:Addr)
  | xd (fs:List (Str × V))
  | met (f x:Addr)
  | rng (lo hi:Int)
  | frz (o:Obj) (u:HO)
  | tbl (ps:Array Value)
  | ext (φ:Heap->Prop)
abbrev Hp:=Addr->Option HO
def upd(H:Hp)(a:Addr)(o:HO):Hp:=fun b=>if b=a then some o else H b
variable{H:Hp}{a:Addr}{o:HO}
theorem ag:upd H a o a=some o:=by unfold upd;rw[Md rfl]
variable{b:Addr}
theorem ak(h:b≠a):upd H a o b=H b:=by unfold upd;rw[L4 h]
theorem HM{u:HO}(h:H a=some o)(h':H b=some u)(d:o≠u):a≠b:=by
 intro e;subst e;rw[h] at h';exact d (M9 h')
theorem aA(h:H a=some o)(h':H b=none):a≠b:=by
 intro e;subst e;rw[h] at h';cases h'
section
variable(P:Program)(w:World)
def ObjOk(H:Hp)(h:Heap)(a:Addr):HO->Prop
 | .lst xs=>xs.length<=sizeLine/\∃(LF:List Value) (n:Nat),Vals xs LF/\h.get? a=some {cls:=.type "list",data:=.seq LF.toArray n}
 | .tup xs=>xs.length<=sizeLine/\∃ LF:List Value,Vals xs LF/\IsTup h a LF.toArray
 | .dK LE=>LE.length<=sizeLine/\(a==sysModules)=false/\∃ vs,KV LE vs/\h.DictOf (cm P w) a vs
 | .dT LE=>LE.length<=sizeLine/\(a==sysModules)=false/\∃ xs:List (List Key × Addr × Value),
   Paired (fun(p:List Key × V) (q:List Key × Addr × Value)=>p.1=q.1/\H q.2.1=some (.tup (p.1.map kV))/\RelV p.2 q.2.2) LE xs/\
   ∃ o es ep,h.get? a=some o/\o.ExactDict/\o.data=.dict es ep/\es.toList=xs.map (entryOfKey (tupleKind (cm P w)))/\(xs.map (·.1)).Nodup
 | .set S n=>h.SetOf (intKind P w) a S n
 | .ins C dx fs=>H dx=some (.own a)/\fs.length<=1000/\dx≠a/\h.get? a=some (PySem.W.instObj C dx)/\
   ∃ mA,h.Ns1 dx mA/\(∀ f,RelO (fs.lookup f) (mA f))/\PySem.Within mA (fs.map (·.1))
 | .own _=>∃ o,h.get? a=some o
 | .xd fs=>∃ mA,h.Ns1 a mA/\∀ f,RelO (fs.lookup f) (mA f)
 | .rng lo hi=>∃ t u v,h.get? a=some {cls:=.type "range",data:=.fields #[.int lo t,.int hi u,.int 1 v]}
 | .frz o u=>h.get? a=some o/\ObjOk H h a u
 | .tbl ps=>h.get? a=some {cls:=.none,data:=.fields ps}
 | .met f x=>h.get? a=some (PySem.W.methodObj (.ref f) (.ref x))
 | .ext φ=>φ h/\(∃ o,h.get? a=some o)/\∀ h1 h2:Heap,φ h1->(∀ o,h1.get? a=some o->h2.get? a=some o)->φ h2
def HOk(H:Hp)(h:Heap):Prop:=∀ a o,H a=some o->ObjOk P w H h a o
end
section
variable{P:Program}{w:World}{H H':Hp}{h h':Heap}{a:Addr}{o:HO}
theorem ObjOk.lt(x:ObjOk P w H h a o):a<h.objs.size:=by
 cases o with
 | lst xs=>obtain⟨_,_,_,_,e⟩:=x;exact Mm e
 | tup xs=>obtain⟨_,_,_,p⟩:=x;exact p.lt
 | dK LE=>obtain⟨_,_,_,_,o,_,_,e,_⟩:=x;exact Mm e
 | dT LE=>obtain⟨_,_,_,_,o,_,_,e,_⟩:=x;exact Mm e
 | set S n=>obtain⟨o,_,_,_,e,_⟩:=x;exact Mm e
 | ins C dx fs=>obtain⟨_,_,_,e,_⟩:=x;exact Mm e
 | own y=>obtain⟨_,e⟩:=x;exact Mm e
 | xd fs=>obtain⟨_,⟨_,_,_,e,_⟩,_⟩:=x;exact Mm e
 | rng lo hi=>obtain⟨_,_,_,e⟩:=x;exact Mm e
 | frz ob u=>obtain⟨e,_⟩:=x;exact Mm e
 | tbl ps=>exact Mm (show h.get? a=some _ from x)
 | met f y=>exact Mm (show h.get? a=some _ from x)
 | ext φ=>obtain⟨_,⟨_,e⟩,_⟩:=x;exact Mm e
theorem Paired.mapP{α β:Type}{F G:α->β->Prop}:∀{l₁:List α} {l₂:List β},Paired F l₁ l₂->(∀ a b,F a b->G a b)->Paired G l₁ l₂
 | _,_,.nil,_=>.nil
 | _,_,.cons r t,f=>.cons (f _ _ r) (Paired.mapP t f)
theorem ObjOk.stay (x:ObjOk P w H h a o) (k:∀ b u,(b=a\/H b=some (.own a))->h.get? b=some u->h'.get? b=some u)
  (ho:∀ b,H b=some (.own a)->H' b=some (.own a)) (ht:∀ b xs,H b=some (.tup xs)->H' b=some (.tup xs)):ObjOk P w H' h' a o:=by
 induction o with
 | lst xs=>obtain⟨z,LF,n,r,e⟩:=x;exact⟨z,LF,n,r,k _ _ (.inl rfl) e⟩
 | tup xs=>obtain⟨z,LF,r,ob,e,c⟩:=x;exact⟨z,LF,r,ob,k _ _ (.inl rfl) e,c⟩
 | dK LE=>obtain⟨z,y,vs,r,ob,es,ep,e,c⟩:=x;exact⟨z,y,vs,r,ob,es,ep,k _ _ (.inl rfl) e,c⟩
 | dT LE=>
  obtain⟨z,y,xs,r,ob,es,ep,e,c⟩:=x;exact⟨z,y,xs,Paired.mapP r fun p q z=>⟨z.1,ht _ _ z.2.1,z.2.2⟩,ob,es,ep,k _ _ (.inl rfl) e,c⟩
 | set S n=>obtain⟨ob,es,ep,t,e,c⟩:=x;exact⟨ob,es,ep,t,k _ _ (.inl rfl) e,c⟩
 | ins C dx fs=>
  obtain⟨d,z,ne,e,mA,⟨od,es,ep,e2,c⟩,r⟩:=x;exact⟨ho _ d,z,ne,k _ _ (.inl rfl) e,mA,⟨od,es,ep,k _ _ (.inr d) e2,c⟩,r⟩
 | own y=>obtain⟨ob,e⟩:=x;exact⟨ob,k _ _ (.inl rfl) e⟩
 | xd fs=>obtain⟨mA,⟨od,es,ep,e,c⟩,r⟩:=x;exact⟨mA,⟨od,es,ep,k _ _ (.inl rfl) e,c⟩,r⟩
 | rng lo hi=>obtain⟨t,u,v,e⟩:=x;exact⟨t,u,v,k _ _ (.inl rfl) e⟩
 | frz ob u ih=>obtain⟨e,q⟩:=x;exact⟨k _ _ (.inl rfl) e,ih q⟩
 | tbl ps=>
  have e:h.get? a=some {cls:=.none,data:=.fields ps}:=x;show h'.get? a=some {cls:=.none,data:=.fields ps};exact k a _ (.inl rfl) e
 | met f y=>
  have e:h.get? a=some (PySem.W.methodObj (.ref f) (.ref y)):=x;show h'.get? a=some (PySem.W.methodObj (.ref f) (.ref y));exact k a _ (.inl rfl) e
 | ext φ=>obtain⟨p,⟨o,e⟩,st⟩:=x;exact⟨st _ _ p fun o q=>k _ _ (.inl rfl) q,⟨o,k _ _ (.inl rfl) e⟩,st⟩
theorem HOk.lt(x:HOk P w H h)(e:H a=some o):a<h.objs.size:=(x a o e).lt
theorem HOk.fresh(x:HOk P w H h)(e:h.objs.size<=a):H a=none:=by
 cases q:H a with
 | none=>rfl
 | some u=>exact absurd (Mw (x.lt q) e) (Nt _)
theorem HOk.kept(x:HOk P w H h)(k:∀ b u,h.get? b=some u->h'.get? b=some u):HOk P w H h':=fun a o e=>
 (x a o e).stay (fun b u _ q=>k b u q) (fun _ q=>q) fun _ _ q=>q
theorem HOk.laid(x:HOk P w H h)(k:∀ b u,h.get? b=some u->h'.get? b=some u)(hp:h.objs.size<=a)(new:ObjOk P w (upd H a o) h' a o):HOk P w (upd H a o) h':=fun b u e=>by
 have hn:=x.fresh hp;by_cases hb:b=a
 . subst hb;rw[ag] at e;cases e;exact new
 . rw[ak hb] at e;exact(x b u e).stay (fun c v _ q=>k c v q) (fun c q=>by rw[ak (aA q hn)];exact q) fun c xs q=>by rw[ak (aA q hn)];exact q
end
def Rd(H:Hp)(a:Addr)(u:HO):Prop:=H a=some u\/∃ o,H a=some (.frz o u)
variable{h:Heap}
theorem Rd.ok{P:Program}{w:World}{u:HO}(r:Rd H a u)(x:HOk P w H h):ObjOk P w H h a u:=by
 rcases r with r | ⟨o,r⟩
 . exact x a u r
 . obtain⟨_,q⟩:=x a _ r;exact q
def Mut:Option HO->Prop
 | some (.lst _)=>True
 | some (.dK _)=>True
 | some (.dT _)=>True
 | some (.set _ _)=>True
 | some (.ins _ _ _)=>True
 | some (.ext _)=>True
 | _=>False
section
variable{P:Program}{w:World}{H:Hp}{h h':Heap}{x e:Addr}{o':HO}
theorem HOk.write (ok:HOk P w H h) (mu:Mut (H x)) (he:e=x\/H e=some (.own x)) (k:∀ b u,b≠e->h.get? b=some u->h'.get? b=some u) (heo:∃ u,h'.get? e=some u)
  (new:ObjOk P w (upd H x o') h' x o'):HOk P w (upd H x o') h':=fun b u q=>by
 have nown:∀ c y,H c=some (.own y)->c≠x:=fun c y r z=>by subst z;rw[r] at mu;exact mu
 have ntup:∀ c xs,H c=some (.tup xs)->c≠x:=fun c xs r z=>by subst z;rw[r] at mu;exact mu
 by_cases hb:b=x
 . subst hb;rw[ag] at q;cases q;exact new
 . rw[ak hb] at q;by_cases hbe:b=e
   . have q':H b=some (.own x):=by
      rcases he with z | z
      . exact absurd (hbe.trans z) hb
      . rw[hbe];exact z
     rw[q] at q';cases q';obtain⟨v,hv⟩:=heo;exact⟨v,by rw[hbe];exact hv⟩
   . refine(ok b u q).stay (fun c v hc r=>k c v ?_ r) (fun c r=>by rw[ak (nown c b r)];exact r) fun c xs r=>by rw[ak (ntup c xs r)];exact r
     rcases hc with rfl | hc
     . exact hbe
     . rintro rfl;rcases he with z | z
       . exact nown c b hc z
       . rw[hc] at z;cases z;exact hb rfl
end
structure Un(fs ex:List Addr)(H H':Hp)(h h':Heap):Prop where
 keep:∀ b o,h.get? b=some o->H b=none->b∉fs->b∉ex->h'.get? b=some o
 slot:∀ b o,h.get? b=some o->H b=none->b∈fs->b∉ex->∃ sl,h'.get? b=some {o with slots:=sl}
 free:∀ b o,h.get? b=some o->H b=none->b∉ex->H' b=none
 there:∀ b o,h.get? b=some o->b∉ex->∃ o',h'.get? b=some o'
 tups:∀ b xs,H b=some (.tup xs)->H' b=some (.tup xs)
 frzs:∀ b o u,H b=some (.frz o u)->H' b=some (.frz o u)
 tbls:∀ b ps,H b=some (.tbl ps)->∃ more,H' b=some (.tbl (ps++more))
section
variable{fs fs' ex ex':List Addr}{H H1 H2:Hp}{h h1 h2 h':Heap}{a x e:Addr}{o:HO}
theorem Un.any(u:Un fs ex H H1 h h1){b:Addr}{ob:Obj}(q:h.get? b=some ob)(n:H b=none)(hx:b∉ex):∃ sl,h1.get? b=some {ob with slots:=sl}:=by
 by_cases hb:b∈fs
 . exact u.slot b ob q n hb hx
 . exact⟨ob.slots,u.keep b ob q n hb hx⟩
theorem Un.kept(k:∀ b u,h.get? b=some u->h'.get? b=some u):Un fs ex H H h h':=
 ⟨fun b ob q _ _ _=>k b ob q,fun b ob q _ _ _=>⟨ob.slots,k b ob q⟩,fun _ _ _ n _=>n,fun b ob q _=>⟨ob,k b ob q⟩,fun _ _ q=>q,fun _ _ _ q=>q,fun _ ps q=>⟨#[],by rw[q];simp⟩⟩
theorem Un.refl:Un fs ex H H h h:=Un.kept fun _ _ q=>q
theorem Un.laid(k:∀ b u,h.get? b=some u->h'.get? b=some u)(hp:h.objs.size<=a)(hn:H a=none):Un fs ex H (upd H a o) h h' where
 keep:=fun b u q _ _ _=>k b u q
 slot:=fun b u q _ _ _=>⟨u.slots,k b u q⟩
 free:=fun b u q n _=>by rw[ak (ML (Mw (Mm q) hp))];exact n
 there:=fun b u q _=>⟨u,k b u q⟩
 tups:=fun b xs q=>by rw[ak (aA q hn)];exact q
 frzs:=fun b u xs q=>by rw[ak (aA q hn)];exact q
 tbls:=fun b ps q=>⟨#[],by rw[ak (aA q hn),q];simp⟩
theorem Un.write(mu:Mut (H x))(he:e=x\/H e=some (.own x))(k:∀ b u,b≠e->h.get? b=some u->h'.get? b=some u)(heo:∃ u,h'.get? e=some u):Un fs ex H (upd H x o) h h':=by
 have hx:∀ b,H b=none->b≠x:=fun b n z=>by subst z;rw[n] at mu;exact mu
 have hb:∀ b,H b=none->b≠e:=fun b n z=>by
  subst z;rcases he with r | r
  . exact hx b n r
  . rw[n] at r;cases r
 have hm:∀ b u,H b=some u->¬ Mut (some u)->b≠x:=fun b u q nm z=>by subst z;rw[q] at mu;exact nm mu
 refine⟨fun b u q n _ _=>k b u (hb b n) q,fun b u q n _ _=>⟨u.slots,k b u (hb b n) q⟩,fun b u q n _=>by rw[ak (hx b n)];exact n,fun b u q _=>?_,
  fun b xs q=>by rw[ak (hm b _ q fun z=>z)];exact q,fun b u xs q=>by rw[ak (hm b _ q fun z=>z)];exact q,fun b ps q=>⟨#[],by rw[ak (hm b _ q fun z=>z),q];simp⟩⟩
 by_cases hbe:b=e
 . subst hbe;exact heo
 . exact⟨u,k b u hbe q⟩
end
def trk(h:Heap)(H:Hp):List Addr:=(List.range h.objs.size).filter fun a=>(H a).isSome
def hidT(h:Heap)(H:Hp):Heap:=PySem.W.hideAll h (trk h H)
theorem Da(h:Heap)(H:Hp):(hidT h H).objs.size=h.objs.size:=PySem.W.hideAll_size _ _
theorem EM{o:Obj}(e:h.get? b=some o)(n:H b=none):(hidT h H).get? b=some o:=
 PySem.W.hideAll_get _ e fun hm=>by
  have q:(H b).isSome=true:=(LS.mp hm).2;rw[n] at q;simp at q
theorem FH{o:Obj}(e:(hidT h H).get? b=some o):h.get? b=some o/\H b=none:=by
 have e':h.get? b=some o:=PySem.W.of_hideAll (trk h H) e;refine⟨e',?_⟩
 cases q:H b with
 | none=>rfl
 | some x=>
  have hm:b∈trk h H:=LS.mpr ⟨LZ.mpr (Mm e'),by simp[q]⟩;have z:(hidT h H).get? b=none:=PySem.W.hideAll_none (trk h H) hm;rw[z] at e;cases e
structure Mod(K:Frag)(mg:Str->Option Value)(base:Heap):Prop where
 kin:K.In base
 glob:base.Ns mainGlobals mg
 blt:∃ mb,base.Ns builtinsNs mb/\∀ x:Str,x≠"__name__"->mb x=bootBuiltins x
 nolimit:base.NoLimit
structure Cx where
 prog:Program
 w:World
 K:Frag
 mg:Str->Option Value
 base:Heap
 A:Around
 N:List Str
 s₀:Shared
 H₀:Hp
 env:Env
 outer:List Env
 stack:List Env
 ex:List Addr
 fn:Str->Bool
 calm:Bool
 pn:List (Addr × Obj)
 xe:Value->Shared->Prop
def frs(l:List Env):List Addr:=l.filterMap (·.frame)
abbrev Cx.fs(X:Cx):List Addr:=frs X.outer
def Vis(sc:Scope)(x:Str):Prop:=sc.names.lookup x=some .local\/sc.names.lookup x=some .cell\/sc.names.lookup x=some .free
def Loc(sc:Scope)(x:Str):Prop:=sc.names.lookup x=some .local\/sc.names.lookup x=some .cell
def Look(env:Env)(h:Heap)(m:Str->Option Value)(x:Str)(u:Value):Prop:=
 (env.kindOf x=some .local/\m x=some u)\/((env.kindOf x=some .cell\/env.kindOf x=some .free)/\∃ c,env.cells.lookup x=some c/\h.IsCell c (some u))
structure Cx.Ok(X:Cx):Prop where
 mod:Mod X.K X.mg X.base
 kind:X.env.scope.kind=.function
 glob:X.env.globals=mainGlobals
 blt:X.env.builtins=builtinsNs
 above:X.s₀.heap.objs.size<=X.env.locals
 inj:∀ x y c,X.env.cells.lookup x=some c->X.env.cells.lookup y=some c->x=y
 has:∀ x,(X.env.kindOf x=some .cell\/X.env.kindOf x=some .free)->∃ c,X.env.cells.lookup x=some c
 cab:∀ x c,X.fn x=true->X.env.cells.lookup x=some c->X.s₀.heap.objs.size<=c
 hd:X.calm=true->X.A.handled=none
 frames:X.A.frames=some X.stack
 stk:X.stack=X.outer\/(X.stack=X.env::X.outer/\X.env.frame=some X.env.locals)
 exf:∀ b∈X.ex,b≠X.env.locals/\∀ x c,X.env.cells.lookup x=some c->c≠b
 bs:∀ b o,X.base.get? b=some o->X.s₀.heap.get? b=some o/\X.H₀ b=none
 bsz:X.base.objs.size<=X.s₀.heap.objs.size
 noex:∀ b o,X.base.get? b=some o->b∉X.ex
 exfs:∀ b∈X.ex,b∉X.fs
 funs:X.s₀.heap.FunFrames X.base X.outer
 frf:∀ b∈X.fs,X.H₀ b=none
structure Inv(X:Cx)(LB:List (Addr × Obj))(σ:List (Option V))(H:Hp)(s:Shared):Prop where
 ok:X.Ok
 os:s.os=X.s₀.os
 bare:AllBare s.gens
 base:Un X.fs X.ex X.H₀ H X.s₀.heap s.heap
 loc:∃ m,s.heap.Ns X.env.locals m/\∀(i:Nat) (x:Str) (v:V),X.N[i]? =some x->σ[i]? =some (some v)->Vis X.env.scope x->∃ u,RelV v u/\Look X.env s.heap m x u
 cell:∀ x c,X.env.cells.lookup x=some c->∃ v,s.heap.IsCell c v
 free:H X.env.locals=none
 freeC:∀ x c,X.env.cells.lookup x=some c->H c=none
 pin:∀ p∈X.pn++LB,s.heap.get? p.1=some p.2/\H p.1=none/\p.1≠X.env.locals/\p.1∉X.fs/\∀ v,p.2.data≠.cell v
 hok:HOk X.prog X.w H s.heap
 len:σ.length=X.N.length
section
variable{X:Cx}{LB:List (Addr × Obj)}{σ:List (Option V)}{H H':Hp}{s:Shared}{h':Heap}
theorem Cx.Ok.nofr(ok:X.Ok){b:Addr}{o:Obj}(e:X.base.get? b=some o):b∉X.fs:=fun hb=>by
 have:=(ok.funs.mem hb).1;rw[e] at this;cases this
theorem Inv.bs(I:Inv X LB σ H s):∀ b o,X.base.get? b=some o->s.heap.get? b=some o/\H b=none:=fun b o e=>
 ⟨I.base.keep b o (I.ok.bs b o e).1 (I.ok.bs b o e).2 (I.ok.nofr e) (I.ok.noex b o e),I.base.free b o (I.ok.bs b o e).1 (I.ok.bs b o e).2 (I.ok.noex b o e)⟩
theorem Inv.bk(I:Inv X LB σ H s):∀ b o,X.base.get? b=some o->s.heap.get? b=some o:=fun b o e=>(I.bs b o e).1
theorem Inv.mod(I:Inv X LB σ H s):Mod X.K X.mg X.base:=I.ok.mod
theorem Inv.kIn(I:Inv X LB σ H s):X.K.In s.heap:=I.ok.mod.kin.keeps I.bk
theorem Inv.lt(I:Inv X LB σ H s):X.env.locals<s.heap.objs.size:=let ⟨_,hn,_⟩:=I.loc;hn.lt
theorem Inv.sz(I:Inv X LB σ H s):X.s₀.heap.objs.size<=s.heap.objs.size:=L8 I.ok.above (MK I.lt)
theorem Inv.nofs(I:Inv X LB σ H s){a:Addr}(h:s.heap.objs.size<=a):a∉X.fs:=fun hb=>by
 obtain⟨_,o,ho,_⟩:=I.ok.funs.mem hb;exact absurd (Mw (Mm ho) (L8 I.sz h)) (Nt _)
theorem Inv.cne(I:Inv X LB σ H s):∀ x c,X.env.cells.lookup x=some c->c≠X.env.locals:=fun x c e z=>by
 obtain⟨v,o,ho,hd⟩:=I.cell x c e;obtain⟨m,⟨o',es,ep,ho',hd',_⟩,_⟩:=I.loc;rw[z,ho'] at ho;cases ho;rw[hd'] at hd;cases hd
theorem Inv.funs(I:Inv X LB σ H s):s.heap.FunFrames X.base X.outer:=by
 have all:∀(l:List Env),(∀ b∈frs l,b∈X.fs)->X.s₀.heap.FunFrames X.base l->s.heap.FunFrames X.base l:=by
  intro l
  induction l with
  | nil=>intro _ _;trivial
  | cons env r ih=>
   intro hs hl;obtain⟨hk,⟨L,o,hf,hn,ho,hd⟩,hr⟩:=hl;have hL:L∈X.fs:=hs L (by unfold frs;rw[OL,hf];exact Ma);obtain⟨sl,e⟩:=I.base.slot L o ho (I.ok.frf L hL) hL fun z=>I.ok.exfs L z hL;exact⟨hk,⟨L,_,hf,hn,e,hd⟩,ih (fun b hb=>hs b (by unfold frs;rw[OL,hf];exact L5 _ hb)) hr⟩
 exact all X.outer (fun _ hb=>hb) I.ok.funs
theorem Inv.stack(I:Inv X LB σ H s):s.heap.FunFrames X.base X.stack:=by
 rcases I.ok.stk with e | ⟨e,hf⟩
 . rw[e];exact I.funs
 . rw[e];obtain⟨m,hn,_⟩:=I.loc;refine .cons (by rw[I.ok.kind];decide) hf hn ?_ I.funs;exact Heap.get?_none_of_le (L8 I.ok.bsz I.ok.above)
theorem Inv.stkSub(I:Inv X LB σ H s):∀ b∈frs X.stack,b∈X.env.locals::X.fs:=fun b hb=>by
 rcases I.ok.stk with e | ⟨e,hf⟩
 . rw[e] at hb;exact L5 _ hb
 . rw[e] at hb;unfold frs at hb;rw[OL,hf] at hb;exact hb
theorem Inv.stkFree(I:Inv X LB σ H s):∀ b∈frs X.stack,H b=none:=fun b hb=>by
 rcases L6.mp (I.stkSub b hb) with e | hb
 . rw[e];exact I.free
 . obtain⟨_,o,ho,_⟩:=I.ok.funs.mem hb;exact I.base.free b o ho (I.ok.frf b hb) fun z=>I.ok.exfs b z hb
theorem Inv.step {g':Array GenState} {t':Nat} {d':Drawn} {ch:List Addr} (I:Inv X LB σ H s)
  (hch:∀ b∈ch,(b∈X.ex\/X.s₀.heap.objs.size<=b)/\b≠X.env.locals/\(∀ x c,X.env.cells.lookup x=some c->c≠b)/\∀ p∈X.pn++LB,p.1≠b)
  (keep:∀ b o,b≠X.env.locals->b∉X.fs->b∉ch->s.heap.get? b=some o->H b=none->h'.get? b=some o)
  (slot:∀ b o,b≠X.env.locals->b∈X.fs->b∉ch->s.heap.get? b=some o->H b=none->∃ sl,h'.get? b=some {o with slots:=sl}) (free:∀ b o,b∉ch->s.heap.get? b=some o->H b=none->H' b=none)
  (there:∀ b o,b∉ch->s.heap.get? b=some o->∃ o',h'.get? b=some o')
  (tups:∀ b xs,H b=some (.tup xs)->H' b=some (.tup xs)) (frzs:∀ b o u,H b=some (.frz o u)->H' b=some (.frz o u)) (tbls:∀ b ps,H b=some (.tbl ps)->∃ more,H' b=some (.tbl (ps++more)))
  (ns:∀ m,s.heap.Ns X.env.locals m->h'.Ns X.env.locals m) (hok:HOk X.prog X.w H' h') (hg:AllBare g'):
  Inv X LB σ H' {s with heap:=h',gens:=g',drawn:=d',toks:=t'}:=by
 have neL:∀ b o,X.s₀.heap.get? b=some o->b≠X.env.locals:=fun b o e=>ML (Mw (Mm e) I.ok.above)
 have neC:∀ b o,X.s₀.heap.get? b=some o->b∉X.ex->b∉ch:=fun b o e hx hb=>by
  rcases(hch b hb).1 with z | z
  . exact hx z
  . exact absurd (Mw (Mm e) z) (Nt _)
 have cellK:∀ x c,X.env.cells.lookup x=some c->∀ v,s.heap.IsCell c v->h'.IsCell c v:=fun x c e v ⟨o,ho,hd⟩=>by
  have nch:c∉ch:=fun z=>(hch c z).2.2.1 x c e rfl;by_cases hc:c∈X.fs
  . obtain⟨sl,q⟩:=slot c o (I.cne x c e) hc nch ho (I.freeC x c e);exact⟨_,q,hd⟩
  . exact⟨o,keep c o (I.cne x c e) hc nch ho (I.freeC x c e),hd⟩
 refine⟨I.ok,I.os,hg,⟨fun b o e n hb hx=>?_,fun b o e n hb hx=>?_,fun b o e n hx=>?_,fun b o e hx=>?_,fun b xs e=>tups b xs (I.base.tups b xs e),fun b o xs e=>frzs b o xs (I.base.frzs b o xs e),fun b ps e=>?_⟩,?_,fun x c e=>?_,?_,fun x c e=>?_,fun p hp=>?_,hok,I.len⟩
 . exact keep b o (neL b o e) hb (neC b o e hx) (I.base.keep b o e n hb hx) (I.base.free b o e n hx)
 . obtain⟨sl,e1⟩:=I.base.slot b o e n hb hx;obtain⟨sl',e2⟩:=slot b _ (neL b o e) hb (neC b o e hx) e1 (I.base.free b o e n hx);exact⟨sl',e2⟩
 . obtain⟨o',e1⟩:=I.base.there b o e hx;exact free b o' (neC b o e hx) e1 (I.base.free b o e n hx)
 . obtain⟨o',e1⟩:=I.base.there b o e hx;exact there b o' (neC b o e hx) e1
 . obtain⟨m1,e1⟩:=I.base.tbls b ps e;obtain⟨m2,e2⟩:=tbls b _ e1;exact⟨m1++m2,by rw[e2,Array.append_assoc]⟩
 . obtain⟨m,hn,hl⟩:=I.loc;refine⟨m,ns m hn,fun i x v e1 e2 e3=>?_⟩;obtain⟨u,r,l⟩:=hl i x v e1 e2 e3;refine⟨u,r,?_⟩;rcases l with l | ⟨k,c,e,z⟩
   . exact .inl l
   . exact .inr ⟨k,c,e,cellK x c e _ z⟩
 . obtain⟨v,z⟩:=I.cell x c e;exact⟨v,cellK x c e v z⟩
 . obtain⟨m,⟨o,_,_,ho,_⟩,_⟩:=I.loc;exact free _ o (fun z=>(hch _ z).2.1 rfl) ho I.free
 . obtain⟨v,o,ho,hd⟩:=I.cell x c e;exact free c o (fun z=>(hch c z).2.2.1 x c e rfl) ho (I.freeC x c e)
 . obtain⟨e,n,ne,nf,d⟩:=I.pin p hp;have nch:p.1∉ch:=fun z=>(hch p.1 z).2.2.2 p hp rfl;exact⟨keep p.1 p.2 ne nf nch e n,free p.1 p.2 nch e n,ne,nf,d⟩
theorem Inv.un{t':Nat}(I:Inv X LB σ H s)(u:Un X.fs [] H H' s.heap h')(hok:HOk X.prog X.w H' h'):Inv X LB σ H' {s with heap:=h',toks:=t'}:=by
 obtain⟨m,⟨o,es,ep,ho,r⟩,_⟩:=id I.loc;obtain⟨sl,hL⟩:=u.any ho I.free (by simp)
 exact I.step (g':=s.gens) (d':=s.drawn) (ch:=[]) (fun _ z=>nomatch z) (fun b o _ hb _ e n=>u.keep b o e n hb (by simp)) (fun b o _ hb _ e n=>u.slot b o e n hb (by simp)) (fun b o _ e n=>u.free b o e n (by simp)) (fun b o _ e=>u.there b o e (by simp)) u.tups u.frzs u.tbls (fun m' hm=>by
  obtain⟨o',es',ep',ho',r'⟩:=hm;rw[ho] at ho';cases ho';exact⟨_,es',ep',hL,r'⟩) hok I.bare
theorem Inv.call {g':Array GenState} {t':Nat} {d':Drawn} {ch:List Addr} (I:Inv X LB σ H s) (u:Un (frs X.stack) ch H H' s.heap h') (hok:HOk X.prog X.w H' h') (hg:AllBare g')
  (hch:∀ b∈ch,(b∈X.ex\/X.s₀.heap.objs.size<=b)/\b≠X.env.locals/\(∀ x c,X.env.cells.lookup x=some c->c≠b)/\∀ p∈X.pn++LB,p.1≠b):
  Inv X LB σ H' {s with heap:=h',gens:=g',drawn:=d',toks:=t'}:=by
 obtain⟨m,⟨o,es,ep,ho,r⟩,_⟩:=id I.loc;obtain⟨sl,hL⟩:=u.any ho I.free fun z=>(hch _ z).2.1 rfl
 exact I.step (ch:=ch) hch (fun b o hL hb hc e n=>u.keep b o e n (fun z=>(L6.mp (I.stkSub b z)).elim hL hb) hc) (fun b o _ _ hc e n=>u.any e n hc) (fun b o hc e n=>u.free b o e n hc) (fun b o hc e=>u.there b o e hc) u.tups u.frzs u.tbls (fun m' hm=>by
  obtain⟨o',es',ep',ho',r'⟩:=hm;rw[ho] at ho';cases ho';exact⟨_,es',ep',hL,r'⟩) hok hg
theorem Inv.turned {t':Nat} {it:Addr} (I:Inv X LB σ H s) (k:∀ b o,b≠it->s.heap.get? b=some o->h'.get? b=some o) (hn:H it=none) (hL:it≠X.env.locals)
  (h1:it∈X.ex\/X.s₀.heap.objs.size<=it) (h2:∀ x c,X.env.cells.lookup x=some c->c≠it) (h3:∀ p∈X.pn++LB,p.1≠it):Inv X LB σ H {s with heap:=h',toks:=t'}:=by
 have nit:∀ b u,H b=some u->b≠it:=fun b u e z=>by rw[z,hn] at e;cases e
 refine I.step (g':=s.gens) (d':=s.drawn) (ch:=[it]) (fun b hb=>?_) (fun b o _ _ hc e _=>k b o (fun z=>hc (by simp[z])) e) (fun b o _ _ hc e _=>⟨o.slots,k b o (fun z=>hc (by simp[z])) e⟩) (fun _ _ _ _ n=>n)
  (fun b o hc e=>⟨o,k b o (fun z=>hc (by simp[z])) e⟩) (fun _ _ e=>e) (fun _ _ _ e=>e) (fun b ps e=>⟨#[],by rw[e];simp⟩) (fun m hm=>?_) (fun b u e=>?_) I.bare
 . have e:b=it:=by simpa using hb
   subst e;exact⟨h1,hL,h2,h3⟩
 . obtain⟨o,es,ep,ho,r⟩:=hm;exact⟨o,es,ep,k _ o (PH hL) ho,r⟩
 . refine(I.hok b u e).stay (fun c v hc q=>k c v ?_ q) (fun _ q=>q) fun _ _ q=>q;rcases hc with z | z
   . rw[z];exact nit b u e
   . exact nit c _ z
theorem Inv.tok(I:Inv X LB σ H s)(t:Nat):Inv X LB σ H {s with toks:=t}:=I.un (h':=s.heap) (t':=t) Un.refl I.hok
theorem Inv.kept{t':Nat}(I:Inv X LB σ H s)(k:∀ b u,s.heap.get? b=some u->h'.get? b=some u):Inv X LB σ H {s with heap:=h',toks:=t'}:=I.un (Un.kept k) (I.hok.kept k)
theorem Inv.laid{a:Addr}{o:HO}{t':Nat}(I:Inv X LB σ H s)(k:∀ b u,s.heap.get? b=some u->h'.get? b=some u)(hp:s.heap.objs.size<=a)(new:ObjOk X.prog X.w (upd H a o) h' a o):
  Inv X LB σ (upd H a o) {s with heap:=h',toks:=t'}:=I.un (Un.laid k hp (I.hok.fresh hp)) (I.hok.laid k hp new)
theorem Inv.write {x e:Addr} {o:HO} {t':Nat} (I:Inv X LB σ H s) (mu:Mut (H x)) (he:e=x\/H e=some (.own x)) (k:∀ b u,b≠e->s.heap.get? b=some u->h'.get? b=some u) (heo:∃ u,h'.get? e=some u)
  (new:ObjOk X.prog X.w (upd H x o) h' x o):Inv X LB σ (upd H x o) {s with heap:=h',toks:=t'}:=I.un (Un.write mu he k heo) (I.hok.write mu he k heo new)
theorem Inv.pins_of{pins':List (Addr × Obj)}(I:Inv X LB σ H s)(h:∀ p∈pins',s.heap.get? p.1=some p.2/\H p.1=none/\p.1≠X.env.locals/\p.1∉X.fs/\∀ v,p.2.data≠.cell v):Inv X pins' σ H s:=
 ⟨I.ok,I.os,I.bare,I.base,I.loc,I.cell,I.free,I.freeC,fun p hp=>(Ml.mp hp).elim (fun z=>I.pin p (OC _ z)) (h p),I.hok,I.len⟩
theorem zx{N:List Str}(hN:N.Nodup){i j:Nat}{x:Str}(a:N[i]? =some x)(b:N[j]? =some x):i=j:=by
 obtain⟨h1,e1⟩:=LP.mp a;obtain⟨h2,e2⟩:=LP.mp b;exact(List.getElem_inj hN).mp (e1.trans e2.symm)
theorem xX {M:Model} {A:Around} {E:Value->Shared->Prop} {i:Nat} {x:Str} {v:V} {u:Value} {Q:Unit->Shared->Prop} (I:Inv X LB σ H s) (hN:X.N.Nodup) (hi:X.N[i]? =some x) (hx:Loc X.env.scope x) (r:RelV v u)
  (h:∀ s',Inv X LB (σ.set i (some v)) H s'->(∃ a,Heap.SameBut a s.heap s'.heap/\(a=X.env.locals\/X.env.cells.lookup x=some a))->Q () s') (hf:X.fn x=true\/X.env.scope.names.lookup x=some .local:=by first | exact .inl rfl | exact .inr rfl | assumption):wpAny M A (storeName X.env x u) Q E s:=by
 obtain⟨m,hn,hl⟩:=id I.loc;have hcls:(X.env.scope.kind==.class||(X.env.scope.kind==.module&&X.env.locals != X.env.globals))=false:=by rw[I.ok.kind];rfl
 have hiσ:i<σ.length:=by rw[I.len];exact(LP.mp hi).1
 have cne:=I.cne
 have tracked:∀{a:Addr} {h':Heap},(∃ o,s.heap.get? a=some o/\H a=none)->Heap.SameBut a s.heap h'->HOk X.prog X.w H h':=fun{a h'} ha hs b ob e=>by
  obtain⟨_,_,hfree⟩:=ha;refine(I.hok b ob e).stay (fun c w' hc q=>(hs.2 c ?_).trans q) (fun _ q=>q) fun _ _ q=>q;rintro rfl;rcases hc with rfl | hc
  . rw[hfree] at e;cases e
  . rw[hfree] at hc;cases hc
 rcases hx with hk | hk
 . refine wpAny_storeName_local hk hn (fun h' hn' hs=>?_) hcls;obtain⟨oL,_,_,hoL,_⟩:=id hn;refine h _ ⟨I.ok,I.os,I.bare,⟨fun b o e n hb hx=>?_,fun b o e n hb hx=>?_,I.base.free,fun b o e hx=>?_,I.base.tups,I.base.frzs,I.base.tbls⟩,⟨_,hn',fun j y v' e1 e2 e3=>?_⟩,fun y c e=>?_,I.free,I.freeC,fun p hp=>?_,tracked ⟨oL,hoL,I.free⟩ hs,by simpa using I.len⟩ ⟨_,hs,.inl rfl⟩
   . exact(hs.2 b (ML (Mw (Mm e) I.ok.above))).trans (I.base.keep b o e n hb hx)
   . obtain⟨sl,e1⟩:=I.base.slot b o e n hb hx;exact⟨sl,(hs.2 b (ML (Mw (Mm e) I.ok.above))).trans e1⟩
   . obtain⟨o',e1⟩:=I.base.there b o e hx;exact⟨o',(hs.2 b (ML (Mw (Mm e) I.ok.above))).trans e1⟩
   . by_cases hj:j=i
     . subst hj;rw[hi] at e1;cases e1;rw[Pl hiσ] at e2;cases e2;exact⟨u,r,.inl ⟨hk,by simp⟩⟩
     . rw[List.getElem?_set_ne (PH hj)] at e2;obtain⟨u',r',q⟩:=hl j y v' e1 e2 e3;refine⟨u',r',?_⟩;rcases q with ⟨k,e⟩ | ⟨k,c,e,z⟩
       . refine .inl ⟨k,?_⟩;have:y≠x:=fun e=>hj (zx hN e1 (e ▸ hi));simp[this,e]
       . exact .inr ⟨k,c,e,z.sameBut hs (cne y c e)⟩
   . obtain⟨w',z⟩:=I.cell y c e;exact⟨w',z.sameBut hs (cne y c e)⟩
   . obtain⟨e,n,ne,nf,d⟩:=I.pin p hp;exact⟨(hs.2 p.1 ne).trans e,n,ne,nf,d⟩
 . have hfn:X.fn x=true:=by
    rcases hf with z | z
    . exact z
    . rw[z] at hk;cases hk
   obtain⟨c,hc⟩:=I.ok.has x (.inl hk);obtain⟨w',z⟩:=I.cell x c hc;refine wpAny_storeName_cell I.ok.kind hk hc z (fun h' hc' hs=>?_);obtain⟨oc,hoc,hocd⟩:=id z;refine h {s with heap:=h'} ⟨I.ok,I.os,I.bare,⟨fun b o e n hb hx=>?_,fun b o e n hb hx=>?_,I.base.free,fun b o e hx=>?_,I.base.tups,I.base.frzs,I.base.tbls⟩,⟨m,hn.sameBut hs (PH (cne x c hc)),fun j y v' e1 e2 e3=>?_⟩,fun y c' e=>?_,I.free,I.freeC,fun p hp=>?_,tracked ⟨oc,hoc,I.freeC x c hc⟩ hs,by simpa using I.len⟩ ⟨c,hs,.inr hc⟩
   . exact(hs.2 b (ML (Mw (Mm e) (I.ok.cab x c hfn hc)))).trans (I.base.keep b o e n hb hx)
   . obtain⟨sl,e1⟩:=I.base.slot b o e n hb hx;exact⟨sl,(hs.2 b (ML (Mw (Mm e) (I.ok.cab x c hfn hc)))).trans e1⟩
   . obtain⟨o',e1⟩:=I.base.there b o e hx;exact⟨o',(hs.2 b (ML (Mw (Mm e) (I.ok.cab x c hfn hc)))).trans e1⟩
   . by_cases hj:j=i
     . subst hj;rw[hi] at e1;cases e1;rw[Pl hiσ] at e2;cases e2;exact⟨u,r,.inr ⟨.inl hk,c,hc,hc'⟩⟩
     . rw[List.getElem?_set_ne (PH hj)] at e2;obtain⟨u',r',q⟩:=hl j y v' e1 e2 e3;refine⟨u',r',?_⟩;rcases q with q | ⟨k,c',e,z'⟩
       . exact .inl q
       . refine .inr ⟨k,c',e,z'.sameBut hs ?_⟩;rintro rfl;exact hj (zx hN e1 (I.ok.inj _ _ _ e hc ▸ hi))
   . by_cases hcc:c'=c
     . subst hcc;exact⟨_,hc'⟩
     . obtain⟨w2,z2⟩:=I.cell y c' e;exact⟨w2,z2.sameBut hs hcc⟩
   . obtain⟨e,n,ne,nf,d⟩:=I.pin p hp;refine⟨(hs.2 p.1 ?_).trans e,n,ne,nf,d⟩;intro q;rw[q,hoc] at e;have q':oc=p.2:=M9 e;exact d w' (by rw[← q'];exact hocd)
theorem zy {M:Model} {A:Around} {E:Value->Shared->Prop} {i:Nat} {x:Str} {v:V} {u:Value} {Q:Unit->Shared->Prop} (I:Inv X LB σ H s) (hN:X.N.Nodup) (hi:X.N[i]? =some x) (hx:Loc X.env.scope x) (r:RelV v u)
  (h:∀ s',Inv X LB (σ.set i (some v)) H s'->Q () s') (hf:X.fn x=true\/X.env.scope.names.lookup x=some .local:=by first | exact .inl rfl | exact .inr rfl | assumption):wpAny M A (storeName X.env x u) Q E s:=
 xX I hN hi hx r (fun s' I' _=>h s' I') hf
theorem Inv.call' {s':Shared} {ch:List Addr} (I:Inv X LB σ H s) (ho:s'.os=s.os) (u:Un (frs X.stack) ch H H' s.heap s'.heap) (hok:HOk X.prog X.w H' s'.heap) (hg:AllBare s'.gens)
  (hch:∀ b∈ch,(b∈X.ex\/X.s₀.heap.objs.size<=b)/\b≠X.env.locals/\(∀ x c,X.env.cells.lookup x=some c->c≠b)/\∀ p∈X.pn++LB,p.1≠b):Inv X LB σ H' s':=by
 obtain⟨h',g',d',t',o'⟩:=s';have e:o'=s.os:=ho;subst e;exact I.call (g':=g') (t':=t') (d':=d') u hok hg hch
end
abbrev XK:=Value->Option Addr->Hp->Prop
abbrev St:=List (Option V)
abbrev VK:=V->Hp->Prop
abbrev TE:=St->Hp->VK->Prop
abbrev TT:=St->Hp->(Bool->Hp->Prop)->Prop
abbrev TA:=St->Hp->(List V->Hp->Prop)->Prop
structure Ends where
 nx:St->Hp->Prop
 rt:VK
 bk:St->Hp->Prop:=fun _ _=>False
 ct:St->Hp->Prop:=fun _ _=>False
abbrev TS:=Ends->St->Hp->Prop
def EP(X:Cx)(LB:List (Addr × Obj))(σ:St)(Q:VK)(u:Value)(s':Shared):Prop:=∃ v H',Inv X LB σ H' s'/\RelV v u/\Q v H'
def TP(X:Cx)(LB:List (Addr × Obj))(σ:St)(Q:Bool->Hp->Prop)(b:Bool)(s':Shared):Prop:=∃ H',Inv X LB σ H' s'/\Q b H'
def AP(X:Cx)(LB:List (Addr × Obj))(σ:St)(Q:List V->Hp->Prop)(us:List Value)(s':Shared):Prop:=∃ vs H',Inv X LB σ H' s'/\Vals vs us/\Q vs H'
def SP(X:Cx)(LB:List (Addr × Obj))(D:Ends)(f:Flow)(s':Shared):Prop:=
 match f with
 | .next=>∃ σ' H',Inv X LB σ' H' s'/\D.nx σ' H'
 | .brk=>∃ σ' H',Inv X LB σ' H' s'/\D.bk σ' H'
 | .cont=>∃ σ' H',Inv X LB σ' H' s'/\D.ct σ' H'
 | .ret u=>∃ v σ' H',Inv X LB σ' H' s'/\RelV v u/\D.rt v H'
def PE(X:Cx)(e:Expr)(t:TE):Prop:=
 ∀(LB:List (Addr × Obj)) (s:Shared) (σ:St) (H:Hp) (Q:VK),Inv X LB σ H s->t σ H Q->wpAny (model X.prog X.w) X.A (eval e X.env) (EP X LB σ Q) X.xe s
def PT(X:Cx)(e:Expr)(t:TT):Prop:=
 ∀(LB:List (Addr × Obj)) (s:Shared) (σ:St) (H:Hp) (Q:Bool->Hp->Prop),Inv X LB σ H s->t σ H Q->wpAny (model X.prog X.w) X.A (isTrue e X.env (eval e X.env)) (TP X LB σ Q) X.xe s
def PW(X:Cx)(e:Expr)(t:TT):Prop:=
 ∀(LK:Sem Value) (LB:List (Addr × Obj)) (s:Shared) (σ:St) (H:Hp) (Q:Bool->Hp->Prop),Inv X LB σ H s->t σ H Q->wpAny (model X.prog X.w) X.A (isTrue e X.env LK) (TP X LB σ Q) X.xe s
theorem PW.pt{X:Cx}{e:Expr}{t:TT}(h:PW X e t):PT X e t:=h _
abbrev N9:=@PW.pt
def PA(X:Cx)(es:List Expr)(t:TA):Prop:=
 ∀(pos:Pos) (LB:List (Addr × Obj)) (s:Shared) (σ:St) (H:Hp) (Q:List V->Hp->Prop),Inv X LB σ H s->t σ H Q->wpAny (model X.prog X.w) X.A (spliced (backTo pos (starEach es X.env))) (AP X LB σ Q) X.xe s
def PS(X:Cx)(st:Stmt)(t:TS):Prop:=
 ∀(LB:List (Addr × Obj)) (s:Shared) (σ:St) (H:Hp) (D:Ends),Inv X LB σ H s->t D σ H->wpAny (model X.prog X.w) X.A (exec st X.env) (SP X LB D) X.xe s
def PSs(X:Cx)(st:List Stmt)(t:TS):Prop:=
 ∀(LB:List (Addr × Obj)) (s:Shared) (σ:St) (H:Hp) (D:Ends),Inv X LB σ H s->t D σ H->wpAny (model X.prog X.w) X.A (execs st X.env) (SP X LB D) X.xe s
theorem thn{α:Type}{t:Sem α}{Q Q':α->Shared->Prop}{M:Model}{A:Around}{E:Value->Shared->Prop}{s:Shared}(h:wpAny M A t Q E s)(hQ:∀ a s,Q a s->Q' a s):wpAny M A t Q' E s:=M2 h hQ fun _ _ x=>x
section
variable{X:Cx}
def vB:Option (Option V)->(V->Prop)->Prop
 | some (some v),k=>k v
 | _,_=>False
theorem Fx{o:Option (Option V)}{k:V->Prop}(h:vB o k):∃ v,o=some (some v)/\k v:=by
 rcases o with _ | _ | v
 . cases h
 . cases h
 . exact⟨v,rfl,h⟩
theorem pE{o:Option (Option V)}{k:V->Prop}{v:V}(e:o=some (some v))(h:k v):vB o k:=by subst e;exact h
def tVar(i:Nat):TE:=fun σ H Q=>vB σ[i]? fun v=>Q v H
def tC(v:V):TE:=fun _ H Q=>Q v H
theorem GK{i:Nat}{x:Str}{pos:Pos}(hN:X.N[i]? =some x)(hv:Vis X.env.scope x)(hd:(x==("__debug__":Str))=false:=by decide)(hcd:(x==("__classdict__":Str))=false:=by decide):PE X (.Name x pos) (tVar i):=by
 intro LB s σ H Q I h;obtain⟨v,e,h⟩:=Fx h;obtain⟨m,hn,hl⟩:=I.loc;obtain⟨u,r,l⟩:=hl i x v hN e hv;have fin:EP X LB σ Q u s:=⟨v,H,I,r,h⟩;rcases l with ⟨hk,hm⟩ | ⟨hk,c,hc,hcell⟩
 . exact wpAny_Name (wpAny_loadName_local I.ok.kind hk hn hm fin) hd
 . rcases hk with hk | hk
   . exact wpAny_Name (wpAny_loadName_cell I.ok.kind hk hc hcell fin) hd
   . exact wpAny_Name (wpAny_loadName_free I.ok.kind hk hc hcell fin hcd) hd
theorem ae{i j pos}:PE X (.Constant (.int i) j pos) (tC (.int i)):=fun _ _ _ H _ I h=>wpAny_Constant_int ⟨.int i,H,I.tok _,⟨_,rfl⟩,h⟩
theorem br{b j pos}:PE X (.Constant (.bool b) j pos) (tC (.bl b)):=fun _ _ _ H _ I h=>Constant_bool ⟨.bl b,H,I,rfl,h⟩
theorem d7{j pos}:PE X (.Constant .none j pos) (tC .non):=fun _ _ _ H _ I h=>Constant_none ⟨.non,H,I,rfl,h⟩
theorem av{x j pos}:PE X (.Constant (.str x) j pos) (tC (.str x)):=fun _ _ _ H _ I h=>Calls.Constant_str ⟨.str x,H,I.tok _,⟨_,rfl⟩,h⟩
def Gl(X:Cx)(x:Str):Prop:=X.env.kindOf x=some .globalImplicit
theorem sM {E:Value->Shared->Prop} {LB:List (Addr × Obj)} {s:Shared} {σ:St} {H:Hp} {x:Str} {u:Value} {pos:Pos} {Q:Value->Shared->Prop} (I:Inv X LB σ H s) (hg:Gl X x) (hm:X.mg x=some u) (h:Q u s)
  (hd:(x==("__debug__":Str))=false:=by decide):wpAny (model X.prog X.w) X.A (eval (.Name x pos) X.env) Q E s:=
 OU I.ok.kind hg (Calls.loadGlobal_global (by rw[I.ok.glob];exact I.mod.glob.keeps I.bk) hm h) hd
theorem gM {E:Value->Shared->Prop} {LB:List (Addr × Obj)} {s:Shared} {σ:St} {H:Hp} {x:Str} {u:Value} {pos:Pos} {Q:Value->Shared->Prop} (I:Inv X LB σ H s) (hg:Gl X x) (hm:X.mg x=none) (hv:bootBuiltins x=some u) (h:Q u s)
  (hn:x≠"__name__":=by decide) (hd:(x==("__debug__":Str))=false:=by decide):wpAny (model X.prog X.w) X.A (eval (.Name x pos) X.env) Q E s:=by
 obtain⟨mb,h1,h2⟩:=I.mod.blt;exact OU I.ok.kind hg (Calls.loadGlobal_builtin (by rw[I.ok.glob];exact I.mod.glob.keeps I.bk) hm (by rw[I.ok.blt];exact h1.keeps I.bk) ((h2 x hn).trans hv) h) hd
theorem cp{x:Str}{v:V}{u:Value}{pos:Pos}(hg:Gl X x)(hm:X.mg x=some u)(r:RelV v u)(hd:(x==("__debug__":Str))=false:=by decide):PE X (.Name x pos) (tC v):=
 fun _ _ _ H _ I h=>sM I hg hm ⟨v,H,I,r,h⟩ hd
theorem cq{x:Str}{v:V}{u:Value}{pos:Pos}(hg:Gl X x)(hm:X.mg x=none)(hv:bootBuiltins x=some u)(r:RelV v u)(hn:x≠"__name__":=by decide)(hd:(x==("__debug__":Str))=false:=by decide):PE X (.Name x pos) (tC v):=
 fun _ _ _ H _ I h=>gM I hg hm hv ⟨v,H,I,r,h⟩ hn hd
variable{a b:Expr}{ta tb:TE}{pos:Pos}
def tB(t:TE):TT:=fun σ H Q=>t σ H fun x H1=>∃ c,x=.bl c/\Q c H1
theorem aM{e:Expr}{t:TE}(h:PE X e t)(he:∀ LK,isTrue e X.env LK=(do let v ← LK;standAt e.pos;holding [v] (truthy v)):=by intro _;rfl):PT X e (tB t):=by
 intro LB s σ H Q I hw;refine isTrue_plain (thn (h LB s σ H _ I hw) fun v s1 ⟨x,H1,I1,r1,q1⟩=>?_) (he _);obtain⟨d,rfl,q⟩:=q1;cases r1;exact No ⟨H1,I1,q⟩
variable{tA tB':TT}{rest:List Expr}
def tAnd(t u:TT):TT:=fun σ H Q=>t σ H fun c H1=>if c=true then u σ H1 Q else Q false H1
def tOr(t u:TT):TT:=fun σ H Q=>t σ H fun c H1=>if c=true then Q true H1 else u σ H1 Q
def tNot(t:TT):TT:=fun σ H Q=>t σ H fun c H1=>Q (!c) H1
theorem sN(ha:PT X a tA):PW X (.BoolOp .And [a] pos) tA:=by
 intro wh LB s σ H Q I h;refine isTrue_and (thn (ha LB s σ H Q I h) fun c s1 e=>?_)
 cases c with
 | true=>exact isTrue_and_nil e
 | false=>exact e
theorem bS(ha:PT X a tA):PW X (.BoolOp .Or [a] pos) tA:=by
 intro wh LB s σ H Q I h;refine isTrue_or (thn (ha LB s σ H Q I h) fun c s1 e=>?_)
 cases c with
 | false=>exact isTrue_or_nil e
 | true=>exact e
theorem uW(ha:PT X a tA)(hb:PW X (.BoolOp .And (b::rest) pos) tB'):PW X (.BoolOp .And (a::b::rest) pos) (tAnd tA tB'):=by
 intro wh LB s σ H Q I h;refine isTrue_and (thn (ha LB s σ H _ I h) fun c s1 ⟨H1,I1,q1⟩=>?_)
 cases c with
 | true=>exact hb wh LB s1 σ H1 Q I1 q1
 | false=>exact⟨H1,I1,q1⟩
theorem bt(ha:PT X a tA)(hb:PW X (.BoolOp .Or (b::rest) pos) tB'):PW X (.BoolOp .Or (a::b::rest) pos) (tOr tA tB'):=by
 intro wh LB s σ H Q I h;refine isTrue_or (thn (ha LB s σ H _ I h) fun c s1 ⟨H1,I1,q1⟩=>?_)
 cases c with
 | true=>exact⟨H1,I1,q1⟩
 | false=>exact hb wh LB s1 σ H1 Q I1 q1
theorem bi(ha:PT X a tA):PT X (.UnaryOp .Not a pos) (tNot tA):=by
 intro LB s σ H Q I h;exact isTrue_not (ha LB s σ H (fun c H1=>Q (!c) H1) I h)
def tAndV(ta tb:TE):TE:=fun σ H Q=>ta σ H fun x H1=>∃ c,x=.bl c/\if c=true then tb σ H1 Q else Q (.bl false) H1
def tOrV(ta tb:TE):TE:=fun σ H Q=>ta σ H fun x H1=>∃ c,x=.bl c/\if c=true then Q (.bl true) H1 else tb σ H1 Q
def tNotV(ta:TE):TE:=fun σ H Q=>ta σ H fun x H1=>∃ c,x=.bl c/\Q (.bl (!c)) H1
theorem bm{op}{t:TE}(h:PE X a t):PE X (.BoolOp op [a] pos) t:=fun LB s σ H Q I hw=>BoolOp_one (h LB s σ H Q I hw)
theorem bb(ha:PE X a ta)(hb:PE X (.BoolOp .And (b::rest) pos) tb):PE X (.BoolOp .And (a::b::rest) pos) (tAndV ta tb):=by
 intro LB s σ H Q I h;refine BoolOp_and (thn (ha LB s σ H _ I h) fun v s1 ⟨x,H1,I1,r1,q1⟩=>?_);obtain⟨c,rfl,q1⟩:=q1;cases r1;refine No ?_
 cases c with
 | true=>exact hb LB s1 σ H1 Q I1 q1
 | false=>exact⟨.bl false,H1,I1,rfl,q1⟩
theorem zq(ha:PE X a ta)(hb:PE X (.BoolOp .Or (b::rest) pos) tb):PE X (.BoolOp .Or (a::b::rest) pos) (tOrV ta tb):=by
 intro LB s σ H Q I h;refine BoolOp_or (thn (ha LB s σ H _ I h) fun v s1 ⟨x,H1,I1,r1,q1⟩=>?_);obtain⟨c,rfl,q1⟩:=q1;cases r1;refine No ?_
 cases c with
 | false=>exact hb LB s1 σ H1 Q I1 q1
 | true=>exact⟨.bl true,H1,I1,rfl,q1⟩
theorem Db(ha:PE X a ta):PE X (.UnaryOp .Not a pos) (tNotV ta):=by
 intro LB s σ H Q I h;refine UnaryOp_ (thn (ha LB s σ H _ I h) fun v s1 ⟨x,H1,I1,r1,q1⟩=>?_);obtain⟨c,rfl,q1⟩:=q1;cases r1;exact not_of (No ⟨.bl (!c),H1,I1,rfl,q1⟩)
def tIf(t:TT)(ta tb:TE):TE:=fun σ H Q=>t σ H fun c H1=>if c=true then ta σ H1 Q else tb σ H1 Q
theorem g8{c:Expr}(hc:PT X c tA)(ha:PE X a ta)(hb:PE X b tb):PE X (.IfExp c a b pos) (tIf tA ta tb):=by
 intro LB s σ H Q I h;refine wpAny_IfExp (thn (hc LB s σ H _ I h) fun d s1 ⟨H1,I1,q1⟩=>?_)
 cases d with
 | true=>exact ha LB s1 σ H1 Q I1 q1
 | false=>exact hb LB s1 σ H1 Q I1 q1
end
def SqL(K:Frag)(H:Hp)(a:Addr)(xs:List V):Prop:=
 Rd H a (.lst xs)\/
  ∃(o:Obj) (LF:Array Value) (n:Nat),K.lookup a=some o/\o.cls=.type "list"/\o.dict=none/\o.data=.seq LF n/\LF.size<=sizeLine/\Vals xs LF.toList
def SqT(K:Frag)(H:Hp)(a:Addr)(xs:List V):Prop:=
 Rd H a (.tup xs)\/
  ∃(o:Obj) (LF:Array Value) (n:Nat),K.lookup a=some o/\o.cls=.type "tuple"/\o.data=.seq LF n/\LF.size<=sizeLine/\Vals xs LF.toList
def absV:Value->Option V
 | .none=>some .non
 | .bool b=>some (.bl b)
 | .int i _=>some (.int i)
 | .str x _=>some (.str x)
 | .bytes b _=>some (.byt b)
 | .float b _=>some (.flt b)
 | .ref a=>some (.ref a)
 | .type n=>some (.ty n)
 | _=>none
variable{u:Value}
theorem RelV.abs{x:V}(r:RelV x u):absV u=some x:=by
 cases x with
 | non=>cases r;rfl
 | bl _=>cases r;rfl
 | int _=>obtain⟨t,rfl⟩:=r;rfl
 | str _=>obtain⟨t,rfl⟩:=r;rfl
 | byt _=>obtain⟨t,rfl⟩:=r;rfl
 | flt _=>obtain⟨t,rfl⟩:=r;rfl
 | ref _=>cases r;rfl
 | ty _=>cases r;rfl
theorem RelV.inj{x y:V}(r:RelV x u)(q:RelV y u):x=y:=M9 (r.abs.symm.trans q.abs)
theorem Vals.inj:∀{xs ys:List V} {us:List Value},Vals xs us->Vals ys us->xs=ys
 | _,_,_,.nil,.nil=>rfl
 | _,_,_,.cons r t,.cons r' t'=>by rw[r.inj r',Vals.inj t t']
section
variable{X:Cx}{LB:List (Addr × Obj)}{σ:St}{H:Hp}{s:Shared}{a:Addr}{xs ys:List V}
theorem SqL.of{K:Frag}(h:H a=some (.lst xs)):SqL K H a xs:=.inl (.inl h)
abbrev Mc:=@SqL.of
theorem SqT.of{K:Frag}(h:H a=some (.tup xs)):SqT K H a xs:=.inl (.inl h)
abbrev PM:=@SqT.of
theorem Inv.list(I:Inv X LB σ H s)(h:SqL X.K H a xs):∃ LF:List Value,Vals xs LF/\PlainL s.heap a LF.toArray/\xs.length<=sizeLine:=by
 rcases h with h | ⟨o,LF,n,hk,hc,hd,hs,hz,r⟩
 . obtain⟨z,LF,n,r,e⟩:=h.ok I.hok;exact⟨LF,r,⟨_,n,e,rfl,rfl,rfl⟩,z⟩
 . refine⟨LF.toList,r,⟨o,n,I.kIn a o hk,hc,hd,by simpa using hs⟩,?_⟩;have e:=r.length;simp only[N1] at e;omega
theorem Inv.tuple(I:Inv X LB σ H s)(h:SqT X.K H a xs):∃ LF:List Value,Vals xs LF/\IsTup s.heap a LF.toArray/\xs.length<=sizeLine:=by
 rcases h with h | ⟨o,LF,n,hk,hc,hs,hz,r⟩
 . obtain⟨z,LF,r,p⟩:=h.ok I.hok;exact⟨LF,r,p,z⟩
 . refine⟨LF.toList,r,⟨o,I.kIn a o hk,hc,n,by simpa using hs⟩,?_⟩;have e:=r.length;simp only[N1] at e;omega
theorem Inv.list_inj(I:Inv X LB σ H s)(h:SqL X.K H a xs)(h':SqL X.K H a ys):xs=ys:=by
 obtain⟨LF,r,⟨o,n,e,_,_,d⟩,_⟩:=I.list h;obtain⟨its',r',⟨o',n',e',_,_,d'⟩,_⟩:=I.list h';rw[e] at e';cases e';rw[d] at d';injection d' with d1 _;have:LF=its':=by simpa using congrArg Array.toList d1
 subst this;exact r.inj r'
theorem Inv.tuple_inj(I:Inv X LB σ H s)(h:SqT X.K H a xs)(h':SqT X.K H a ys):xs=ys:=by
 obtain⟨LF,r,⟨o,e,_,n,d⟩,_⟩:=I.tuple h;obtain⟨its',r',⟨o',e',_,n',d'⟩,_⟩:=I.tuple h';rw[e] at e';cases e';rw[d] at d';injection d' with d1 _;have:LF=its':=by simpa using congrArg Array.toList d1
 subst this;exact r.inj r'
end
abbrev Cx.wish(X:Cx)(E:Value->Shared->Prop):Cx:={X with xe:=E}
abbrev Cx.nox(X:Cx):Cx:=X.wish fun _ _=>False
variable{X:Cx}
theorem Cx.Ok.wish(ok:X.Ok)(E:Value->Shared->Prop):(X.wish E).Ok:=
 ⟨ok.mod,ok.kind,ok.glob,ok.blt,ok.above,ok.inj,ok.has,ok.cab,ok.hd,ok.frames,ok.stk,ok.exf,ok.bs,ok.bsz,ok.noex,ok.exfs,ok.funs,ok.frf⟩
variable{E:Value->Shared->Prop}
theorem Cx.Ok.unwish(ok:(X.wish E).Ok):X.Ok:=
 ⟨ok.mod,ok.kind,ok.glob,ok.blt,ok.above,ok.inj,ok.has,ok.cab,ok.hd,ok.frames,ok.stk,ok.exf,ok.bs,ok.bsz,ok.noex,ok.exfs,ok.funs,ok.frf⟩
section
variable{X:Cx}{LB:List (Addr × Obj)}{σ:St}{H:Hp}{s:Shared}{E:Value->Shared->Prop}
theorem Inv.wish(I:Inv X LB σ H s)(E:Value->Shared->Prop):Inv (X.wish E) LB σ H s:=⟨I.ok.wish E,I.os,I.bare,I.base,I.loc,I.cell,I.free,I.freeC,I.pin,I.hok,I.len⟩
theorem Inv.unwish(I:Inv (X.wish E) LB σ H s):Inv X LB σ H s:=⟨I.ok.unwish,I.os,I.bare,I.base,I.loc,I.cell,I.free,I.freeC,I.pin,I.hok,I.len⟩
theorem SP.unwish{D:Ends}{f:Flow}{s':Shared}(h:SP (X.wish E) LB D f s'):SP X LB D f s':=by
 cases f with
 | next=>obtain⟨σ',H',I,q⟩:=h;exact⟨σ',H',I.unwish,q⟩
 | brk=>obtain⟨σ',H',I,q⟩:=h;exact⟨σ',H',I.unwish,q⟩
 | cont=>obtain⟨σ',H',I,q⟩:=h;exact⟨σ',H',I.unwish,q⟩
 | ret u=>obtain⟨v,σ',H',I,r,q⟩:=h;exact⟨v,σ',H',I.unwish,r,q⟩
theorem PSs.nox{st:List Stmt}{t:TS}(h:PSs X.nox st t):PSs X st t:=fun LB s σ H D I hw=>
 M2 (h LB s σ H D (I.wish _) hw) (fun _ _ q=>q.unwish) fun _ _ z=>False.elim z
end
section
variable{X:Cx}{st:Stmt}{rest:List Stmt}{t u:TS}{e:Expr}{te:TE}{pos:Pos}
def tNext:TS:=fun D σ H=>D.nx σ H
def tSeq(t u:TS):TS:=fun D σ H=>t {D with nx:=u D} σ H
theorem aj:PSs X [] tNext:=fun _ _ σ H _ I h=>OG ⟨σ,H,I,h⟩
theorem ac(h1:PS X st t)(h2:PSs X rest u):PSs X (st::rest) (tSeq t u):=by
 intro LB s σ H D I h;refine wpAny_execs_cons (thn (h1 LB s σ H {D with nx:=u D} I h) fun f s1 q=>?_)
 cases f with
 | next=>
  obtain⟨σ',H',I',q⟩:=q;exact h2 LB s1 σ' H' D I' q
 | ret v=>exact q
 | brk=>exact q
 | cont=>exact q
theorem ad(h1:PS X st t):PSs X [st] t:=by
 intro LB s σ H D I h;refine wpAny_execs_cons (thn (h1 LB s σ H D I h) fun f s1 q=>?_)
 cases f with
 | next=>exact OG q
 | ret v=>exact q
 | brk=>exact q
 | cont=>exact q
theorem Inv.quiet{LB:List (Addr × Obj)}{σ:St}{H:Hp}{s:Shared}(I:Inv X LB σ H s):interactive X.env=false:=by simp[interactive,I.ok.kind]
def tDrop(te:TE):TS:=fun D σ H=>te σ H fun _ H1=>D.nx σ H1
theorem b6(he:PE X e te)(hs:swapsWith e none pos.line X.env=pure false:=by rfl):PS X (.Expr e pos) (tDrop te):=by
 intro LB s σ H D I h;exact wpAny_Expr_any (thn (he LB s σ H _ I h) fun v s1 ⟨x,H1,I1,r1,q1⟩=>⟨σ,H1,I1,q1⟩) I.quiet hs
def tRet(te:TE):TS:=fun D σ H=>te σ H D.rt
theorem af(he:PE X e te):PS X (.Return (some e) pos) (tRet te):=by
 intro LB s σ H D I h;exact wpAny_Return_some (thn (he LB s σ H _ I h) fun v s1 ⟨x,H1,I1,r1,q1⟩=>⟨x,σ,H1,I1,r1,q1⟩)
def tRetN:TS:=fun D _ H=>D.rt .non H
def tIfS(c:TT)(t u:TS):TS:=fun D σ H=>c σ H fun b H1=>if b=true then t D σ H1 else u D σ H1
theorem au{c:Expr}{a b:List Stmt}{tc:TT}(hc:PT X c tc)(ha:PSs X a t)(hb:PSs X b u):PS X (.If c a b pos) (tIfS tc t u):=by
 intro LB s σ H D I h;refine wpAny_If (thn (hc LB s σ H _ I h) fun d s1 ⟨H1,I1,q1⟩=>?_)
 cases d with
 | true=>exact ha LB s1 σ H1 D I1 q1
 | false=>exact hb LB s1 σ H1 D I1 q1
def cw:TS:=fun _ _ _=>False
theorem bG:PS X st cw:=fun _ _ _ _ _ _ h=>h.elim
end
abbrev TG:=V->St->Hp->(St->Hp->Prop)->Prop
abbrev TGs:=List V->St->Hp->(St->Hp->Prop)->Prop
def PG(X:Cx)(target:Expr)(t:TG):Prop:=
 ∀(LB:List (Addr × Obj)) (s:Shared) (σ:St) (H:Hp) (v:V) (u:Value) (Q:St->Hp->Prop),Inv X LB σ H s->RelV v u->t v σ H Q->
  wpAny (model X.prog X.w) X.A (assign target X.env u) (fun _ s'=>∃ σ' H',Inv X LB σ' H' s'/\Q σ' H') X.xe s
def PGs(X:Cx)(ts:List Expr)(t:TGs):Prop:=
 ∀(LB:List (Addr × Obj)) (s:Shared) (σ:St) (H:Hp) (vs:List V) (us:List Value) (Q:St->Hp->Prop),Inv X LB σ H s->Vals vs us->t vs σ H Q->
  wpAny (model X.prog X.w) X.A (assignInOrder ((assignEach ts X.env).map (·.2)) us) (fun _ s'=>∃ σ' H',Inv X LB σ' H' s'/\Q σ' H') X.xe s
abbrev TSet:=V->V->V->Hp->(Hp->Prop)->Prop
def PSet(X:Cx)(t:TSet):Prop:=
 ∀(LB:List (Addr × Obj)) (s:Shared) (σ:St) (H:Hp) (o i v:V) (ov iv u:Value) (Q:Hp->Prop),Inv X LB σ H s->RelV o ov->RelV i iv->RelV v u->t o i v H Q->
  wpAny (model X.prog X.w) X.A (setItem ov iv u) (fun _ s'=>∃ H',Inv X LB σ H' s'/\Q H') X.xe s
section
variable{X:Cx}{pos:Pos}
def gName(i:Nat):TG:=fun v σ H Q=>Q (σ.set i (some v)) H
theorem aq{i:Nat}{x:Str}(hN:X.N.Nodup)(hi:X.N[i]? =some x)(hx:Loc X.env.scope x)(hf:X.fn x=true\/X.env.scope.names.lookup x=some .local:=by first | exact .inl rfl | exact .inr rfl | assumption):PG X (.Name x pos) (gName i):=by
 intro LB s σ H v u Q I r h;exact wpAny_assign_Name (zy I hN hi hx r (fun s' I'=>⟨_,H,I',h⟩) hf)
def gNil:TGs:=fun vs σ H Q=>vs=[]/\Q σ H
def gCons(t:TG)(u:TGs):TGs:=fun vs σ H Q=>∃ v r,vs=v::r/\t v σ H fun σ' H'=>u r σ' H' Q
theorem sO:PGs X [] gNil:=by
 intro LB s σ H vs us Q I r h;obtain⟨e,h⟩:=h;subst e;cases r;exact assignInOrder_nil ⟨σ,H,I,h⟩
theorem fU {e:Expr} {es:List Expr} {t:TG} {u:TGs} (h1:PG X e t) (h2:PGs X es u)
  (hs:(assignEach (e::es) X.env).map (·.2)=assign e X.env::(assignEach es X.env).map (·.2):=by rfl):PGs X (e::es) (gCons t u):=by
 intro LB s σ H vs us Q I r h;obtain⟨v,vr,e1,h⟩:=h;subst e1
 cases r with
 | cons r rr=>
  rw[hs];refine assignInOrder_cons (thn (h1 LB s σ H _ _ _ I r h) fun _ s1 ⟨σ1,H1,I1,q1⟩=>?_);exact h2 LB s1 σ1 H1 _ _ Q I1 rr q1
def gTup(K:Frag)(n:Nat)(t:TGs):TG:=fun v σ H Q=>∃ a xs,v=.ref a/\SqT K H a xs/\xs.length=n/\t xs σ H Q
theorem uX {es:List Expr} {k:Nat} {t:TGs} {n:Nat} (hc:X.calm=true) (h:PGs X es t)
  (hn:(assignEach es X.env).length=n:=by rfl) (hst:(assignEach es X.env).findIdx? (·.1)=none:=by rfl):PG X (.Tuple es k pos) (gTup X.K n t):=by
 intro LB s σ H v u Q I r hw;obtain⟨a,xs,e1,hq,hl,hw⟩:=hw;subst e1;cases r;obtain⟨LF,rv,ht,hz⟩:=I.tuple hq;refine assign_Tuple_tuple (I.ok.hd hc) ht (by simp[hn,← hl,rv.length]) hst fun h' hx=>?_;have I1:Inv X LB σ H {s with heap:=h'}:=I.kept (t':=s.toks) fun b o e=>hx b o (ML (Mm e)) e;exact h LB _ σ H xs _ Q I1 (by simpa using rv) hw
def gSub(to ti:TE)(t:TSet):TG:=fun v σ H Q=>to σ H fun o H1=>ti σ H1 fun i H2=>t o i v H2 fun H3=>Q σ H3
theorem GL {o i:Expr} {to ti:TE} {t:TSet} (ho:PE X o to) (hi:PE X i ti) (hs:PSet X t)
  (ha:∀ v,assign (.Subscript o i pos) X.env v=(do
   let ov ← holding [v] (eval o X.env);let iv ← holding [v,ov] (eval i X.env)
   standAt pos
   holding [v,ov,iv] (setItem ov iv v)
   release [v,ov,iv] []):=by intro _;rfl):PG X (.Subscript o i pos) (gSub to ti t):=by
 intro LB s σ H v u Q I r h;rw[ha];refine MA (Pc (thn (ho LB s σ H _ I h) fun ov s1 ⟨x,H1,I1,r1,q1⟩=>?_));refine MA (Pc (thn (hi LB s1 σ H1 _ I1 q1) fun iv s2 ⟨y,H2,I2,r2,q2⟩=>?_));refine MA (PK (MA (Pc (thn (hs LB s2 σ H2 x y v ov iv u _ I2 r1 r2 r q2) fun _ s3 ⟨H3,I3,q3⟩=>?_))));exact wpAny_release ⟨σ,H3,I3,q3⟩
def tAsg(te:TE)(g:TG):TS:=fun D σ H=>te σ H fun x H1=>g x σ H1 D.nx
theorem Dc {tg e:Expr} {te:TE} {g:TG} (he:PE X e te) (hg:PG X tg g) (hs:swapsWithSole [tg] e pos.line X.env=pure false:=by rfl) (hw:swappedStores [tg] e X.env=pure none:=by rfl)
  (h1:(assignEach [tg] X.env).map (·.2)=[assign tg X.env]:=by rfl):PS X (.Assign [tg] e pos) (tAsg te g):=by
 intro LB s σ H D I h;refine wpAny_Assign_stores (thn (he LB s σ H _ I h) fun v s1 ⟨x,H1,I1,r1,q1⟩=>?_) hs hw;rw[h1];exact thn (hg LB s1 σ H1 x v _ I1 r1 q1) fun _ s2 q=>q
theorem d8{i:Nat}{x:Str}{e:Expr}{te:TE}{pos':Pos}(hN:X.N.Nodup)(hi:X.N[i]? =some x)(hx:Loc X.env.scope x)(he:PE X e te)(hs:swapsWith e (some (.Name x pos')) pos.line X.env=pure false:=by rfl)(hf:X.fn x=true\/X.env.scope.names.lookup x=some .local:=by first | exact .inl rfl | exact .inr rfl | assumption):
  PS X (.Assign [.Name x pos'] e pos) (tAsg te (gName i)):=by
 intro LB s σ H D I h;refine wpAny_Assign_Name (thn (he LB s σ H _ I h) fun v s1 ⟨y,H1,I1,r1,q1⟩=>?_) hs;exact zy I1 hN hi hx r1 (fun s2 I2=>⟨_,H1,I2,q1⟩) hf
end
section
variable{X:Cx}{pos:Pos}
def Dd(c:TT)(tb:TS):TS:=fun D σ H=>∃ W:Nat->St->Hp->Prop,(∃ m,W m σ H)/\∀ m σ H,W m σ H->
 c σ H fun b H1=>if b=true then ∃ N:St->Hp->Prop,(∀ σ' H',N σ' H'->∃ m',m'<m/\W m' σ' H')/\tb {D with nx:=N,ct:=N,bk:=D.nx} σ H1 else D.nx σ H1
theorem EN{c:Expr}{body:List Stmt}{tc:TT}{tb:TS}(hp:PassesOwn (model X.prog X.w) X.A X.env X.xe)(hc:PT X c tc)(hb:PSs X body tb):PS X (.While c body [] pos) (Dd tc tb):=by
 intro LB s σ H D I h;obtain⟨W,⟨m0,w0⟩,turn⟩:=h;refine wpAny_While (codeAny_whileLoop (fun n s'=>∃ σ' H',Inv X LB σ' H' s'/\W n σ' H') ?_ m0 ⟨σ,H,I,w0⟩);rintro n s1 ⟨σ1,H1,I1,w1⟩;refine Nz hp (thn (hc LB s1 σ1 H1 _ I1 (turn n σ1 H1 w1)) fun b s2 ⟨H2,I2,q2⟩=>?_)
 cases b with
 | true=>
  obtain⟨N,hN,q2⟩:=q2;rw[Md rfl];refine Nz hp (thn (hb LB s2 σ1 H2 _ I2 q2) fun f s3 q3=>?_)
  cases f with
  | next=>
   obtain⟨σ3,H3,I3,n3⟩:=q3;obtain⟨m',hm,w3⟩:=hN σ3 H3 n3;exact⟨m',hm,σ3,H3,I3,w3⟩
  | cont=>
   obtain⟨σ3,H3,I3,n3⟩:=q3;obtain⟨m',hm,w3⟩:=hN σ3 H3 n3;exact⟨m',hm,σ3,H3,I3,w3⟩
  | brk=>exact q3
  | ret v=>exact q3
 | false=>
  rw[L4 LY];exact OG ⟨σ1,H2,I2,q2⟩
end
structure It where
 go:Nat->Hp->Prop
 yld:Nat->Hp->V->Hp->Prop
 stop:Nat->Hp->Prop
def FpOk(X:Cx)(LB:List (Addr × Obj))(H:Hp)(b:Addr):Prop:=
 H b=none/\b≠X.env.locals/\b∉X.fs/\(b∈X.ex\/X.s₀.heap.objs.size<=b)/\(∀ x c,X.env.cells.lookup x=some c->c≠b)/\∀ p∈X.pn++LB,p.1≠b
variable{s:Shared}
theorem Inv.fpOk{LB:List (Addr × Obj)}{σ:St}{H H':Hp}{b:Addr}(I:Inv X LB σ H s)(hb:s.heap.objs.size<=b)(hn:H' b=none):FpOk X LB H' b:=by
 refine⟨hn,OQ (Mw I.lt hb),I.nofs hb,.inr (L8 I.sz hb),fun x c e z=>?_,fun p hp z=>?_⟩
 . obtain⟨v,q⟩:=I.cell x c e;exact absurd (Mw q.lt (by rw[z];exact hb)) (Nt _)
 . exact absurd (Mw (Mm (I.pin p hp).1) (by rw[z];exact hb)) (Nt _)
structure Turn(P:Program)(w:World)(K:Frag)(tg:Expr)(J:It)(fp:List Addr)(it:Addr)(tn:Nat->Heap->Prop):Prop where
 mem:it∈fp
 obj:∀ i h,tn i h->∀ b∈fp,∃ o,h.get? b=some o/\∀ v,o.data≠.cell v
 keep:∀ i h h',tn i h->(∀ b∈fp,∀ o,h.get? b=some o->h'.get? b=some o)->tn i h'
 item:∀(X:Cx),X.prog=P->X.w=w->X.K=K->X.calm=true->∀(i:Nat) (LB:List (Addr × Obj)) (s:Shared) (σ:St) (H:Hp) (E:Value->Shared->Prop),Inv X LB σ H s->(∀ b∈fp,FpOk X LB H b)->tn i s.heap->J.go i H->
  wpAny (model P w) X.A (pyNext (.ref it)) (fun r s1=>∃ u,r=some u/\
   wpAny (model P w) X.A (letOwnedTupleGo tg (.ref it) u) (fun _ s2=>∃ x H',Inv X LB σ H' s2/\RelV x u/\J.yld i H x H'/\tn (i+1) s2.heap/\∀ b∈fp,H' b=none) E s1) E s
 done:∀(X:Cx),X.prog=P->X.w=w->X.K=K->X.calm=true->∀(i:Nat) (LB:List (Addr × Obj)) (s:Shared) (σ:St) (H:Hp) (E:Value->Shared->Prop),Inv X LB σ H s->(∀ b∈fp,FpOk X LB H b)->tn i s.heap->J.stop i H->
  wpAny (model P w) X.A (pyNext (.ref it)) (fun r s1=>r=none/\Inv X LB σ H s1) E s
 self:∀(A:Around) (i:Nat) (s:Shared) (Q:Value->Shared->Prop) (E:Value->Shared->Prop),tn i s.heap->Q (.ref it) s->wpAny (model P w) A (pyIter (.ref it)) Q E s
abbrev TI:=St->Hp->(It->Hp->Prop)->Prop
def PIE(X:Cx)(LB:List (Addr × Obj))(σ:St)(tg:Expr)(R:It->Hp->Prop)(itv:Value)(s2:Shared):Prop:=
 ∃(it:Addr) (fp:List Addr) (tn:Nat->Heap->Prop) (J:It) (H':Hp),itv=.ref it/\Inv X LB σ H' s2/\Turn X.prog X.w X.K tg J fp it tn/\tn 0 s2.heap/\(∀ b∈fp,FpOk X LB H' b)/\R J H'
def PI(X:Cx)(tg iter:Expr)(wi:TI):Prop:=
 ∀(LB:List (Addr × Obj)) (s:Shared) (σ:St) (H:Hp) (R:It->Hp->Prop),Inv X LB σ H s->wi σ H R->
  wpAny (model X.prog X.w) X.A (eval iter X.env) (fun v s1=>wpAny (model X.prog X.w) X.A (pyIter v) (PIE X LB σ tg R) X.xe s1) X.xe s
variable{tg:Expr}
theorem zr {M:Model} {A:Around} {it:Addr} {o:Obj} {n:String} {vs:Array Value} {Q:Unit->Shared->Prop} (ho:s.heap.get? it=some o) (hc:o.cls=.type n) (hd:o.data=.fields vs)
  (hn:["enumerate","zip","dict_itemiterator","dict_reverseitemiterator","odict_iterator","itertools.zip_longest","itertools.pairwise"].contains n=false) (hQ:Q () s):wpAny M A (letOwnedTupleGo tg (.ref it) u) Q E s:=by
 unfold letOwnedTupleGo
 cases tg <;> first
  | exact MO hQ
  | (cases u <;> first
    | exact MO hQ
    | (refine MA (wpAny_load ho ?_)
       rw[hc,hd];show wpAny M A (if (["enumerate","zip","dict_itemiterator","dict_reverseitemiterator","odict_iterator","itertools.zip_longest","itertools.pairwise"].contains n&&vs[0]? ==some (rawInt _))=true then _ else _) Q E s;rw[L4 (by intro h;rw[hn,Mb] at h;cases h)];exact MO hQ))
def Itl(K:Frag)(a:Addr):It:=
 ⟨fun i H=>∃ xs x,SqL K H a xs/\xs[i]? =some x,fun i H x H'=>H'=H/\∀ xs,SqL K H a xs->xs[i]? =some x,fun i H=>∃ xs,SqL K H a xs/\xs.length<=i⟩
def Itt(K:Frag)(a:Addr):It:=
 ⟨fun i H=>∃ xs x,SqT K H a xs/\xs[i]? =some x,fun i H x H'=>H'=H/\∀ xs,SqT K H a xs->xs[i]? =some x,fun i H=>∃ xs,SqT K H a xs/\xs.length<=i⟩
def Itr(lo:Int)(n:Nat):It:=⟨fun i _=>i<n,fun i H x H'=>H'=H/\x=.int (lo+i),fun i _=>n<=i⟩
variable{P:Program}{w:World}{K:Frag}
theorem Df(a it:Addr):Turn P w K tg (Itl K a) [it] it (fun i h=>h.IsListIter it a i) where
 mem:=by simp
 obj:=fun i h st b hb=>by
  have e:b=it:=by simpa using hb
  subst e;obtain⟨o,e,c,d⟩:=st;exact⟨o,e,fun v z=>by rw[d] at z;cases z⟩
 keep:=fun i h h' st k=>st.at fun o e=>k it (by simp) o e
 item:=by
  intro X hP hw hK hc i LB s σ H E I hf st hg;subst hP hw hK;obtain⟨xs,x,hq,hx⟩:=hg;obtain⟨LF,rv,p,hz⟩:=I.list hq;obtain⟨u,hu,ru⟩:=rv.get hx;obtain⟨f0,f1,f2,f3,f4,f5⟩:=hf it (by simp);refine wpAny_pyNext_list_item st p.isList (x:=u) (by simpa using hu) fun h' st' sb=>?_;have I1:Inv X LB σ H {s with heap:=h'}:=I.turned (t':=s.toks) (fun b o hb e=>(sb.2 b hb).trans e) f0 f1 f3 f4 f5;obtain⟨o,e,c,d⟩:=id st';exact⟨u,rfl,zr (s:={s with heap:=h'}) e c d (by decide) ⟨x,H,I1,ru,⟨rfl,fun ys hy=>by rw[I.list_inj hy hq];exact hx⟩,st',fun b hb=>(hf b hb).1⟩⟩
 done:=by
  intro X hP hw hK hc i LB s σ H E I hf st hg;subst hP hw hK;obtain⟨xs,hq,hx⟩:=hg;obtain⟨LF,rv,p,hz⟩:=I.list hq;obtain⟨f0,f1,f2,f3,f4,f5⟩:=hf it (by simp);have hl:=rv.length;exact wpAny_pyNext_list_end (I.ok.hd hc) st p.isList (by simp;omega) fun h' eb=>⟨rfl,I.turned (t':=s.toks) (fun b o hb e=>eb b o hb e) f0 f1 f3 f4 f5⟩
 self:=fun _ _ _ _ _ st h=>wpAny_pyIter_listiter st h
theorem B8(a it:Addr):Turn P w K tg (Itt K a) [it] it (fun i h=>h.IsTupleIter it a i) where
 mem:=by simp
 obj:=fun i h st b hb=>by
  have e:b=it:=by simpa using hb
  subst e;obtain⟨o,e,c,d⟩:=st;exact⟨o,e,fun v z=>by rw[d] at z;cases z⟩
 keep:=fun i h h' st k=>st.at fun o e=>k it (by simp) o e
 item:=by
  intro X hP hw hK hc i LB s σ H E I hf st hg;subst hP hw hK;obtain⟨xs,x,hq,hx⟩:=hg;obtain⟨LF,rv,p,hz⟩:=I.tuple hq;obtain⟨u,hu,ru⟩:=rv.get hx;obtain⟨f0,f1,f2,f3,f4,f5⟩:=hf it (by simp);refine wpAny_pyNext_tuple_item st (show s.heap.IsTuple a LF.toArray from p) (x:=u) (by simpa using hu) fun h' st' sb=>?_;have I1:Inv X LB σ H {s with heap:=h'}:=I.turned (t':=s.toks) (fun b o hb e=>(sb.2 b hb).trans e) f0 f1 f3 f4 f5;obtain⟨o,e,c,d⟩:=id st';exact⟨u,rfl,zr (s:={s with heap:=h'}) e c d (by decide) ⟨x,H,I1,ru,⟨rfl,fun ys hy=>by rw[I.tuple_inj hy hq];exact hx⟩,st',fun b hb=>(hf b hb).1⟩⟩
 done:=by
  intro X hP hw hK hc i LB s σ H E I hf st hg;subst hP hw hK;obtain⟨xs,hq,hx⟩:=hg;obtain⟨LF,rv,p,hz⟩:=I.tuple hq;obtain⟨f0,f1,f2,f3,f4,f5⟩:=hf it (by simp);have hl:=rv.length;exact wpAny_pyNext_tuple_end (I.ok.hd hc) st (show s.heap.IsTuple a LF.toArray from p) (by simp;omega) fun h' eb=>⟨rfl,I.turned (t':=s.toks) (fun b o hb e=>eb b o hb e) f0 f1 f3 f4 f5⟩
 self:=fun _ _ _ _ _ st h=>wpAny_pyIter_tupleiter st h
theorem B9(it:Addr)(lo:Int)(n:Nat):Turn P w K tg (Itr lo n) [it] it (fun i h=>IsRangeIter h it (lo+(i:Nat)*1) ((n:Int) - (i:Nat)) 1) where
 mem:=by simp
 obj:=fun i h st b hb=>by
  have e:b=it:=by simpa using hb
  subst e
  exact⟨_,st,fun v z=>by
   have z':Data.fields _=Data.cell v:=z;cases z'⟩
 keep:=fun i h h' st k=>k it (by simp) _ st
 item:=by
  intro X hP hw hK hc i LB s σ H E I hf st hg;subst hP hw hK;obtain⟨f0,f1,f2,f3,f4,f5⟩:=hf it (by simp);have W:=Walks.range (prog:=X.prog) (w:=X.w) (I.ok.hd hc) it lo 1 n;refine W.item i s _ _ hg st fun v h' tk hv st' kk=>?_;obtain⟨t,rfl⟩:=hv;have I1:Inv X LB σ H {s with heap:=h',toks:=tk}:=I.turned (fun b o hb e=>kk b o (by simpa using hb) e) f0 f1 f3 f4 f5;refine⟨_,rfl,zr (s:={s with heap:=h',toks:=tk}) (n:="range_iterator") st' rfl rfl (by decide) ⟨.int (lo+i),H,I1,⟨t,?_⟩,⟨rfl,rfl⟩,st',fun b hb=>(hf b hb).1⟩⟩;rw[Int.mul_one]
 done:=by
  intro X hP hw hK hc i LB s σ H E I hf st hg;subst hP hw hK;obtain⟨f0,f1,f2,f3,f4,f5⟩:=hf it (by simp);exact wpAny_pyNext_range_end (I.ok.hd hc) st (by have:n<=i:=hg;omega) fun h' eb=>⟨rfl,I.turned (t':=s.toks) (fun b o hb e=>eb b o hb e) f0 f1 f3 f4 f5⟩
 self:=fun _ _ _ _ _ st h=>wpAny_pyIter_rangeiter st h
section
variable{X:Cx}{tg:Expr}
def iList(K:Frag)(tl:TE):TI:=fun σ H R=>tl σ H fun x H1=>∃ a,x=.ref a/\(∃ xs,SqL K H1 a xs)/\R (Itl K a) H1
def iTup(K:Frag)(tl:TE):TI:=fun σ H R=>tl σ H fun x H1=>∃ a,x=.ref a/\(∃ xs,SqT K H1 a xs)/\R (Itt K a) H1
theorem aB{l:Expr}{tl:TE}(hl:PE X l tl):PI X tg l (iList X.K tl):=by
 intro LB s σ H R I h;refine thn (hl LB s σ H _ I h) fun v s1 ⟨x,H1,I1,r1,q1⟩=>?_;obtain⟨a,e,⟨xs,hq⟩,q⟩:=q1;subst e;cases r1;obtain⟨LF,rv,p,hz⟩:=I1.list hq;refine Oe p.isList ?_;refine⟨s1.heap.objs.size,[s1.heap.objs.size],_,_,H1,rfl,I1.kept (t':=s1.toks) fun b o e=>Mh _ e,Df a _,⟨_,MH _ rfl,rfl,rfl⟩,fun b hb=>?_,q⟩;have e:b=s1.heap.objs.size:=by simpa using hb
 subst e;exact I1.fpOk (Mj _) (I1.hok.fresh (Mj _))
theorem uY{l:Expr}{tl:TE}(hl:PE X l tl):PI X tg l (iTup X.K tl):=by
 intro LB s σ H R I h;refine thn (hl LB s σ H _ I h) fun v s1 ⟨x,H1,I1,r1,q1⟩=>?_;obtain⟨a,e,⟨xs,hq⟩,q⟩:=q1;subst e;cases r1;obtain⟨LF,rv,p,hz⟩:=I1.tuple hq;refine wpAny_pyIter_tuple (show s1.heap.IsTuple a LF.toArray from p) ?_;refine⟨s1.heap.objs.size,[s1.heap.objs.size],_,_,H1,rfl,I1.kept (t':=s1.toks) fun b o e=>Mh _ e,B8 a _,⟨_,MH _ rfl,rfl,rfl⟩,fun b hb=>?_,q⟩;have e:b=s1.heap.objs.size:=by simpa using hb
 subst e;exact I1.fpOk (Mj _) (I1.hok.fresh (Mj _))
theorem zA {LB:List (Addr × Obj)} {σ:St} {H:Hp} {s:Shared} {R:It->Hp->Prop} {E:Value->Shared->Prop} {lo hi:Int} {t u v:Tok} {tk:Nat} (I:Inv X LB σ H s) (h1: -(2^62)<=lo) (h2:lo<2^62) (h3: -(2^62)<=hi) (h4:hi<2^62)
  (q:R (Itr lo (hi-lo).toNat) H):wpAny (model X.prog X.w) X.A (pyIter (.ref s.heap.objs.size)) (PIE X LB σ tg R) E {s with heap:=s.heap.push {cls:=.type "range",data:=.fields #[.int lo t,.int hi u,.int 1 v]},toks:=tk}:=by
 refine wpAny_pyIter_range (IsRange.new ..) (small_one h1 h2 h3 h4) ?_;have I1:Inv X LB σ H {s with heap:=s.heap.push {cls:=.type "range",data:=.fields #[.int lo t,.int hi u,.int 1 v]},toks:=tk}:=I.kept fun b o e=>Mh _ e
 refine⟨(s.heap.push {cls:=.type "range",data:=.fields #[.int lo t,.int hi u,.int 1 v]}).objs.size,[(s.heap.push {cls:=.type "range",data:=.fields #[.int lo t,.int hi u,.int 1 v]}).objs.size],_,_,H,rfl,
  I1.kept (t':=tk) fun b o e=>Mh _ e,B9 _ lo (hi-lo).toNat,?_,fun b hb=>?_,q⟩
 . have e1:lo+((0:Nat):Int)*1=lo:=by simp
   have e2:(((hi-lo).toNat:Nat):Int) - ((0:Nat):Int)=Builtin.Range.rangeSize lo hi 1:=by rw[rangeSize_one];split <;> omega
   show IsRangeIter _ _ (lo+((0:Nat):Int)*1) ((((hi-lo).toNat:Nat):Int) - ((0:Nat):Int)) 1;rw[e1,e2];exact MH _ rfl
 . have e:b=(s.heap.push {cls:=.type "range",data:=.fields #[.int lo t,.int hi u,.int 1 v]}).objs.size:=by simpa using hb
   subst e;exact I1.fpOk (Mj _) (I1.hok.fresh (Mj _))
def dP(ta:TA):TI:=fun σ H R=>ta σ H fun vs H1=>∃ j:Int,vs=[.int j]/\ -(2^62)<=j/\j<2^62/\R (Itr 0 j.toNat) H1
def pF(ta:TA):TI:=fun σ H R=>ta σ H fun vs H1=>∃ i j:Int,vs=[.int i,.int j]/\(-(2^62)<=i/\i<2^62/\ -(2^62)<=j/\j<2^62)/\R (Itr i (j-i).toNat) H1
theorem bX{a:Expr}{ta:TA}{p pos:Pos}(hg:Gl X "range")(hm:X.mg "range"=none)(ha:PA X [a] ta)(hs:starEach [a] X.env=[(false,eval a X.env)]:=by rfl):PI X tg (.Call (.Name "range" p) [a] [] pos) (dP ta):=by
 intro LB s σ H R I h;refine Call_ (gM I hg hm boot_range (MU (thn (ha pos LB s σ H _ I h) fun us s1 ⟨vs,H1,I1,r1,q1⟩=>?_) hs rfl));obtain⟨j,e,q1,q2,q⟩:=q1;subst e
 cases r1 with
 | cons r rr=>
  cases rr;obtain⟨t,rfl⟩:=r;exact call_range_1 (zA I1 (by omega) (by omega) q1 q2 (by simpa using q))
theorem qJ{a b:Expr}{ta:TA}{p pos:Pos}(hg:Gl X "range")(hm:X.mg "range"=none)(ha:PA X [a,b] ta)(hs:starEach [a,b] X.env=[(false,eval a X.env),(false,eval b X.env)]:=by rfl)(hs2:starEach [b] X.env=[(false,eval b X.env)]:=by rfl):
  PI X tg (.Call (.Name "range" p) [a,b] [] pos) (pF ta):=by
 intro LB s σ H R I h;refine Call_ (gM I hg hm boot_range (MU (thn (ha pos LB s σ H _ I h) fun us s1 ⟨vs,H1,I1,r1,q1⟩=>?_) (by rw[hs,hs2]) (by rw[hs2];rfl)));obtain⟨i,j,e,⟨q1,q2,q3,q4⟩,q⟩:=q1;subst e
 cases r1 with
 | cons r rr=>
  cases rr with
  | cons r' rr=>
   cases rr;obtain⟨t,rfl⟩:=r;obtain⟨t',rfl⟩:=r';exact call_range_2 (zA I1 q1 q2 q3 q4 q)
def tFor(wi:TI)(g:TG)(tb:TS):TS:=fun D σ H=>wi σ H fun J H1=>∃ W:Nat->Nat->St->Hp->Prop,(∃ m,W 0 m σ H1)/\∀ i m σ H,W i m σ H->
 (J.stop i H/\D.nx σ H)\/(J.go i H/\∃ N:St->Hp->Prop,(∀ σ' H',N σ' H'->∃ m',m'<m/\W (i+1) m' σ' H')/\∀ x H',J.yld i H x H'->g x σ H' fun σ2 H2=>tb {D with nx:=N,ct:=N,bk:=D.nx} σ2 H2)
def qK(fp:List Addr)(h:Heap):List (Addr × Obj):=fp.filterMap fun b=>(h.get? b).map fun o=>(b,o)
theorem lw{fp:List Addr}{h:Heap}{b:Addr}{o:Obj}(hb:b∈fp)(e:h.get? b=some o):(b,o)∈qK fp h:=List.mem_filterMap.mpr ⟨b,hb,by rw[e];rfl⟩
theorem Dg{fp:List Addr}{h:Heap}{p:Addr × Obj}(hp:p∈qK fp h):p.1∈fp/\h.get? p.1=some p.2:=by
 obtain⟨b,hb,e⟩:=List.mem_filterMap.mp hp
 cases q:h.get? b with
 | none=>rw[q] at e;cases e
 | some o=>
  rw[q] at e;have e':(b,o)=p:=M9 e;subst e';exact⟨hb,q⟩
theorem Inv.pinned{LB:List (Addr × Obj)}{σ:St}{H:Hp}{s:Shared}{fp:List Addr}(I:Inv X LB σ H s)(hf:∀ b∈fp,FpOk X LB H b)(ho:∀ b∈fp,∃ o,s.heap.get? b=some o/\∀ v,o.data≠.cell v):Inv X (LB++qK fp s.heap) σ H s:=
 I.pins_of fun p hp=>(Ml.mp hp).elim (fun z=>I.pin p (MP _ z)) fun z=>by
  obtain⟨hb,e⟩:=Dg z;obtain⟨f0,f1,f2,_⟩:=hf p.1 hb;obtain⟨o,e',d⟩:=ho p.1 hb;rw[e] at e';cases e';exact⟨e,f0,f1,f2,d⟩
theorem Inv.unpinned{LB pl:List (Addr × Obj)}{σ:St}{H:Hp}{s:Shared}(I:Inv X (LB++pl) σ H s):Inv X LB σ H s:=I.pins_of fun p hp=>I.pin p (MP _ (OC _ hp))
theorem be {iter:Expr} {body:List Stmt} {wi:TI} {g:TG} {tb:TS} {pos:Pos} (hp:PassesOwn (model X.prog X.w) X.A X.env X.xe) (hc:X.calm=true) (hi:PI X tg iter wi) (hg:PG X tg g) (hb:PSs X body tb)
  (hs:∀ x,foldedSetIterable iter X.env x=pure x:=by intro _;rfl):PS X (.For tg iter body [] pos) (tFor wi g tb):=by
 intro LB s σ H D I h;refine wpAny_For (thn (hi LB s σ H _ I h) fun v s1 h1=>thn h1 fun itv s2 h2=>?_) hs;obtain⟨it,fp,tn,J,H2,e,I2,T,st2,f2,W,⟨m0,w0⟩,turn⟩:=h2;subst e;have stat:∀{H':Hp},(∀ b∈fp,H' b=none)->∀ b∈fp,FpOk X LB H' b:=fun hn b hb=>⟨hn b hb,(f2 b hb).2⟩;refine codeAny_forLoop_any (fun n s'=>∃ i σ' H',Inv X LB σ' H' s'/\tn i s'.heap/\(∀ b∈fp,H' b=none)/\W i n σ' H') ?_ m0 ⟨0,σ,H2,I2,st2,fun b hb=>(f2 b hb).1,w0⟩;rintro n s3 ⟨i,σ3,H3,I3,st3,fr3,w3⟩;rcases turn i n σ3 H3 w3 with ⟨stop,qn⟩ | ⟨go,N,hN,step⟩
 . refine Nz hp (thn (T.done X rfl rfl rfl hc i LB s3 σ3 H3 X.xe I3 (stat fr3) st3 stop) fun r s4 ⟨hr,I4⟩=>?_);subst hr;exact OG ⟨σ3,H3,I4,qn⟩
 . refine Nz hp (thn (T.item X rfl rfl rfl hc i LB s3 σ3 H3 X.xe I3 (stat fr3) st3 go) fun r s4 ⟨u,hr,h4⟩=>?_);subst hr;refine Nz hp (thn h4 fun _ s5 ⟨x,H5,I5,r5,y5,st5,fr5⟩=>?_);have I5':=I5.pinned (stat fr5) (T.obj _ _ st5);refine Nz hp (thn (hg _ s5 σ3 H5 x u _ I5' r5 (step x H5 y5)) fun _ s6 ⟨σ6,H6,I6,q6⟩=>?_);refine Nz hp (thn (hb _ s6 σ6 H6 _ I6 q6) fun f s7 q7=>?_)
   have again:∀{σ7:St} {H7:Hp},Inv X (LB++qK fp s5.heap) σ7 H7 s7->N σ7 H7->∃ m,m<n/\∃ i σ' H',Inv X LB σ' H' s7/\tn i s7.heap/\(∀ b∈fp,H' b=none)/\W i m σ' H':=fun{σ7 H7} I7 n7=>by
    obtain⟨m',hm,w7⟩:=hN σ7 H7 n7;refine⟨m',hm,i+1,σ7,H7,I7.unpinned,T.keep _ _ _ st5 fun b hb o e=>(I7.pin (b,o) (MP _ (MP _ (lw hb e)))).1,fun b hb=>?_,w7⟩;obtain⟨o,e,d⟩:=T.obj _ _ st5 b hb;exact(I7.pin (b,o) (MP _ (MP _ (lw hb e)))).2.1
   cases f with
   | next=>obtain⟨σ7,H7,I7,n7⟩:=q7;exact again I7 n7
   | cont=>obtain⟨σ7,H7,I7,n7⟩:=q7;exact again I7 n7
   | brk=>obtain⟨σ7,H7,I7,q7⟩:=q7;exact⟨σ7,H7,I7.unpinned,q7⟩
   | ret v=>obtain⟨x7,σ7,H7,I7,r7,q7⟩:=q7;exact⟨x7,σ7,H7,I7.unpinned,r7,q7⟩
end
theorem bq {K:Frag} {a:Addr} {xs:List V} {g:TG} {tb:TS} {D:Ends} {σ:St} {H:Hp} (Pv:Nat->St->Hp->Prop) (h0:Pv 0 σ H) (hl:∀ i σ H,i<=xs.length->Pv i σ H->SqL K H a xs)
  (hs:∀ i x σ H,xs[i]? =some x->Pv i σ H->g x σ H fun σ2 H2=>tb {D with nx:=Pv (i+1),ct:=Pv (i+1),bk:=D.nx} σ2 H2) (hd:∀ σ H,Pv xs.length σ H->D.nx σ H):
  ∃ W:Nat->Nat->St->Hp->Prop,(∃ m,W 0 m σ H)/\∀ i m σ H,W i m σ H->
   ((Itl K a).stop i H/\D.nx σ H)\/((Itl K a).go i H/\∃ N:St->Hp->Prop,(∀ σ' H',N σ' H'->∃ m',m'<m/\W (i+1) m' σ' H')/\∀ x H',(Itl K a).yld i H x H'->g x σ H' fun σ2 H2=>tb {D with nx:=N,ct:=N,bk:=D.nx} σ2 H2):=by
 refine⟨fun i m σ H=>m=xs.length-i/\i<=xs.length/\Pv i σ H,⟨xs.length,by simp,MV _,h0⟩,?_⟩;rintro i m σ H ⟨rfl,hi,p⟩;have q:=hl i σ H hi p;by_cases hlt:i<xs.length
 . refine .inr ⟨⟨xs,xs[i],q,by simp[hlt]⟩,Pv (i+1),fun σ' H' p'=>⟨xs.length - (i+1),by omega,rfl,hlt,p'⟩,fun x H' y=>?_⟩;obtain⟨e,y⟩:=y;subst e;exact hs i x σ _ (y xs q) p
 . have e:i=xs.length:=by omega
   subst e;exact .inl ⟨⟨xs,q,Mj _⟩,hd σ H p⟩
theorem dN {lo:Int} {n:Nat} {g:TG} {tb:TS} {D:Ends} {σ:St} {H:Hp} (Pv:Nat->St->Hp->Prop) (h0:Pv 0 σ H)
  (hs:∀ i σ H,i<n->Pv i σ H->g (.int (lo+i)) σ H fun σ2 H2=>tb {D with nx:=Pv (i+1),ct:=Pv (i+1),bk:=D.nx} σ2 H2) (hd:∀ σ H,Pv n σ H->D.nx σ H):
  ∃ W:Nat->Nat->St->Hp->Prop,(∃ m,W 0 m σ H)/\∀ i m σ H,W i m σ H->
   ((Itr lo n).stop i H/\D.nx σ H)\/((Itr lo n).go i H/\∃ N:St->Hp->Prop,(∀ σ' H',N σ' H'->∃ m',m'<m/\W (i+1) m' σ' H')/\∀ x H',(Itr lo n).yld i H x H'->g x σ H' fun σ2 H2=>tb {D with nx:=N,ct:=N,bk:=D.nx} σ2 H2):=by
 refine⟨fun i m σ H=>m=n-i/\i<=n/\Pv i σ H,⟨n,by simp,MV _,h0⟩,?_⟩;rintro i m σ H ⟨rfl,hi,p⟩;by_cases hlt:i<n
 . refine .inr ⟨hlt,Pv (i+1),fun σ' H' p'=>⟨n - (i+1),by omega,rfl,hlt,p'⟩,fun x H' y=>?_⟩;obtain⟨e,y⟩:=y;subst e y;exact hs i σ _ hlt p
 . have e:i=n:=by omega
   subst e;exact .inl ⟨Mj _,hd σ H p⟩
abbrev R2:=V->V->Hp->VK->Prop
def OpR(X:Cx)(f:Value->Value->Sem Value)(r:R2):Prop:=
 ∀(LB:List (Addr × Obj)) (s:Shared) (σ:St) (H:Hp) (x y:V) (v u:Value) (Q:VK),Inv X LB σ H s->RelV x v->RelV y u->r x y H Q->
  wpAny (model X.prog X.w) X.A (f v u) (EP X LB σ Q) X.xe s
def UnR(X:Cx)(f:Value->Sem Value)(r:V->Hp->VK->Prop):Prop:=
 ∀(LB:List (Addr × Obj)) (s:Shared) (σ:St) (H:Hp) (x:V) (v:Value) (Q:VK),Inv X LB σ H s->RelV x v->r x H Q->
  wpAny (model X.prog X.w) X.A (f v) (EP X LB σ Q) X.xe s
def CallR(X:Cx)(f:Value)(r:List V->Hp->VK->Prop):Prop:=
 ∀(LB:List (Addr × Obj)) (s:Shared) (σ:St) (H:Hp) (xs:List V) (us:List Value) (Q:VK),Inv X LB σ H s->Vals xs us->r xs H Q->
  wpAny (model X.prog X.w) X.A (call f us) (EP X LB σ Q) X.xe s
def tOp(r:R2)(ta tb:TE):TE:=fun σ H Q=>ta σ H fun x H1=>tb σ H1 fun y H2=>r x y H2 Q
def tUn(r:V->Hp->VK->Prop)(ta:TE):TE:=fun σ H Q=>ta σ H fun x H1=>r x H1 Q
def rI(C:Int->Int->Prop)(g:Int->Int->V):R2:=fun x y H Q=>∃ i j,x=.int i/\y=.int j/\C i j/\Q (g i j) H
def rI0(g:Int->Int->V):R2:=fun x y H Q=>∃ i j,x=.int i/\y=.int j/\Q (g i j) H
def rU(g:Int->V):V->Hp->VK->Prop:=fun x H Q=>∃ i,x=.int i/\Q (g i) H
section
variable{X:Cx}{a b c:Expr}{ta tb tc:TE}{pos:Pos}
theorem binT (ha:PE X a ta) (hb:PE X b tb) {LB:List (Addr × Obj)} {s:Shared} {σ:St} {H:Hp} {R:V->V->Hp->Prop} (I:Inv X LB σ H s)
  (h:ta σ H fun x H1=>tb σ H1 fun y H2=>R x y H2) {Q:Value->Shared->Prop} {f:Value->Value->Sem Value}
  (hf:∀ v u s2 x y H2,Inv X LB σ H2 s2->RelV x v->RelV y u->R x y H2->wpAny (model X.prog X.w) X.A (f v u) Q X.xe s2):
  wpAny (model X.prog X.w) X.A (eval a X.env) (fun v s₁=>wpAny (model X.prog X.w) X.A (eval b X.env) (fun u s₂=>wpAny (model X.prog X.w) X.A (f v u) Q X.xe s₂) X.xe s₁) X.xe s:=by
 refine thn (ha LB s σ H _ I h) fun v s1 ⟨x,H1,I1,r1,q1⟩=>?_;refine thn (hb LB s1 σ H1 _ I1 q1) fun u s2 ⟨y,H2,I2,r2,q2⟩=>?_;exact hf v u s2 x y H2 I2 r1 r2 q2
theorem ao{op:Operator}{r:R2}(ho:OpR X (binaryOp op) r)(ha:PE X a ta)(hb:PE X b tb):PE X (.BinOp a op b pos) (tOp r ta tb):=by
 intro LB s σ H Q I h;exact wpAny_BinOp (binT ha hb I h fun v u s2 x y H2 I2 rx ry q=>ho LB s2 σ H2 x y v u Q I2 rx ry q)
theorem HN{op:UnaryOp}{r:V->Hp->VK->Prop}(ho:UnR X (unaryOp op) r)(ha:PE X a ta):PE X (.UnaryOp op a pos) (tUn r ta):=by
 intro LB s σ H Q I h;exact UnaryOp_ (thn (ha LB s σ H _ I h) fun v s1 ⟨x,H1,I1,r1,q1⟩=>ho LB s1 σ H1 x v Q I1 r1 q1)
theorem opI {f:Value->Value->Sem Value} {C:Int->Int->Prop} {g:Int->Int->Int}
  (rule:∀(i j:Int) (t u:Tok) (s:Shared) (Q:Value->Shared->Prop) (E:Value->Shared->Prop),C i j->Q (.int (g i j) s.toks) {s with toks:=s.toks+1}->wpAny (model X.prog X.w) X.A (f (.int i t) (.int j u)) Q E s):
  OpR X f (rI C fun i j=>.int (g i j)):=by
 intro LB s σ H x y v u Q I rx ry h;obtain⟨i,j,rfl,rfl,hc,q⟩:=h;obtain⟨t,rfl⟩:=rx;obtain⟨t',rfl⟩:=ry;exact rule i j t t' s _ _ hc ⟨.int (g i j),H,I.tok _,⟨_,rfl⟩,q⟩
theorem EO {f:Value->Value->Sem Value} {g:Int->Int->Int}
  (rule:∀(i j:Int) (t u:Tok) (s:Shared) (Q:Value->Shared->Prop) (E:Value->Shared->Prop),Q (.int (g i j) s.toks) {s with toks:=s.toks+1}->wpAny (model X.prog X.w) X.A (f (.int i t) (.int j u)) Q E s):
  OpR X f (rI0 fun i j=>.int (g i j)):=by
 intro LB s σ H x y v u Q I rx ry h;obtain⟨i,j,rfl,rfl,q⟩:=h;obtain⟨t,rfl⟩:=rx;obtain⟨t',rfl⟩:=ry;exact rule i j t t' s _ _ ⟨.int (g i j),H,I.tok _,⟨_,rfl⟩,q⟩
theorem Ca {f:Value->Value->Sem Value} {g:Int->Int->Bool}
  (rule:∀(i j:Int) (t u:Tok) (s:Shared) (Q:Value->Shared->Prop) (E:Value->Shared->Prop),Q (.bool (g i j)) s->wpAny (model X.prog X.w) X.A (f (.int i t) (.int j u)) Q E s):
  OpR X f (rI0 fun i j=>.bl (g i j)):=by
 intro LB s σ H x y v u Q I rx ry h;obtain⟨i,j,rfl,rfl,q⟩:=h;obtain⟨t,rfl⟩:=rx;obtain⟨t',rfl⟩:=ry;exact rule i j t t' s _ _ ⟨.bl (g i j),H,I,rfl,q⟩
def CDiv(i j:Int):Prop:=0<j/\j<1073741824
def CPow(i j:Int):Prop:=0<=j/\j<=1000000/\i.natAbs<2^64
def CMul(i j:Int):Prop:=(-(2^64)<i/\i<2^64)\/(-(2^64)<j/\j<2^64)
theorem CMul.ok{i j:Int}(h:CMul i j):IntMulOk i j:=by
 rcases h with ⟨h1,h2⟩ | ⟨h1,h2⟩
 . exact .of_left (intBits_le_64 h1 h2)
 . exact .of_right (intBits_le_64 h1 h2)
theorem Cb(k:Nat):(0:Int)<=2^k:=by
 rw[two_pow_cast];exact Int.natCast_nonneg _
theorem GM:OpR X (binaryOp .Add) (rI0 fun i j=>.int (i+j)):=EO fun _ _ _ _ _ _ _ q=>add_int q
theorem GN:OpR X (binaryOp .Sub) (rI0 fun i j=>.int (i-j)):=EO fun _ _ _ _ _ _ _ q=>sub_int q
theorem GO:OpR X (binaryOp .Mult) (rI CMul fun i j=>.int (i*j)):=opI fun _ _ _ _ _ _ _ hc q=>mul_int q hc.ok
theorem FI:OpR X (binaryOp .FloorDiv) (rI CDiv fun i j=>.int (i/j)):=opI fun i j _ _ _ _ _ hc q=>by
 have h1:(0:Int)<j:=hc.1;have h2:j<1073741824:=hc.2;exact floordiv_int (by omega) (by rw[OV i (by omega)];exact q) (.inl (PyProof.noPylong_small (by omega)))
theorem GP:OpR X (binaryOp .Mod) (rI (fun _ j=>0<j) fun i j=>.int (i%j)):=opI fun i j _ _ _ _ _ hc q=>by
 have h1:(0:Int)<j:=hc;exact mod_int' (by omega) (by rw[Int.fmod_eq_emod_of_nonneg i (by omega)];exact q)
theorem GQ:OpR X (binaryOp .RShift) (rI (fun _ j=>0<=j) fun i j=>.int (i/2^j.toNat)):=opI fun i j _ _ _ _ _ hc q=>
 rshift_int hc (by rw[OV i (Cb _)];exact q)
theorem HP:OpR X (binaryOp .BitOr) (rI0 fun i j=>.int (Builtin.bitOr i j)):=EO fun _ _ _ _ _ _ _ q=>or_int q
theorem unI {f:Value->Sem Value} {g:Int->Int}
  (rule:∀(i:Int) (t:Tok) (s:Shared) (Q:Value->Shared->Prop) (E:Value->Shared->Prop),Q (.int (g i) s.toks) {s with toks:=s.toks+1}->wpAny (model X.prog X.w) X.A (f (.int i t)) Q E s):
  UnR X f (rU fun i=>.int (g i)):=by
 intro LB s σ H x v Q I rx h;obtain⟨i,rfl,q⟩:=h;obtain⟨t,rfl⟩:=rx;exact rule i t s _ _ ⟨.int (g i),H,I.tok _,⟨_,rfl⟩,q⟩
theorem GR:UnR X (unaryOp .USub) (rU fun i=>.int (-i)):=unI fun _ _ _ _ _ q=>neg_int q
end
def scal:V->V->Bool
 | .non,.non=>true | .non,.int _=>true | .int _,.non=>true | .non,.bl _=>true | .bl _,.non=>true | .non,.str _=>true | .str _,.non=>true
 | .int _,.int _=>true | .bl _,.bl _=>true | .str _,.str _=>true | .byt _,.byt _=>true
 | .int _,.str _=>true | .str _,.int _=>true | .bl _,.str _=>true | .str _,.bl _=>true
 | _,_=>false
def rEq:R2:=fun x y H Q=>scal x y=true/\Q (.bl (decide (x=y))) H
def rNe:R2:=fun x y H Q=>scal x y=true/\Q (.bl (!decide (x=y))) H
theorem BC{i j:Int}:decide (V.int i=V.int j)=(i==j):=by
 rw[Mn];simp
theorem Dh{i j:Bool}:decide (V.bl i=V.bl j)=(i==j):=by
 rw[Mn];simp
theorem BD{i j:Str}:decide (V.str i=V.str j)=(i==j):=by
 rw[Mn];simp
theorem BE{i j:Array UInt8}:decide (V.byt i=V.byt j)=(i.toList==j.toList):=by
 rw[Mn];cases i;cases j;simp
section
variable{X:Cx}{a b c:Expr}{ta tb tc:TE}{pos:Pos}
theorem aS{LB:List (Addr × Obj)}{σ:St}{H:Hp}{s:Shared}{Q:VK}{k k':Bool}(I:Inv X LB σ H s)(q:Q (.bl k) H)(e:k=k'):EP X LB σ Q (.bool k') s:=by
 subst e;exact⟨.bl k,H,I,rfl,q⟩
theorem Cc:OpR X (compareOp .Eq) rEq:=by
 intro LB s σ H x y v u Q I rx ry h;obtain⟨hs,q⟩:=h
 cases x with
 | non=>
  cases rx
  cases y with
  | non=>cases ry;exact PySem.EqNone.eq_none_none (aS I q (by simp))
  | bl j=>cases ry;exact PySem.EqNone.eq_none_bool (aS I q (by simp))
  | int j=>obtain⟨t',rfl⟩:=ry;exact PySem.EqNone.eq_none_int (aS I q (by simp))
  | str j=>obtain⟨t',rfl⟩:=ry;exact PySem.EqNone.eq_none_str (aS I q (by simp))
  | _=>exact absurd (show false=true from hs) LY
 | bl i=>
  cases rx
  cases y with
  | non=>cases ry;exact PySem.EqNone.eq_bool_none (aS I q (by simp))
  | bl j=>cases ry;exact eq_bool (aS I q Dh)
  | str j=>obtain⟨t',rfl⟩:=ry;exact PySem.EqMixed.eq_bool_str (aS I q (by simp))
  | _=>exact absurd (show false=true from hs) LY
 | int i=>
  obtain⟨t,rfl⟩:=rx
  cases y with
  | non=>cases ry;exact PySem.EqNone.eq_int_none (aS I q (by simp))
  | int j=>obtain⟨t',rfl⟩:=ry;exact eq_int (aS I q BC)
  | str j=>obtain⟨t',rfl⟩:=ry;exact PySem.EqMixed.eq_int_str (aS I q (by simp))
  | _=>exact absurd (show false=true from hs) LY
 | str i=>
  obtain⟨t,rfl⟩:=rx
  cases y with
  | non=>cases ry;exact PySem.EqNone.eq_str_none (aS I q (by simp))
  | bl j=>cases ry;exact PySem.EqMixed.eq_str_bool (aS I q (by simp))
  | int j=>obtain⟨t',rfl⟩:=ry;exact PySem.EqMixed.eq_str_int (aS I q (by simp))
  | str j=>obtain⟨t',rfl⟩:=ry;exact eq_str (aS I q BD)
  | _=>exact absurd (show false=true from hs) LY
 | byt i=>
  obtain⟨t,rfl⟩:=rx
  cases y with
  | byt j=>obtain⟨t',rfl⟩:=ry;exact PySem.W.eq_bytes (aS I q BE)
  | _=>exact absurd (show false=true from hs) LY
 | _=>cases y <;> exact absurd (show false=true from hs) LY
theorem Cd:OpR X (compareOp .NotEq) rNe:=by
 intro LB s σ H x y v u Q I rx ry h;obtain⟨hs,q⟩:=h
 cases x with
 | non=>
  cases rx
  cases y with
  | non=>cases ry;exact PySem.EqNone.ne_none_none (aS I q (by simp))
  | bl j=>cases ry;exact PySem.EqNone.ne_none_bool (aS I q (by simp))
  | int j=>obtain⟨t',rfl⟩:=ry;exact PySem.EqNone.ne_none_int (aS I q (by simp))
  | str j=>obtain⟨t',rfl⟩:=ry;exact PySem.EqNone.ne_none_str (aS I q (by simp))
  | _=>exact absurd (show false=true from hs) LY
 | bl i=>
  cases rx
  cases y with
  | non=>cases ry;exact PySem.EqNone.ne_bool_none (aS I q (by simp))
  | bl j=>cases ry;exact ne_bool (aS I q (congrArg not Dh))
  | str j=>obtain⟨t',rfl⟩:=ry;exact PySem.EqMixed.ne_bool_str (aS I q (by simp))
  | _=>exact absurd (show false=true from hs) LY
 | int i=>
  obtain⟨t,rfl⟩:=rx
  cases y with
  | non=>cases ry;exact PySem.EqNone.ne_int_none (aS I q (by simp))
  | int j=>obtain⟨t',rfl⟩:=ry;exact ne_int (aS I q (congrArg not BC))
  | str j=>obtain⟨t',rfl⟩:=ry;exact PySem.EqMixed.ne_int_str (aS I q (by simp))
  | _=>exact absurd (show false=true from hs) LY
 | str i=>
  obtain⟨t,rfl⟩:=rx
  cases y with
  | non=>cases ry;exact PySem.EqNone.ne_str_none (aS I q (by simp))
  | bl j=>cases ry;exact PySem.EqMixed.ne_str_bool (aS I q (by simp))
  | int j=>obtain⟨t',rfl⟩:=ry;exact PySem.EqMixed.ne_str_int (aS I q (by simp))
  | str j=>obtain⟨t',rfl⟩:=ry;exact ne_str (aS I q (congrArg not BD))
  | _=>exact absurd (show false=true from hs) LY
 | byt i=>
  obtain⟨t,rfl⟩:=rx
  cases y with
  | byt j=>obtain⟨t',rfl⟩:=ry;exact PySem.W.ne_bytes (aS I q (congrArg not BE))
  | _=>exact absurd (show false=true from hs) LY
 | _=>cases y <;> exact absurd (show false=true from hs) LY
theorem HQ:OpR X (compareOp .Lt) (rI0 fun i j=>.bl (decide (i<j))):=Ca fun _ _ _ _ _ _ _ q=>lt_int q
theorem HR:OpR X (compareOp .LtE) (rI0 fun i j=>.bl (decide (i<=j))):=Ca fun _ _ _ _ _ _ _ q=>le_int q
theorem HS:OpR X (compareOp .Gt) (rI0 fun i j=>.bl (decide (j<i))):=Ca fun _ _ _ _ _ _ _ q=>gt_int q
theorem HU:OpR X (compareOp .GtE) (rI0 fun i j=>.bl (decide (j<=i))):=Ca fun _ _ _ _ _ _ _ q=>ge_int q
theorem Di:OpR X (compareOp .In) (fun x y H Q=>∃ i j,x=.str i/\y=.str j/\Q (.bl (!(Builtin.Str.occurrences j i 0 j.length 1).isEmpty)) H):=by
 intro LB s σ H x y v u Q I rx ry h;obtain⟨i,j,rfl,rfl,q⟩:=h;obtain⟨t,rfl⟩:=rx;obtain⟨t',rfl⟩:=ry;exact in_str (aS I q rfl)
theorem uZ:OpR X (compareOp .Is) (fun x y H Q=>y=.non/\Q (.bl (decide (x=.non))) H):=by
 intro LB s σ H x y v u Q I rx ry h;obtain⟨rfl,q⟩:=h;cases ry;refine is_none_gen (aS I q ?_)
 cases x <;> first
  | (cases rx;rfl)
  | (obtain⟨t,rfl⟩:=rx;rfl)
theorem BF:OpR X (compareOp .IsNot) (fun x y H Q=>y=.non/\Q (.bl (!decide (x=.non))) H):=by
 intro LB s σ H x y v u Q I rx ry h;obtain⟨rfl,q⟩:=h;cases ry;refine isnot_none_gen (aS I q ?_)
 cases x <;> first
  | (cases rx;rfl)
  | (obtain⟨t,rfl⟩:=rx;rfl)
theorem ah(b:Expr){op:CmpOp}(h:op≠.In:=by decide)(h2:op≠.NotIn:=by decide):behindInMarks op b=false:=by
 have e1:(op==CmpOp.In)=false:=by cases op <;> first | rfl | exact absurd rfl h
 have e2:(op==CmpOp.NotIn)=false:=by cases op <;> first | rfl | exact absurd rfl h2
 cases b <;> simp[behindInMarks,e1,e2]
theorem ay{op:CmpOp}{r:R2}(ho:OpR X (compareOp op) r)(ha:PE X a ta)(hb:PE X b tb)(hm:behindInMarks op b=false):PE X (.Compare a [op] [b] pos) (tOp r ta tb):=by
 intro LB s σ H Q I h;exact wpAny_Compare1 (binT ha hb I h fun v u s2 x y H2 I2 rx ry q=>ho LB s2 σ H2 x y v u Q I2 rx ry q) hm
def tTest(t:TE):TT:=fun σ H Q=>t σ H fun x H'=>∃ k,x=.bl k/\Q k H'
theorem ai{op:CmpOp}{r:R2}(ho:OpR X (compareOp op) r)(ha:PE X a ta)(hb:PE X b tb)(hm:behindInMarks op b=false):PT X (.Compare a [op] [b] pos) (tTest (tOp r ta tb)):=by
 intro LB s σ H Q I h
 refine wpAny_isTrue_Compare1 (thn (ha LB s σ H _ I h) fun v s1 ⟨x,H1,I1,r1,q1⟩=>thn (hb LB s1 σ H1 _ I1 q1) fun u s2 ⟨y,H2,I2,r2,q2⟩=>
  thn (ho LB s2 σ H2 x y v u _ I2 r1 r2 q2) fun c s3 ⟨z,H3,I3,r3,k,e,q3⟩=>?_) hm
 subst e;cases r3;exact No ⟨H3,I3,q3⟩
theorem qL:(sizeLine:Nat)<2^63:=by rw[sizeLine_eq];decide
theorem Ce:OpR X (binaryOp .Add) (fun x y H Q=>∃ i j,x=.str i/\y=.str j/\i.length+j.length<=sizeLine/\Q (.str (i++j)) H):=by
 intro LB s σ H x y v u Q I rx ry h;obtain⟨i,j,rfl,rfl,hz,q⟩:=h;obtain⟨t,rfl⟩:=rx;obtain⟨t',rfl⟩:=ry;exact add_str (fun t' tk=>⟨.str (i++j),H,I.tok _,⟨_,rfl⟩,q⟩) hz
theorem cU{x:V}{us:List Value}(r:Vals [x] us):∃ u,us=[u]/\RelV x u:=by
 cases r with
 | cons r1 r2=>cases r2;exact⟨_,rfl,r1⟩
theorem Fy{x y:V}{us:List Value}(r:Vals [x,y] us):∃ u w',us=[u,w']/\RelV x u/\RelV y w':=by
 cases r with
 | cons r1 r2=>
  cases r2 with
  | cons r3 r4=>cases r4;exact⟨_,_,rfl,r1,r3⟩
theorem xY:CallR X (.type "int") (fun xs H Q=>(∃ i,xs=[.int i]/\Q (.int i) H)\/∃ k,xs=[.bl k]/\Q (.int (if k then 1 else 0)) H):=by
 intro LB s σ H xs us Q I r h;rcases h with ⟨i,rfl,q⟩ | ⟨k,rfl,q⟩
 . obtain⟨u,rfl,t,rfl⟩:=cU r;exact call_int_int ⟨.int i,H,I,⟨_,rfl⟩,q⟩
 . obtain⟨u,rfl,r1⟩:=cU r;cases r1;exact call_int_bool ⟨.int (if k then 1 else 0),H,I.tok _,⟨_,rfl⟩,q⟩
end
structure ObjM(h:Heap)(x dx C:Addr)(mA:Str->Option Value):Prop where
 obj:h.get? x=some (PySem.W.instObj C dx)
 ns:h.Ns1 dx mA
 ne:dx≠x
variable{mA:Str->Option Value}
theorem Dj{h:Heap}{dx:Addr}(n:h.Ns1 dx mA):∃ od,h.get? dx=some od/\∀ name,PySem.W.lookIn name od=some (mA name):=by
 obtain⟨o,es,ep,ho,hd,hk,_,hm⟩:=n;refine⟨o,ho,fun name=>?_⟩;have e:=hm name;unfold nsFind findBy at e;rw[← Array.find?_toList] at e;unfold PySem.W.lookIn;rw[hd];dsimp only
 split
 . rename_i y q
   rw[q] at e;exact congrArg some e
 . rename_i q
   rw[q] at e
   have a:es.toList.any (·.refKey)=false:=by
    rw[List.any_eq_false];intro y hy;obtain⟨z,t,hkey⟩:=hk y (Array.mem_toList_iff.mp hy);simp[DictEntry.refKey,hkey]
   have a':¬ es.toList.any (·.refKey)=true:=by rw[a];exact LY
   rw[L4 a'];exact congrArg some e
variable{C:Addr}
theorem ObjM.look{h:Heap}{x dx:Addr}(I:ObjM h x dx C mA):∃ od,PySem.W.InstAt h x (PySem.W.instObj C dx) C (some od)/\∀ name,PySem.W.lookIn name od=some (mA name):=
 let ⟨od,ho,hl⟩:=Dj I.ns
 ⟨od,⟨I.obj,rfl,rfl,ho⟩,hl⟩
section
variable{prog:Program}{w:World}{A:Around}{E:Value->Shared->Prop}{s:Shared}{K:Frag}{x dx C f:Addr}{mA:Str->Option Value}{name:Str}{v:Value}
theorem FJ {expr:Bool} {Q:Value->Shared->Prop} (X:K.In s.heap) (I:ObjM s.heap x dx C mA) (hg:PySem.W.plainGet K C name=true) (hh:PySem.W.hasDictIn K C=true)
  (ha:findIn K (.ref C) name=some none) (hv:mA name=some v) (hv':PySem.W.handedIn v=true) (h:Q v {s with toks:=s.toks+1}):
  wpAny (model prog w) A (getAttr (.ref x) name expr) Q E s:=by
 obtain⟨od,J,hl⟩:=I.look;exact PySem.W.get_value X J (OM hg).1 (PySem.W.findObj_own hh ha rfl (by rw[hl,hv])) hv' h
theorem EQ {pl:Sem Bool} {Q:Value × List Value->Shared->Prop} (X:K.In s.heap) (I:ObjM s.heap x dx C mA) (hg:PySem.W.plainGet K C name=true)
  (hf:findIn K (.ref C) name=some (some (.ref f))) (ht:isFn K (.ref f)=true) (hv:mA name=none) (h:Q (.ref f,[.ref x]) s):
  wpAny (model prog w) A (getMethod (.ref x) name pl) Q E s:=by
 obtain⟨od,J,hl⟩:=I.look;exact PySem.W.method_fn X J (OM hg).1 (OM hg).2 hf (NE.mp ht) (by show(PySem.W.lookIn name od).map (·.isSome)=some false;rw[hl,hv];rfl) h
theorem FK {ns:List Str} {Q:Unit->Shared->Prop} (X:K.In s.heap) (I:ObjM s.heap x dx C mA)
  (hs:findIn K (.ref C) "__setattr__"=some (some (.builtin "object.__setattr__"))) (hp:PySem.W.plainOver K C=true) (ht:PySem.W.takerIn K C name=some none) (hh:PySem.W.hasDictIn K C=true)
  (hw:PySem.Within mA ns) (hsz:ns.length<=sizeLine)
  (h:∀ h',ObjM h' x dx C (fun y=>if y=name then some v else mA y)->Heap.SameBut dx s.heap h'->Q () {s with heap:=h',toks:=s.toks+2}):
  wpAny (model prog w) A (setAttr (.ref x) name v) Q E s:=by
 obtain⟨od,J,hl⟩:=I.look;refine PySem.W.set_plain X J hs (PySem.W.osa_open (s:={s with toks:=s.toks+1}) (r:=none) X J hp ht fun b=>?_);obtain⟨cd,hc,hd'⟩:=PySem.W.any_some hh;have hx:s.heap.get? x=some ⟨.ref C,some dx,.plain,#[]⟩:=I.obj;refine MA (MO (MA (MA (wpAny_loadPart hx (MA (PySem.W.Looks.here (s:={s with toks:=s.toks+1}) (PySem.W.looks_clsIn X hc) ?_))))));rw[hd'];refine MO (a:=some dx) (MA (MO (MA ?_)));refine wpAny_nsSet1 (s:={s with toks:=s.toks+1}) I.ns fun h' hn2 hs2=>?_;obtain⟨oD,esD,epD,hoD,hdD,hcD⟩:=hn2.count (PySem.Within.cons name v hw);refine MA (wpAny_lookBehind hoD (by rw[hdD];exact pastItsLine_dict (L8 hcD (by rw[Mx];omega))) ?_);exact MO (h _ ⟨(hs2.2 _ (PH I.ne)).trans I.obj,hn2,I.ne⟩ hs2)
theorem ER {R:Result->Shared->Prop} {vs:List Value} {kw:List (Str × Value)} (X:K.In s.heap) (hm:PySem.W.makesIn K C=true)
  (hi:findIn K (.ref C) "__init__"=some (some (.ref f))) (hf:PySem.W.typeIn K (.ref f)=some (.type "function"))
  (h:codeAny (model prog w) (A.under (.builtin "type.__call__" ⟨.ref C::vs,kw⟩)) (.call (.ref f) ⟨.ref (s.heap.objs.size+1)::vs,kw⟩) (PySem.W.InitBack (s.heap.objs.size+1) R)
   {s with heap:=(s.heap.push PySem.W.emptyDict).push (PySem.W.instObj C s.heap.objs.size)}):
  codeAny (model prog w) A (.call (.ref C) ⟨vs,kw⟩) R s:=by
 obtain⟨hh,g,d,t,os⟩:=s;exact PySem.W.make_core (PySem.W.makes_of X hm) (PySem.W.looks_findIn X hi) (fun self=>PySem.W.bind_fn X self hf) (.inl rfl) h
end
def putF(f:Str)(v:V):List (Str × V)->List (Str × V)
 | []=>[(f,v)]
 | (g,x)::r=>if g=f then(g,v)::r else(g,x)::putF f v r
theorem tN(f g:Str)(v:V):∀ fs:List (Str × V),(putF f v fs).lookup g=if g=f then some v else fs.lookup g
 | []=>by
  show List.lookup g [(f,v)]=_;by_cases h:g=f
  . have hb:(g==f)=true:=NE.mpr h;simp only[List.lookup,hb,Md h]
  . have hb:(g==f)=false:=N0.mpr h;simp only[List.lookup,hb,L4 h]
 | (k,x)::r=>by
  have ih:=tN f g v r;rw[show putF f v ((k,x)::r)=(if k=f then(k,v)::r else(k,x)::putF f v r) from rfl];by_cases hk:k=f
  . rw[Md hk];by_cases h:g=k
    . have hb:(g==k)=true:=NE.mpr h;simp only[List.lookup,hb,Md (h.trans hk)]
    . have hb:(g==k)=false:=N0.mpr h;simp only[List.lookup,hb,L4 (fun e:g=f=>h (e.trans hk.symm))]
  . rw[L4 hk];by_cases h:g=k
    . have hb:(g==k)=true:=NE.mpr h;simp only[List.lookup,hb,L4 (fun e:g=f=>hk (h.symm.trans e))]
    . have hb:(g==k)=false:=N0.mpr h;simp only[List.lookup,hb];exact ih
theorem qM(f:Str)(v:V):∀ fs:List (Str × V),f∈(putF f v fs).map (·.1)/\∀ g,g∈fs.map (·.1)->g∈(putF f v fs).map (·.1)
 | []=>⟨by simp[putF],fun g h=>by simp at h⟩
 | (k,x)::r=>by
  obtain⟨i1,i2⟩:=qM f v r;rw[show putF f v ((k,x)::r)=(if k=f then(k,v)::r else(k,x)::putF f v r) from rfl];by_cases hk:k=f
  . rw[Md hk];subst hk;exact⟨by simp,fun g h=>by simpa using h⟩
  . rw[L4 hk];refine⟨?_,fun g h=>?_⟩
    . rw[MB];exact L5 _ i1
    . rw[MB] at h ⊢;rcases L6.mp h with e | e
      . exact L6.mpr (.inl e)
      . exact L5 _ (i2 g e)
theorem tO(f:Str)(v:V):∀ fs:List (Str × V),(putF f v fs).length<=fs.length+1
 | []=>by simp[putF]
 | (k,x)::r=>by
  have ih:=tO f v r;rw[show putF f v ((k,x)::r)=(if k=f then(k,v)::r else(k,x)::putF f v r) from rfl];by_cases hk:k=f
  . rw[Md hk,Mx,Mx];omega
  . rw[L4 hk,Mx,Mx];omega
variable{o:Option Value}
theorem RelO.some_of{v:V}(r:RelO (some v) o):∃ u,o=some u/\RelV v u:=by
 cases o with
 | none=>exact(show False from r).elim
 | some u=>exact⟨u,rfl,r⟩
abbrev PN:=@RelO.some_of
theorem RelO.none_of(r:RelO none o):o=none:=by
 cases o with
 | none=>rfl
 | some u=>exact(show False from r).elim
theorem Dk{v:V}{u:Value}(r:RelV v u):PySem.W.handedIn u=true:=by
 cases v with
 | non=>cases (show u=Value.none from r);rfl
 | bl b=>cases (show u=Value.bool b from r);rfl
 | int i=>obtain⟨t,e⟩:=(show ∃ t,u=Value.int i t from r);cases e;rfl
 | str x=>obtain⟨t,e⟩:=(show ∃ t,u=Value.str x t from r);cases e;rfl
 | byt b=>obtain⟨t,e⟩:=(show ∃ t,u=Value.bytes b t from r);cases e;rfl
 | flt b=>obtain⟨t,e⟩:=(show ∃ t,u=Value.float b t from r);cases e;rfl
 | ref a=>cases (show u=Value.ref a from r);rfl
 | ty n=>cases (show u=Value.type n from r);rfl
section
variable{P:Program}{w:World}{H H':Hp}{h h':Heap}{a C dx:Addr}{fs fs':List (Str × V)}
theorem sP(hok:HOk P w H h)(e:H a=some (.ins C dx fs)):∃ mA,ObjM h a dx C mA/\(∀ f,RelO (fs.lookup f) (mA f))/\PySem.Within mA (fs.map (·.1))/\fs.length<=1000/\H dx=some (.own a):=by
 obtain⟨d,z,ne,ob,mA,n,r,q⟩:=(show ObjOk P w H h a (.ins C dx fs) from hok a _ e);exact⟨mA,⟨ob,n,ne⟩,r,q,z,d⟩
end
structure Cls(K:Frag)(C:Addr):Prop where
 pg:PySem.W.plainGet K C Str.empty=true
 hd:PySem.W.hasDictIn K C=true
 po:PySem.W.plainOver K C=true
 sa:findIn K (.ref C) "__setattr__"=some (some (.builtin "object.__setattr__"))
theorem Cls.get{K:Frag}(c:Cls K C)(f:Str):PySem.W.plainGet K C f=true:=c.pg
def NoAttr(K:Frag)(C:Addr)(f:Str):Prop:=findIn K (.ref C) f=some none
theorem NoAttr.taker{K:Frag}{f:Str}(n:NoAttr K C f):PySem.W.takerIn K C f=some none:=by
 unfold PySem.W.takerIn;rw[show findIn K (.ref C) f=some none from n];rfl
structure Meth(K:Frag)(C:Addr)(m:Str)(f:Addr):Prop where
 at_:findIn K (.ref C) m=some (some (.ref f))
 fn:isFn K (.ref f)=true
 kp:keepIn K (.ref f)=true
section
variable{X:Cx}{LB:List (Addr × Obj)}{σ:St}{H:Hp}{s:Shared}{a C dx:Addr}{fs:List (Str × V)}{f:Str}{v:V}{A:Around}{E:Value->Shared->Prop}
theorem Cf {b:Bool} {Q:Value->Shared->Prop} (I:Inv X LB σ H s) (e:H a=some (.ins C dx fs)) (c:Cls X.K C) (n:NoAttr X.K C f) (l:fs.lookup f=some v)
  (h:∀ u s',Inv X LB σ H s'->RelV v u->Q u s'):wpAny (model X.prog X.w) A (getAttr (.ref a) f b) Q E s:=by
 obtain⟨mA,O,r,_,_,_⟩:=sP I.hok e;obtain⟨u,hu,ru⟩:=PN (v:=v) (o:=mA f) (by rw[← l];exact r f);exact FJ I.kIn O (c.get f) c.hd n hu (Dk ru) (h u _ (I.tok _) ru)
theorem u6 {m:Str} {g:Addr} {pl:Sem Bool} {Q:Value × List Value->Shared->Prop} (I:Inv X LB σ H s) (e:H a=some (.ins C dx fs)) (c:Cls X.K C) (k:Meth X.K C m g) (l:fs.lookup m=none)
  (h:Q (.ref g,[.ref a]) s):wpAny (model X.prog X.w) A (getMethod (.ref a) m pl) Q E s:=by
 obtain⟨mA,O,r,_,_,_⟩:=sP I.hok e;have hn:mA m=none:=RelO.none_of (by rw[← l];exact r m);exact EQ I.kIn O (c.get m) k.at_ k.fn hn h
theorem Cg {y:V} {u:Value} {Q:Unit->Shared->Prop} (I:Inv X LB σ H s) (e:H a=some (.ins C dx fs)) (c:Cls X.K C) (n:NoAttr X.K C f) (hl:fs.length<1000) (ry:RelV y u)
  (h:∀ s',Inv X LB σ (upd H a (.ins C dx (putF f y fs))) s'->Q () s'):wpAny (model X.prog X.w) A (setAttr (.ref a) f u) Q E s:=by
 obtain⟨mA,O,r,wi,_,ho⟩:=sP I.hok e;have hz:(fs.map (·.1)).length<=sizeLine:=by rw[LM,sizeLine_eq];omega
 refine FK I.kIn O c.sa c.po n.taker c.hd wi hz fun h' O' sb=>h _ ?_;have hd:∃ o,h'.get? dx=some o:=let ⟨o,_,_,e',_⟩:=O'.ns;⟨o,e'⟩;refine I.write (x:=a) (e:=dx) (by rw[e];exact True.intro) (.inr ho) (fun b q hb z=>(sb.2 b hb).trans z) hd ?_;refine⟨by rw[ak O.ne];exact ho,?_,O.ne,O'.obj,_,O'.ns,fun g=>?_,fun g hg=>?_⟩
 . have:=tO f y fs;omega
 . show RelO ((putF f y fs).lookup g) (if g=f then some u else mA g);rw[tN];by_cases q:g=f
   . rw[Md q,Md q];exact ry
   . rw[L4 q,L4 q];exact r g
 . by_cases q:g=f
   . rw[q];exact(qM f y fs).1
   . refine(qM f y fs).2 g (wi g fun z=>hg ?_);show(if g=f then some u else mA g)=none;rw[L4 q];exact z
theorem Inv.made(I:Inv X LB σ H s):Inv X LB σ (upd (upd H s.heap.objs.size (.own (s.heap.objs.size+1))) (s.heap.objs.size+1) (.ins C s.heap.objs.size []))
  {s with heap:=(s.heap.push PySem.W.emptyDict).push (PySem.W.instObj C s.heap.objs.size)}:=by
 have e1:(s.heap.push PySem.W.emptyDict).get? s.heap.objs.size=some PySem.W.emptyDict:=MH s.heap rfl
 have e2:((s.heap.push PySem.W.emptyDict).push (PySem.W.instObj C s.heap.objs.size)).get? (s.heap.objs.size+1)=some (PySem.W.instObj C s.heap.objs.size):=by
  have:=MH (s.heap.push PySem.W.emptyDict) (o:=PySem.W.instObj C s.heap.objs.size) rfl
  rwa [NH] at this
 have e3:(s.heap.push PySem.W.emptyDict).Ns s.heap.objs.size (fun _=>none):=⟨PySem.W.emptyDict,#[],_,e1,rfl,(fun e he=>absurd he (by simp)),fun _=>rfl⟩;have I1:=I.laid (a:=s.heap.objs.size) (o:=.own (s.heap.objs.size+1)) (h':=s.heap.push PySem.W.emptyDict) (t':=s.toks) (fun b u q=>Mh _ q) (Mj _) ⟨_,e1⟩;refine I1.laid (a:=s.heap.objs.size+1) (o:=.ins C s.heap.objs.size []) (t':=s.toks) (fun b u q=>Mh _ q) (Nat.le_of_eq (NH _ _)) ?_;have ne:s.heap.objs.size≠s.heap.objs.size+1:=ML (Os _);refine⟨by rw[ak ne,ag],MV _,ne,e2,fun _=>none,(Heap.Ns1.of_empty e3).at fun o q=>Mh _ q,fun _=>True.intro,fun y hy=>absurd rfl hy⟩
theorem FL {prog:Program} {w:World} {env:Env} {e:Expr} {f:Str} {pos:Pos} {s:Shared} {Q:Value->Shared->Prop} (hb:attributeBase e f env (eval e env)=eval e env)
  (h:wpAny (model prog w) A (eval e env) (fun o s₁=>wpAny (model prog w) A (getAttr o f true) Q E s₁) E s):wpAny (model prog w) A (eval (.Attribute e f pos) env) Q E s:=
 Attribute_any_ h (by rw[arm_eval_Attribute,hb])
end
section
variable{X:Cx}{o e value:Expr}{f:Str}{pos pos' tpos:Pos}{ta tv:TE}
end
section
variable{X:Cx}{LB:List (Addr × Obj)}{σ:St}{H:Hp}{s:Shared}{A:Around}{E:Value->Shared->Prop}{Q:Value->Shared->Prop}{c:Value}{b:Bool}
inductive TyOf(K:Frag)(H:Hp):V->Value->Prop where
 | non:TyOf K H .non (.type "NoneType")
 | bl (x:Bool):TyOf K H (.bl x) (.type "bool")
 | int (i:Int):TyOf K H (.int i) (.type "int")
 | str (x:Str):TyOf K H (.str x) (.type "str")
 | flt (x:UInt64):TyOf K H (.flt x) (.type "float")
 | lst {a:Addr} {xs:List V} (e:H a=some (.lst xs)):TyOf K H (.ref a) (.type "list")
 | frz {a:Addr} {o:Obj} {xs:List V} (e:H a=some (.frz o (.lst xs))):TyOf K H (.ref a) (.type "list")
 | tup {a:Addr} {xs:List V} (e:H a=some (.tup xs)):TyOf K H (.ref a) (.type "tuple")
 | dK {a:Addr} {LE:List (Key × V)} (e:H a=some (.dK LE)):TyOf K H (.ref a) (.type "dict")
 | dT {a:Addr} {LE:List (List Key × V)} (e:H a=some (.dT LE)):TyOf K H (.ref a) (.type "dict")
 | ins {a C dx:Addr} {fs:List (Str × V)} (e:H a=some (.ins C dx fs)) (cl:Cls K C) (ha:findIn K (.ref C) "__class__"=some (some (.builtin "object.__class__")))
   (hn:PySem.W.specialIn K (.builtin "object.__class__") "__get__"=some (some (.builtin "getset_descriptor.__get__"))) (htk:PySem.W.takesIn K (.builtin "object.__class__")=some true)
   (hm:PySem.W.mroIn K C (.type "object")=some true):TyOf K H (.ref a) (.ref C)
theorem Dl{x:V}{u t:Value}(I:Inv X LB σ H s)(rx:RelV x u)(ty:TyOf X.K H x t)(e:PySem.W.kitOne X.K t c=some b)(h:∀ tk,Q (.bool b) {s with toks:=tk}):
  wpAny (model X.prog X.w) A (call (.builtin "isinstance") [u,c]) Q E s:=by
 cases ty with
 | non=>cases (show u=Value.none from rx);exact MW PySem.W.kitx_none I.kIn True.intro e (fun z=>nomatch z) h
 | bl y=>cases (show u=Value.bool y from rx);exact MW PySem.W.kitx_bool I.kIn True.intro e (fun z=>nomatch z) h
 | int i=>obtain⟨t,q⟩:=(show ∃ t,u=Value.int i t from rx);cases q;exact MW PySem.W.kitx_int I.kIn True.intro e (fun z=>nomatch z) h
 | str y=>obtain⟨t,q⟩:=(show ∃ t,u=Value.str y t from rx);cases q;exact MW PySem.W.kitx_str I.kIn True.intro e (fun z=>nomatch z) h
 | flt y=>obtain⟨t,q⟩:=(show ∃ t,u=Value.float y t from rx);cases q;exact MW PySem.W.kitx_float I.kIn True.intro e (fun z=>nomatch z) h
 | @lst a xs ea=>
  cases (show u=Value.ref a from rx);obtain⟨_,_,n,_,h1⟩:=(show ObjOk X.prog X.w H s.heap a (.lst xs) from I.hok a _ ea);exact MW PySem.W.kitx_list I.kIn ⟨_,h1,rfl⟩ e (fun z=>nomatch z) h
 | @frz a ob xs ea=>
  cases (show u=Value.ref a from rx);obtain⟨_,_,_,n,_,h1⟩:=(show ObjOk X.prog X.w H s.heap a (.frz ob (.lst xs)) from I.hok a _ ea);exact MW PySem.W.kitx_list I.kIn ⟨_,h1,rfl⟩ e (fun z=>nomatch z) h
 | @tup a xs ea=>
  cases (show u=Value.ref a from rx);obtain⟨_,_,_,p⟩:=(show ObjOk X.prog X.w H s.heap a (.tup xs) from I.hok a _ ea);obtain⟨o,h1,h2,_⟩:=p;exact MW OW I.kIn ⟨o,h1,h2⟩ e (fun z=>nomatch z) h
 | @dK a LE ea=>
  cases (show u=Value.ref a from rx);obtain⟨_,_,vs,_,p⟩:=(show ObjOk X.prog X.w H s.heap a (.dK LE) from I.hok a _ ea);obtain⟨o,es,ep,h1,h2,_⟩:=p;exact MW PySem.W.kitx_dict I.kIn ⟨o,h1,h2.1⟩ e (fun z=>nomatch z) h
 | @dT a LE ea=>
  cases (show u=Value.ref a from rx);obtain⟨_,_,xs,_,o,es,ep,h1,h2,_⟩:=(show ObjOk X.prog X.w H s.heap a (.dT LE) from I.hok a _ ea);exact MW PySem.W.kitx_dict I.kIn ⟨o,h1,h2.1⟩ e (fun z=>nomatch z) h
 | @ins a C dx fs ea cl ha hn htk hm=>
  cases (show u=Value.ref a from rx);obtain⟨mA,O,_⟩:=sP I.hok ea;obtain⟨od,J,_⟩:=O.look;exact MW (PySem.W.kitx_own (cl.get _) cl.hd ha hn htk hm) I.kIn J e (fun z=>nomatch z) h
end
structure Room(k:Nat)(A:Around):Prop where
 hd:A.handled=none
 dp:A.depth+3*k+5<recursionLimit
 un:A.units+16*k+200<cLine
variable{A:Around}
theorem Room.mono{j k:Nat}(r:Room k A)(h:j<=k):Room j A:=⟨r.hd,by have:=r.dp;omega,by have:=r.un;omega⟩
theorem Room.deeper{k:Nat}(r:Room (k+1) A)(env:Env):Room k (A.deeper env):=
 ⟨r.hd,by have:=r.dp;show A.depth+1+3*k+5<_;omega,by have:=r.un;show A.units+3+16*k+200<_;omega⟩
variable{us:List Value}{kw:List (Str × Value)}
theorem Ch{C:Addr}:(A.under (.builtin "type.__call__" ⟨.ref C::us,kw⟩)).depth=A.depth+1:=by
 first | rfl | simp[Around.under,Code.weight,Code.isCreation,Code.isGuard,Code.isCaller,Code.frames,Code.isFrame,guardIds]
theorem Ci{C:Addr}:(A.under (.builtin "type.__call__" ⟨.ref C::us,kw⟩)).units=A.units+1:=by
 first | rfl | simp[Around.under,Code.cUnits,Code.frames,Code.isFrame]
theorem Room.make{k:Nat}(r:Room (k+1) A)(C:Addr)(us:List Value)(kw:List (Str × Value)):Room k (A.under (.builtin "type.__call__" ⟨.ref C::us,kw⟩)):=
 ⟨r.hd,by have:=r.dp;rw[Ch];omega,by have:=r.un;rw[Ci];omega⟩
theorem Room.depth{k:Nat}(r:Room k A):A.depth<recursionLimit:=by have:=r.dp;omega
theorem Room.units{k:Nat}(r:Room k A):A.units+64<cLine:=by have:=r.un;omega
def tNil:TA:=fun _ H Q=>Q [] H
def tCons(ta:TE)(tr:TA):TA:=fun σ H Q=>ta σ H fun x H1=>tr σ H1 fun xs H2=>Q (x::xs) H2
section
variable{X:Cx}{e:Expr}{es:List Expr}{te:TE}{t:TA}{pos:Pos}
theorem ab:PA X [] tNil:=fun _ _ _ _ H Q I h=>Of ⟨[],H,I,.nil,h⟩
theorem aa(ha:PE X e te)(hr:PA X es t)(hs:starEach (e::es) X.env=(false,eval e X.env)::starEach es X.env:=by rfl):PA X (e::es) (tCons te t):=by
 intro pos LB s σ H Q I h;rw[hs];show wpAny _ _ (spliced ((false,eval e X.env)::backTo pos (starEach es X.env))) _ _ s;refine Ob (thn (ha LB s σ H _ I h) fun u s1 ⟨x,H1,I1,r1,q1⟩=>?_);exact thn (hr pos LB s1 σ H1 _ I1 q1) fun us s2 ⟨xs,H2,I2,r2,q2⟩=>⟨x::xs,H2,I2,.cons r1 r2,q2⟩
def tTup(t:TA):TE:=fun σ H Q=>t σ H fun xs H1=>xs.length<=sizeLine/\∀ p,H1 p=none->Q (.ref p) (upd H1 p (.tup xs))
def tLst(t:TA):TE:=fun σ H Q=>t σ H fun xs H1=>xs.length<=sizeLine/\∀ p,H1 p=none->Q (.ref p) (upd H1 p (.lst xs))
theorem cy{x1}(h:PA X es t):PE X (.Tuple es x1 pos) (tTup t):=by
 intro LB s σ H Q I hq;refine wpAny_Tuple_spliced (thn (h pos LB s σ H _ I hq) fun us s1 ⟨xs,H1,I1,r,z,q⟩=>⟨by rw[← r.length];exact z,?_⟩);have hf:H1 s1.heap.objs.size=none:=I1.hok.fresh (Mj _);refine⟨.ref s1.heap.objs.size,upd H1 s1.heap.objs.size (.tup xs),I1.laid (t':=s1.toks) (fun b u e=>Mh _ e) (Mj _) ?_,rfl,q _ hf⟩;exact⟨z,us,r,⟨_,MH _ rfl,rfl,_,rfl⟩⟩
theorem az(h:PA X es t):PE X (.List es pos) (tLst t):=by
 intro LB s σ H Q I hq;refine wpAny_List_spliced (thn (h pos LB s σ H _ I hq) fun us s1 ⟨xs,H1,I1,r,z,q⟩=>⟨by rw[← r.length];exact z,?_⟩);have hf:H1 s1.heap.objs.size=none:=I1.hok.fresh (Mj _);refine⟨.ref s1.heap.objs.size,upd H1 s1.heap.objs.size (.lst xs),I1.laid (t':=s1.toks) (fun b u e=>Mh _ e) (Mj _) ?_,rfl,q _ hf⟩;exact⟨z,us,0,r,MH _ rfl⟩
end
abbrev Sp:=List V->Hp->VK->XK->Prop
abbrev CXT:=List Env->Hp->Shared->XK->Value->Shared->Prop
structure Env0(P:Program)(w:World)(K:Frag)(mg:Str->Option Value)(base:Heap)(A:Around)(outer:List Env)(s:Shared)(H:Hp):Prop where
 frames:A.frames=some outer
 mod:Mod K mg base
 bs:∀ b o,base.get? b=some o->s.heap.get? b=some o/\H b=none
 bsz:base.objs.size<=s.heap.objs.size
 funs:s.heap.FunFrames base outer
 frf:∀ b∈frs outer,H b=none
 hok:HOk P w H s.heap
 bare:AllBare s.gens
def CE(outer:List Env)(P:Program)(w:World)(H:Hp)(s:Shared)(Q:VK)(u:Value)(s':Shared):Prop:=
 ∃ v H',s'.os=s.os/\AllBare s'.gens/\Un (frs outer) [] H H' s.heap s'.heap/\HOk P w H' s'.heap/\RelV v u/\Q v H'
def CR(CX:CXT)(outer:List Env)(P:Program)(w:World)(H:Hp)(s:Shared)(Q:VK)(E:XK)(r:Result)(s':Shared):Prop:=
 match r with
 | .ok (.ret u)=>CE outer P w H s Q u s'
 | .ok _=>False
 | .error e=>CX outer H s E e s'
structure FnOk(P:Program)(w:World)(K:Frag)(mg:Str->Option Value)(base:Heap)(CX:CXT)(k:Nat)(f:Addr)(fd:FuncData)(ps:List Str)(sp:Sp):Prop where
 len:∀ vs H Q E,sp vs H Q E->vs.length=ps.length
 run:∀(A:Around) (outer:List Env) (s:Shared) (H:Hp) (args:Args) (us:List Value) (vs:List V) (Q:VK) (E:XK),Room k A->Env0 P w K mg base A outer s H->BindsTo s fd args (ps.zip us)->Vals vs us->sp vs H Q E->
  codeAny (model P w) A (.call (.ref f) args) (CR CX outer P w H s Q E) s
variable{P:Program}{w:World}{K:Frag}{mg:Str->Option Value}{base:Heap}{CX:CXT}{f:Addr}{fd:FuncData}{ps:List Str}
theorem FnOk.mono{j k:Nat}{sp:Sp}(F:FnOk P w K mg base CX j f fd ps sp)(h:j<=k):
  FnOk P w K mg base CX k f fd ps sp:=⟨F.len,fun A outer s H args us vs Q E hr=>F.run A outer s H args us vs Q E (hr.mono h)⟩
theorem FnOk.imp {k:Nat} {sp sp':Sp} (F:FnOk P w K mg base CX k f fd ps sp)
  (h:∀ vs H Q E,sp' vs H Q E->sp vs H Q E):FnOk P w K mg base CX k f fd ps sp':=
 ⟨fun vs H Q E q=>F.len vs H Q E (h _ _ _ _ q),fun A outer s H args us vs Q E hr he hb hv hs=>F.run A outer s H args us vs Q E hr he hb hv (h _ _ _ _ hs)⟩
variable{outer:List Env}
theorem Env0.make{s:Shared}{H:Hp}(e:Env0 P w K mg base A outer s H)(C:Addr)(us:List Value)(kw:List (Str × Value)):
  Env0 P w K mg base (A.under (.builtin "type.__call__" ⟨.ref C::us,kw⟩)) outer s H:=⟨by first | exact e.frames | (simpa [Around.under,Code.envs,Code.isFrame,pushEnvs] using e.frames),e.mod,e.bs,e.bsz,e.funs,e.frf,e.hok,e.bare⟩
section
variable{X:Cx}{LB:List (Addr × Obj)}{σ:St}{H:Hp}{s s':Shared}
theorem Inv.env0(I:Inv X LB σ H s):Env0 X.prog X.w X.K X.mg X.base X.A X.stack s H:=
 ⟨I.ok.frames,I.ok.mod,I.bs,L8 I.ok.bsz I.sz,I.stack,I.stkFree,I.hok,I.bare⟩
theorem Inv.after{Q:VK}{u:Value}(I:Inv X LB σ H s)(h:CE X.stack X.prog X.w H s Q u s'):EP X LB σ Q u s':=by
 obtain⟨v,H',os,bare,un,hok,r,q⟩:=h;obtain⟨hh,g,d,t,os'⟩:=s';obtain rfl:os'=s.os:=os;exact⟨v,H',I.call (h':=hh) (g':=g) (d':=d) (t':=t) (ch:=[]) un hok bare (fun b z=>absurd z (by simp)),r,q⟩
end
def tCall(sp:Sp)(dvs:List V)(E:XK)(t:TA):TE:=fun σ H Q=>t σ H fun vs H1=>sp (vs++dvs) H1 Q E
def tMake(C:Addr)(sp:Sp)(dvs:List V)(E:XK)(t:TA):TE:=fun σ H Q=>t σ H fun vs H1=>∀ x dx,H1 x=none->H1 dx=none->dx≠x->
 sp (.ref x::(vs++dvs)) (upd (upd H1 dx (.own x)) x (.ins C dx [])) (fun v H2=>v=.non/\Q (.ref x) H2) E
def Binds(K:Frag)(fd:FuncData)(ps:List Str)(ds:List Value):Prop:=
 ∀(s:Shared) (us:List Value),K.In s.heap->(us++ds).length=ps.length->BindsTo s fd ⟨us,[]⟩ (ps.zip (us++ds))
theorem Binds.all(h:∀ us:List Value,us.length=ps.length->bindArgs fd ⟨us,[]⟩=pure (ps.zip us)):Binds K fd ps []:=fun s us _ hl=>by
 rw[Pu] at hl ⊢;exact .of_eq (h us hl)
def ow(CX:CXT)(X:Cx)(E:XK):Prop:=∀(LB:List (Addr × Obj)) (σ:St) (H:Hp) (s:Shared) (e:Value) (s':Shared),Inv X LB σ H s->CX X.stack H s E e s'->X.xe e s'
section
variable{X:Cx}{CX:CXT}{k:Nat}{f C:Addr}{fd:FuncData}{ps:List Str}{sp:Sp}{dvs:List V}{ds:List Value}{E:XK}{x m:Str}{p pos apos:Pos}{e o:Expr}{es:List Expr}{ta:TE}{t:TA}
theorem u7 {LB:List (Addr × Obj)} {σ:St} {H:Hp} {s:Shared} {Q:VK} {us:List Value} {vs:List V} (F:FnOk X.prog X.w X.K X.mg X.base CX k f fd ps sp) (hr:Room k X.A) (hb:Binds X.K fd ps ds) (hd:Vals dvs ds) (hx:ow CX X E)
  (I:Inv X LB σ H s) (r:Vals vs us) (h:sp (vs++dvs) H Q E):wpAny (model X.prog X.w) X.A (call (.ref f) us) (EP X LB σ Q) X.xe s:=by
 have r2:Vals (vs++dvs) (us++ds):=r.append hd;have hl:(us++ds).length=ps.length:=by rw[← r2.length];exact F.len _ _ _ _ h
 refine wpAny_call (PP (F.run X.A X.stack s H ⟨us,[]⟩ (us++ds) (vs++dvs) Q E hr I.env0 (hb s us I.kIn hl) r2 h) fun r s' hq=>?_)
 cases r with
 | error e=>exact hx LB σ H s e s' I hq
 | ok fl=>
  cases fl with
  | ret u=>exact I.after hq
  | next=>exact False.elim hq
  | brk=>exact False.elim hq
  | cont=>exact False.elim hq
theorem FM (F:FnOk X.prog X.w X.K X.mg X.base CX k f fd ps sp) (hr:Room k X.A) (hg:Gl X x) (hm:X.mg x=some (.ref f)) (hk:keepIn X.K (.ref f)=true) (hb:Binds X.K fd ps ds) (hd:Vals dvs ds) (hx:ow CX X E)
  (ha:PA X (e::es) t) (hdb:(x==("__debug__":Str))=false:=by decide) (he:starEach (e::es) X.env=(false,eval e X.env)::starEach es X.env:=by rfl) (hpl:(backTo pos (starEach es X.env)).any (·.1)=false:=by rfl):
  PE X (.Call (.Name x p) (e::es) [] pos) (tCall sp dvs E t):=by
 intro LB s σ H Q I h;refine Nb (sM I hg hm ?_ hdb);refine OX (h₀:=X.base) I.ok.mod.kin hk (thn (ha pos LB s σ H _ I h) fun us s1 ⟨vs,H1,I1,r,q⟩=>⟨I1.kIn,?_⟩) he hpl;exact u7 F hr hb hd hx I1 r q
theorem ES (F:FnOk X.prog X.w X.K X.mg X.base CX k f fd ps sp) (hr:Room k X.A) (hg:Gl X x) (hm:X.mg x=some (.ref f)) (hk:keepIn X.K (.ref f)=true) (hb:Binds X.K fd ps ds) (hd:Vals dvs ds) (hx:ow CX X E)
  (hdb:(x==("__debug__":Str))=false:=by decide):PE X (.Call (.Name x p) [] [] pos) (tCall sp dvs E tNil):=by
 intro LB s σ H Q I h;refine Nb (sM I hg hm ?_ hdb);exact PySem.W.callWith_K0 I.kIn hk (u7 (us:=[]) F hr hb hd hx I .nil h)
structure Mk(K:Frag)(C f:Addr):Prop where
 makes:PySem.W.makesIn K C=true
 init:findIn K (.ref C) "__init__"=some (some (.ref f))
 fn:isFn K (.ref f)=true
 kp:keepIn K (.ref C)=true
theorem ET {LB:List (Addr × Obj)} {σ:St} {H:Hp} {s:Shared} {Q:VK} {us:List Value} {vs:List V} (M:Mk X.K C f) (F:FnOk X.prog X.w X.K X.mg X.base CX k f fd ps sp) (hr:Room (k+1) X.A) (hb:Binds X.K fd ps ds) (hd:Vals dvs ds)
  (hx:ow CX X E) (I:Inv X LB σ H s) (r:Vals vs us)
  (h:∀ x dx,H x=none->H dx=none->dx≠x->sp (.ref x::(vs++dvs)) (upd (upd H dx (.own x)) x (.ins C dx [])) (fun v H2=>v=.non/\Q (.ref x) H2) E):
  wpAny (model X.prog X.w) X.A (call (.ref C) us) (EP X LB σ Q) X.xe s:=by
 have hq:=h (s.heap.objs.size+1) s.heap.objs.size (I.hok.fresh (OD _)) (I.hok.fresh (Mj _)) (ML (Os _));have I2:=Inv.made (C:=C) I;have r2:Vals (V.ref (s.heap.objs.size+1)::(vs++dvs)) (Value.ref (s.heap.objs.size+1)::(us++ds)):=.cons rfl (r.append hd)
 have hl:(Value.ref (s.heap.objs.size+1)::us++ds).length=ps.length:=by
  have e:=r2.length;rw[F.len _ _ _ _ hq] at e;exact e.symm
 refine wpAny_call (ER (f:=f) I.kIn M.makes M.init (NE.mp M.fn) (PP (F.run _ X.stack _ _ ⟨Value.ref (s.heap.objs.size+1)::us,[]⟩ (Value.ref (s.heap.objs.size+1)::(us++ds)) _ _ E (hr.make C us [])
  (I2.env0.make C us []) (hb _ (Value.ref (s.heap.objs.size+1)::us) I2.kIn hl) r2 hq) fun r s' hq'=>?_))
 cases r with
 | error e=>exact hx LB σ _ _ e s' I2 hq'
 | ok fl=>
  cases fl with
  | ret u=>
   obtain⟨v,H',I3,rv,ev,q3⟩:=I2.after hq';subst ev;exact⟨rv,⟨V.ref (s.heap.objs.size+1),H',I3,rfl,q3⟩⟩
  | next=>exact False.elim hq'
  | brk=>exact False.elim hq'
  | cont=>exact False.elim hq'
theorem FN (M:Mk X.K C f) (F:FnOk X.prog X.w X.K X.mg X.base CX k f fd ps sp) (hr:Room (k+1) X.A) (hg:Gl X x) (hm:X.mg x=some (.ref C)) (hb:Binds X.K fd ps ds) (hd:Vals dvs ds) (hx:ow CX X E)
  (ha:PA X (e::es) t) (hdb:(x==("__debug__":Str))=false:=by decide) (he:starEach (e::es) X.env=(false,eval e X.env)::starEach es X.env:=by rfl) (hpl:(backTo pos (starEach es X.env)).any (·.1)=false:=by rfl):
  PE X (.Call (.Name x p) (e::es) [] pos) (tMake C sp dvs E t):=by
 intro LB s σ H Q I h;refine Nb (sM I hg hm ?_ hdb);refine OX (h₀:=X.base) I.ok.mod.kin M.kp (thn (ha pos LB s σ H _ I h) fun us s1 ⟨vs,H1,I1,r,q⟩=>⟨I1.kIn,?_⟩) he hpl;exact ET M F hr hb hd hx I1 r q
end
section
variable{X:Cx}{CX:CXT}{k:Nat}{f C:Addr}{fd:FuncData}{ps ks:List Str}{sp:Sp}{E:XK}{x m:Str}{p pos apos kpos:Pos}{e o:Expr}{es:List Expr}{kws:List Keyword}{te ta:TE}{t tk:TA}{nm:Option Str}
variable{g:List Value->List Value->List Value}{gV:List V->List V->List V}
end
structure lI(N P:List Str)(sc:Scope):Prop where
 kind:sc.kind=.function
 co:sc.isCoroutine=false
 gen:sc.isGenerator=false
 nd:N.Nodup
 pre:N.take P.length=P
 par:∀ x∈P,sc.names.lookup x=some .local\/sc.names.lookup x=some .cell
 nofree:∀ y∈sc.names,y.2≠.free
theorem xZ{kindOf:Str->Option NameKind}{x:Str}:∀{binds:List (Str × Value)} {m:Str->Option Value},(∀ v,(x,v)∉binds)->bindL kindOf binds m x=m x
 | [],_,_=>rfl
 | (n,v)::r,m,h=>by
  unfold bindL;rw[xZ fun w hw=>h w (L5 _ hw)]
  split
  . have:x≠n:=by rintro rfl;exact h v Ma
    simp[this]
  . rfl
theorem x9{kindOf:Str->Option NameKind}{x:Str}:∀{binds:List (Str × Value)} {m:Str->Option Value},(∀ v,(x,v)∉binds)->bindC kindOf binds m x=m x
 | [],_,_=>rfl
 | (n,v)::r,m,h=>by
  unfold bindC;rw[x9 fun w hw=>h w (L5 _ hw)]
  split
  . rfl
  . have:x≠n:=by rintro rfl;exact h v Ma
    simp[this]
theorem ya{kindOf:Str->Option NameKind}{x:Str}{v:Value}:∀{P:List Str} {vs:List Value} {i:Nat} {m:Str->Option Value},P.Nodup->P[i]? =some x->vs[i]? =some v->kindOf x=some .local->
  bindL kindOf (P.zip vs) m x=some v
 | [],_,_,_,_,h,_,_=>by simp at h
 | _::_,[],_,_,_,_,h,_=>by simp at h
 | p::P,w::vs,0,m,nd,h1,h2,hk=>by
  simp at h1 h2;subst h1;subst h2;show bindL kindOf ((p,w)::P.zip vs) m p=_;unfold bindL;rw[xZ fun v hv=>(MX.mp nd).1 (Pw hv).1,Md hk];simp
 | p::P,w::vs,i+1,m,nd,h1,h2,hk=>by
  show bindL kindOf ((p,w)::P.zip vs) m x=_;unfold bindL;exact ya (i:=i) (MX.mp nd).2 (by simpa using h1) (by simpa using h2) hk
theorem yb{kindOf:Str->Option NameKind}{x:Str}{v:Value}:∀{P:List Str} {vs:List Value} {i:Nat} {m:Str->Option Value},P.Nodup->P[i]? =some x->vs[i]? =some v->kindOf x≠some .local->
  bindC kindOf (P.zip vs) m x=some v
 | [],_,_,_,_,h,_,_=>by simp at h
 | _::_,[],_,_,_,_,h,_=>by simp at h
 | p::P,w::vs,0,m,nd,h1,h2,hk=>by
  simp at h1 h2;subst h1;subst h2;show bindC kindOf ((p,w)::P.zip vs) m p=_;unfold bindC;rw[x9 fun v hv=>(MX.mp nd).1 (Pw hv).1,L4 hk];simp
 | p::P,w::vs,i+1,m,nd,h1,h2,hk=>by
  show bindC kindOf ((p,w)::P.zip vs) m x=_;unfold bindC;exact yb (i:=i) (MX.mp nd).2 (by simpa using h1) (by simpa using h2) hk
def start(N:List Str)(vs:List V):St:=vs.map some++List.replicate (N.length-vs.length) none
def cxOf(CX:CXT)(P:Program)(w:World)(K:Frag)(mg:Str->Option Value)(base:Heap)(N:List Str)(qual:Str)(scope:Scope)(f:Addr)(cd:Value)(A:Around)(outer:List Env)(s:Shared)(H:Hp)(E:XK):Cx where
 prog:=P
 w:=w
 K:=K
 mg:=mg
 base:=base
 A:=A.deeper (envOfC qual scope s.heap.objs.size f cd)
 N:=N
 s₀:=s
 H₀:=H
 env:=envOfC qual scope s.heap.objs.size f cd
 outer:=outer
 stack:=envOfC qual scope s.heap.objs.size f cd::outer
 ex:=[]
 calm:=true
 fn:=fun _=>true
 pn:=[]
 xe:=fun e s'=>wpAny (model P w) (A.deeper (envOfC qual scope s.heap.objs.size f cd)) (leaving (envOfC qual scope s.heap.objs.size f cd) e) (fun _ s''=>CX outer H s E e s'') (fun e' s''=>CX outer H s E e' s'') s'
theorem pG{sc:Scope}{n:Nat}{x:Str}(h:sc.names.lookup x=some .cell):∃ c,(cellsFrom n sc.names []).lookup x=some c:=by
 have q:=Pm sc.names n [] (.inl h);exact Option.isSome_iff_exists.mp q
variable{scope:Scope}
theorem Dm {N:List Str} {qual:Str} {cd:Value} {s s1:Shared} {H:Hp} {E:XK} {vs:List V}
  (S:lI N ps scope) (hd:A.handled=none) (e0:Env0 P w K mg base A outer s H) (hl:vs.length=ps.length) (r:Vals vs us)
  (x:InCallC s s.heap.objs.size (bindL (envOfC qual scope s.heap.objs.size f cd).kindOf (ps.zip us) fun _=>none) (cellsFrom (s.heap.objs.size+1) scope.names []) (bindC (envOfC qual scope s.heap.objs.size f cd).kindOf (ps.zip us) fun _=>none) s1):
  Inv (cxOf CX P w K mg base N qual scope f cd A outer s H E) [] (start N vs) H s1:=by
 have hpl:ps.length<=N.length:=by have:=congrArg List.length S.pre;rw[M0] at this;omega
 obtain⟨h1,tk,rfl,hk⟩:=x.done;have noA:∀ b:Addr,b∉(cxOf CX P w K mg base N qual scope f cd A outer s H E).ex:=fun b z=>absurd (show b∈([]:List Addr) from z) (by simp)
 refine⟨⟨e0.mod,S.kind,rfl,rfl,Mj _,fun y z c h1 h2=>?_,fun y hy=>?_,fun y c _ h=>?_,fun _=>hd,Around.frames_deeper e0.frames,.inr ⟨rfl,rfl⟩,fun b z=>absurd z (noA b),e0.bs,e0.bsz,fun b _ _=>noA b,fun b z=>absurd z (noA b),e0.funs,e0.frf⟩,
  rfl,e0.bare,Un.kept hk,⟨_,x.toInCall.ns,fun i y v h1 h2 h3=>?_⟩,fun y c h=>⟨_,x.cell y c h⟩,e0.hok.fresh (Mj _),fun y c h=>?_,fun p hp=>absurd (show p∈([]:List (Addr × Obj)) from hp) (by simp),e0.hok.kept hk,?_⟩
 . exact name_of_addr x.apart (M1 h1) (M1 h2)
 . have hy:scope.names.lookup y=some .cell\/scope.names.lookup y=some .free:=hy;rcases hy with hy | hy
   . exact pG hy
   . exact absurd rfl (S.nofree _ (M1 hy))
 . exact MK (x.above y c (M1 h))
 . have hi:i<vs.length:=by
    unfold start at h2;by_cases hi:i<vs.length
    . exact hi
    . rw[MD (by simpa using hi)] at h2;rw[List.getElem?_replicate] at h2
      split at h2 <;> cases h2
   have ha:vs[i]? =some v:=by
    unfold start at h2;rw[Mr (by simpa using hi),LW] at h2
    cases e:vs[i]? with
    | none=>rw[e] at h2;cases h2
    | some a=>rw[e] at h2;cases h2;rfl
   obtain⟨u,hu,rv⟩:=r.get ha
   have hp:ps[i]? =some y:=by
    rw[← S.pre,List.getElem?_take_of_lt (by omega)];exact h1
   have ndP:ps.Nodup:=by rw[← S.pre];exact S.nd.sublist (NT _ _)
   refine⟨u,rv,?_⟩;rcases S.par y (LV hp) with k | k
   . exact .inl ⟨k,ya ndP hp hu k⟩
   . obtain⟨c,e⟩:=pG (n:=s.heap.objs.size+1) k;refine .inr ⟨.inl k,c,e,?_⟩;have q:=x.cell y c e;rw[yb ndP hp hu (by show scope.names.lookup y≠_;rw[k];decide)] at q;exact q
 . exact e0.hok.fresh (MK (x.above y c (M1 h)))
 . unfold start;show _=N.length;rw[Mt,LM,List.length_replicate];omega
theorem HV {k:Nat} {name qual:Str} {params:Arguments} {body:List Stmt} {dV kV doc pm LD ct oc:Value} {an od:Option Addr}
  {osl:Array (Option Value)} {N ps:List Str} {sp:Sp} (lk:K.lookup f=some ⟨oc,od,.func (fnOf name qual params body scope dV kV doc pm an LD ct),osl⟩) (hcd:codeIn K LD qual=true) (S:lI N ps scope)
  (len:∀ vs H Q E,sp vs H Q E->vs.length=ps.length)
  (hbody:∀(A:Around) (outer:List Env) (s:Shared) (H:Hp) (vs:List V) (Q:VK) (E:XK),Room k (A.deeper (envOfC qual scope s.heap.objs.size f LD))->sp vs H Q E->
   ∃ t,PSs (cxOf CX P w K mg base N qual scope f LD A outer s H E) body t/\t {nx:=fun _ H'=>Q .non H',rt:=Q} (start N vs) H):
  FnOk P w K mg base CX (k+1) f (fnOf name qual params body scope dV kV doc pm an LD ct) ps sp:=by
 refine⟨len,fun A outer s H args us vs Q E hr e0 hb r hsp=>?_⟩;have hl:=len _ _ _ _ hsp;have KX:K.In s.heap:=e0.mod.kin.keeps fun b o e=>(e0.bs b o e).1;have lim:s.heap.NoLimit:=e0.mod.nolimit.keeps fun b o e=>(e0.bs b o e).1
 have hkind:∀ y∈ps.zip us,scope.names.lookup y.1=some .local\/(scope.names.lookup y.1=some .cell/\((cellsFrom (s.heap.objs.size+1) scope.names []).lookup y.1).isSome=true):=fun⟨n,v⟩ hy=>by
  rcases S.par n (Pw hy).1 with q | q
  . exact .inl q
  . exact .inr ⟨q,Pm _ _ _ (.inl q)⟩
 refine codeAny_call_function hr.depth (KX _ _ lk) rfl S.co S.gen rfl (PySem.W.codeRec_of KX hcd) (hb _ _ _ _ ?_);refine wpAny_newFunctionEnv_cells S.kind hkind fun env he s1 x=>?_;subst he;refine⟨lim.keeps x.toInCall.keep,codeAny_func ?_⟩;obtain⟨t,ht,hq⟩:=hbody A outer s H vs Q E (hr.deeper _) hsp;have I:Inv (cxOf CX P w K mg base N qual scope f LD A outer s H E) [] (start N vs) H s1:=Dm S hr.hd e0 hl r x;refine M2 (ht [] s1 (start N vs) H _ I hq) (fun fl s' hs=>?_) fun e s' hs=>hs
 have fin:∀{σ':St} {H':Hp} {v:V} {u:Value},Inv (cxOf CX P w K mg base N qual scope f LD A outer s H E) [] σ' H' s'->RelV v u->Q v H'->CE outer P w H s Q u s':=
  fun{σ' H' v u} J rv q=>⟨v,H',J.os,J.bare,J.base,J.hok,rv,q⟩
 cases fl with
 | ret u=>
  obtain⟨v,σ',H',J,rv,q⟩:=hs;exact fin J rv q
 | next=>
  obtain⟨σ',H',J,q⟩:=hs;exact fin (v:=V.non) (u:=Value.none) J rfl q
 | brk=>
  obtain⟨_,_,_,q⟩:=hs;exact False.elim q
 | cont=>
  obtain⟨_,_,_,q⟩:=hs;exact False.elim q
section
variable{X:Cx}{x:Str}{p pos:Pos}{e:Expr}{es:List Expr}{t:TA}{id T:String}{r:List V->Hp->VK->Prop}
def tCB(r:List V->Hp->VK->Prop)(t:TA):TE:=fun σ H Q=>t σ H fun vs H1=>r vs H1 Q
theorem ar (hc:CallR X (.builtin id) r) (hg:Gl X x) (hm:X.mg x=none) (hv:bootBuiltins x=some (.builtin id)) (ha:PA X (e::es) t) (hn:x≠"__name__":=by decide) (hdb:(x==("__debug__":Str))=false:=by decide)
  (he:starEach (e::es) X.env=(false,eval e X.env)::starEach es X.env:=by rfl) (hpl:(backTo pos (starEach es X.env)).any (·.1)=false:=by rfl):PE X (.Call (.Name x p) (e::es) [] pos) (tCB r t):=by
 intro LB s σ H Q I h;refine Nb (gM I hg hm hv ?_ hn hdb);exact Ot (thn (ha pos LB s σ H _ I h) fun us s1 ⟨vs,H1,I1,r1,q1⟩=>hc LB s1 σ H1 vs us Q I1 r1 q1) he hpl
theorem bu (hc:CallR X (.type T) r) (hg:Gl X x) (hm:X.mg x=none) (hv:bootBuiltins x=some (.type T)) (ha:PA X (e::es) t) (hn:x≠"__name__":=by decide) (hdb:(x==("__debug__":Str))=false:=by decide)
  (he:starEach (e::es) X.env=(false,eval e X.env)::starEach es X.env:=by rfl) (hpl:(backTo pos (starEach es X.env)).any (·.1)=false:=by rfl):PE X (.Call (.Name x p) (e::es) [] pos) (tCB r t):=by
 intro LB s σ H Q I h;refine Nb (gM I hg hm hv ?_ hn hdb);exact MU (thn (ha pos LB s σ H _ I h) fun us s1 ⟨vs,H1,I1,r1,q1⟩=>hc LB s1 σ H1 vs us Q I1 r1 q1) he hpl
end
end L2
namespace HT
open PySem PyProof.Rows
section
open PySem.SeqAt
open PySem.AutoSeq1 (wpAny_loadPart')
open PySem.MeetsSeq PySem.MeetsSeq2 PySem.MeetsSeq3
end
section
variable{prog:Program}{w:World}{A:Around}{E:Value->Shared->Prop}{s:Shared}
def sIx(n d:Nat):Option Int->Nat
 | none=>d
 | some v=>if v<0 then(v+(n:Int)).toNat else min v.toNat n
theorem sIx_nat(n d k:Nat):sIx n d (some (k:Int))=min k n:=by
 show(if (k:Int)<0 then((k:Int)+(n:Int)).toNat else min (k:Int).toNat n)=min k n;rw[if_neg (by omega),Int.toNat_natCast]
end
end HT
namespace L2
open PySem PySem.Spec PyProof.Rows
abbrev TO:=St->Hp->(Option Int->Hp->Prop)->Prop
def PO(X:Cx)(e:Option Expr)(t:TO):Prop:=
 ∀(LB:List (Addr × Obj)) (s:Shared) (σ:St) (H:Hp) (Q:Option Int->Hp->Prop),Inv X LB σ H s->t σ H Q->
  wpAny (model X.prog X.w) X.A (evalPart e X.env) (fun u s'=>∃ o H',Inv X LB σ H' s'/\IsPart u o/\Q o H') X.xe s
def eI:TO:=fun _ H Q=>Q none H
def tPart(t:TE):TO:=fun σ H Q=>t σ H fun x H1=>∃ i,x=.int i/\Q (some i) H1
theorem u8{ns:List Int}:∀{us:List Value},Vals (ns.map V.int) us->IntsAre us ns:=by
 induction ns with
 | nil=>intro us r;rw[List.map_nil] at r;cases r;exact .nil
 | cons n ns ih=>
  intro us r;rw[MB] at r
  cases r with
  | cons r1 r2=>
   obtain⟨t,e⟩:=r1;subst e;exact .cons n t (ih r2)
section
variable{X:Cx}{e:Expr}{te:TE}{lo hi:Option Expr}{tl th:TO}{pos p2:Pos}
theorem jZ:PO X none eI:=by
 intro LB s σ H Q I h;rw[evalPart_none];exact MO ⟨none,H,I,.none,h⟩
theorem dC(h:PE X e te):PO X (some e) (tPart te):=by
 intro LB s σ H Q I hw;rw[evalPart_some];refine thn (h LB s σ H _ I hw) fun u s1 ⟨x,H1,I1,r1,q1⟩=>?_;obtain⟨i,rfl,q⟩:=q1;obtain⟨t,rfl⟩:=r1;exact⟨some i,H1,I1,.int i t,q⟩
def SlR(X:Cx)(r:V->Option Int->Option Int->Hp->VK->Prop):Prop:=
 ∀(LB:List (Addr × Obj)) (s:Shared) (σ:St) (H:Hp) (x:V) (v vl vu:Value) (lo hi:Option Int) (sl:Addr) (Q:VK),Inv X LB σ H s->RelV x v->s.heap.IsSliceOf sl vl vu .none->IsPart vl lo->IsPart vu hi->r x lo hi H Q->
  ∃ T id,typeLookup (.type T) "__getitem__"=pure (some (.builtin id))/\s.TypeIs v T/\wpAny (model X.prog X.w) X.A (getItem v (.ref sl)) (EP X LB σ Q) X.xe s
def tSl(r:V->Option Int->Option Int->Hp->VK->Prop)(te:TE)(tl th:TO):TE:=fun σ H Q=>te σ H fun x H1=>tl σ H1 fun l H2=>th σ H2 fun u H3=>r x l u H3 Q
theorem dQ{r:V->Option Int->Option Int->Hp->VK->Prop}(hr:SlR X r)(he:PE X e te)(hl:PO X lo tl)(hu:PO X hi th):PE X (.Subscript e (.Slice lo hi none p2) pos) (tSl r te tl th):=by
 intro LB s σ H Q I h;refine Subscript_ (thn (he LB s σ H _ I h) fun v s1 ⟨x,H1,I1,r1,q1⟩=>?_);refine wpAny_Slice (thn (hl LB s1 σ H1 _ I1 q1) fun vl s2 ⟨l,H2,I2,pl,q2⟩=>thn (hu LB s2 σ H2 _ I2 q2) fun vu s3 ⟨u,H3,I3,pu,q3⟩=>?_);rw[evalPart_none];refine MO ?_;have I4:Inv X LB σ H3 {s3 with heap:=s3.heap.push {cls:=.type "slice",data:=.fields #[vl,vu,.none]}}:=I3.kept (t':=s3.toks) fun b ob q=>Mh _ q;obtain⟨T,id,hT,ht,hg⟩:=hr LB {s3 with heap:=s3.heap.push {cls:=.type "slice",data:=.fields #[vl,vu,.none]}} σ H3 x v vl vu l u s3.heap.objs.size Q I4 r1 (Heap.IsSliceOf.new ..) pl pu q3;show wpAny (model X.prog X.w) X.A (subscriptTail e (.Slice lo hi none p2) v (.ref s3.heap.objs.size)) (EP X LB σ Q) X.xe {s3 with heap:=s3.heap.push {cls:=.type "slice",data:=.fields #[vl,vu,.none]}};exact tail_any (ops:=[.ref s3.heap.objs.size,v]) ht hT hg (by with_unfolding_all rfl)
def cutV(xs:List V)(lo hi:Option Int):List V:=(xs.drop (HT.sIx xs.length 0 lo)).take (HT.sIx xs.length xs.length hi-HT.sIx xs.length 0 lo)
theorem A3(xs:List V)(lo hi:Option Int):(cutV xs lo hi).length<=xs.length:=by
 unfold cutV;rw[M0,List.length_drop];omega
end
def ixN(n:Nat)(i:Int):Option Nat:=if 0<=i then(if i<n then some i.toNat else none) else if -(n:Int)<=i then some (i+n).toNat else none
def atI{α:Type}(xs:List α)(i:Int):Option α:=(ixN xs.length i).bind fun j=>xs[j]?
theorem FO{n:Nat}{i:Int}{j:Nat}(h:ixN n i=some j):seqIndex? i n=some j/\j<n/\ -(n:Int)<=i/\i<n:=by
 unfold ixN at h;by_cases h0:0<=i
 . rw[Md h0] at h;by_cases h1:i<n
   . rw[Md h1] at h;have e:i.toNat=j:=M9 h;exact⟨by rw[seqIndex_of h0 h1,e],by omega,by omega,h1⟩
   . rw[L4 h1] at h;cases h
 . rw[L4 h0] at h;by_cases h1: -(n:Int)<=i
   . rw[Md h1] at h;have e:(i+n).toNat=j:=M9 h;exact⟨by rw[seqIndex_neg (by omega) h1,e],by omega,h1,by omega⟩
   . rw[L4 h1] at h;cases h
theorem xa{α:Type}{xs:List α}{i:Int}{v:α}(h:atI xs i=some v):∃ j,seqIndex? i xs.length=some j/\xs[j]? =some v/\j<xs.length/\ -(xs.length:Int)<=i/\i<xs.length:=by
 unfold atI at h
 cases e:ixN xs.length i with
 | none=>rw[e] at h;cases h
 | some j=>
  rw[e] at h;obtain⟨h1,h2,h3,h4⟩:=FO e;exact⟨j,h1,h,h2,h3,h4⟩
theorem dD{α:Type}{xs:List α}{j:Nat}{v:α}(h:xs[j]? =some v):atI xs (j:Int)=some v:=by
 have hj:j<xs.length:=(LP.mp h).1
 have e:ixN xs.length (j:Int)=some j:=by
  unfold ixN;rw[Md (by omega),Md (by omega)];simp
 unfold atI;rw[e];exact h
def xb(b:Expr):Prop:=∀ o i,subscripted b false o i=operate [o,i] (getItem o i)
def IxR(X:Cx)(r:R2):Prop:=
 ∀(value slice:Expr) (LB:List (Addr × Obj)) (s:Shared) (σ:St) (H:Hp) (x y:V) (v u:Value) (Q:VK),Inv X LB σ H s->RelV x v->RelV y u->r x y H Q->
  subscripted slice false v u=operate [v,u] (getItem v u)->wpAny (model X.prog X.w) X.A (subscriptTail value slice v u) (EP X LB σ Q) X.xe s
def MtR(X:Cx)(id:String)(r:V->List V->Hp->VK->Prop):Prop:=
 ∀(LB:List (Addr × Obj)) (s:Shared) (σ:St) (H:Hp) (x:V) (xs:List V) (v:Value) (us:List Value) (Q:VK),Inv X LB σ H s->RelV x v->Vals xs us->r x xs H Q->
  wpAny (model X.prog X.w) X.A (call (.builtin id) (v::us)) (EP X LB σ Q) X.xe s
section
variable{X:Cx}{a b:Expr}{ta tb:TE}{pos:Pos}
theorem zt{r:R2}(hr:IxR X r)(ha:PE X a ta)(hb:PE X b tb)(hs:xb b):PE X (.Subscript a b pos) (tOp r ta tb):=by
 intro LB s σ H Q I h;exact Subscript_ (binT ha hb I h fun v u s2 x y H2 I2 rx ry q=>hr a b LB s2 σ H2 x y v u Q I2 rx ry q (hs _ _))
def rIxL(K:Frag):R2:=fun x y H Q=>∃ p xs i v,x=.ref p/\y=.int i/\SqL K H p xs/\atI xs i=some v/\Q v H
def rIxT(K:Frag):R2:=fun x y H Q=>∃ p xs i v,x=.ref p/\y=.int i/\SqT K H p xs/\atI xs i=some v/\Q v H
def rIxS:R2:=fun x y H Q=>∃ z i c,x=.str z/\y=.int i/\z.length<=sizeLine/\atI z.cps.toList i=some c/\Q (.str ⟨#[c]⟩) H
theorem BG:IxR X (rIxL X.K):=by
 intro value slice LB s σ H x y v u Q I rx ry h hs;obtain⟨p,xs,i,z,rfl,rfl,hq,he,q⟩:=h;cases rx;obtain⟨t,rfl⟩:=ry;obtain⟨LF,r,pl,hz⟩:=I.list hq;obtain⟨j,h1,h2,h3,h4,h5⟩:=xa he;obtain⟨w,ew,rw'⟩:=r.get h2;have hl:=r.length;have hn:=qL;have fin:EP X LB σ Q w s:=⟨z,H,I,rw',q⟩;by_cases h0:0<=i
 . have hj:i.toNat=j:=by
    rw[seqIndex_of h0 h5] at h1;exact M9 h1
   exact item_listR pl.isList h0 (by omega) (by rw[hj];simpa using ew) fin hs
 . have hj:(i+(LF.toArray.size:Int)).toNat=j:=by
    rw[seqIndex_neg (by omega) h4] at h1;rw[Mi,← hl];exact M9 h1
   exact Pn (x:=w) pl.isList.typeIs slot_list_getitem.lookup
    (wpAny_getItem_list_neg (Q:=fun r s'=>r=w/\EP X LB σ Q r s') pl.isList (by omega) (by rw[Mi] <;> omega) (by omega) (by rw[hj];simpa using ew) ⟨rfl,fin⟩) hs
theorem GS:IxR X (rIxT X.K):=by
 intro value slice LB s σ H x y v u Q I rx ry h hs;obtain⟨p,xs,i,z,rfl,rfl,hq,he,q⟩:=h;cases rx;obtain⟨t,rfl⟩:=ry;obtain⟨LF,r,pl,hz⟩:=I.tuple hq;obtain⟨j,h1,h2,h3,h4,h5⟩:=xa he;obtain⟨w,ew,rw'⟩:=r.get h2;have hl:=r.length;have hn:=qL;have fin:EP X LB σ Q w s:=⟨z,H,I,rw',q⟩
 exact Pn (x:=w) pl.typeIs slot_tuple_getitem.lookup
  (getItem_tuple (j:=j) (Q:=fun r s'=>r=w/\EP X LB σ Q r s') pl (by omega) (by omega) (by rw[Mi,← hl];exact h1) (by simpa using ew) ⟨rfl,fin⟩) hs
theorem GT:IxR X rIxS:=by
 intro value slice LB s σ H x y v u Q I rx ry h hs;obtain⟨z,i,c,rfl,rfl,hz,he,q⟩:=h;obtain⟨t,rfl⟩:=rx;obtain⟨t',rfl⟩:=ry;obtain⟨j,h1,h2,h3,h4,h5⟩:=xa he;have hl:z.cps.toList.length=z.length:=by simp[Str.length]
 rw[hl] at h1 h4 h5;have hn:=qL
 exact tail_any (Ou s z t) slot_str_getitem.lookup (getItem_str (c:=c) (by
  have e1:decide (i < -(2^63:Int))=false:=LR (by omega);have e2:decide (i ≥ 2^63)=false:=LR (by omega);rw[e1,e2,Bool.or_false]) (by rw[h1];simpa using h2) ⟨.str ⟨#[c]⟩,H,I.tok _,⟨_,rfl⟩,q⟩) hs
theorem Inv.lst{LB:List (Addr × Obj)}{σ:St}{H:Hp}{s:Shared}{p:Addr}{xs:List V}(I:Inv X LB σ H s)(h:H p=some (.lst xs)):
  ∃(LF:List Value) (n:Nat),Vals xs LF/\s.heap.get? p=some {cls:=.type "list",data:=.seq LF.toArray n}/\xs.length<=sizeLine:=by
 obtain⟨z,LF,n,r,e⟩:=I.hok p _ h;exact⟨LF,n,r,e,z⟩
theorem zB(lo hi:Option Int)(n:Nat):(sliceBounds lo hi none n).1=((HT.sIx n 0 lo:Nat):Int)/\(sliceBounds lo hi none n).2.1=((HT.sIx n n hi:Nat):Int)/\(sliceBounds lo hi none n).2.2=1:=by
 refine⟨?_,?_,rfl⟩
 . cases lo with
   | none=>simp[sliceBounds,HT.sIx]
   | some i=>
    simp only[sliceBounds,HT.sIx,Option.getD_none,show(1:Int)>0 by decide,M8];by_cases h:i<0
    . simp only[h,M8] <;> omega
    . simp only[h,Ng] <;> omega
 . cases hi with
   | none=>simp[sliceBounds,HT.sIx]
   | some i=>
    simp only[sliceBounds,HT.sIx,Option.getD_none,show(1:Int)>0 by decide,M8];by_cases h:i<0
    . simp only[h,M8] <;> omega
    . simp only[h,Ng] <;> omega
theorem yL(LF:List Value)(lo hi:Option Int):slicePick LF.toArray lo hi none=((LF.drop (HT.sIx LF.length 0 lo)).take (HT.sIx LF.length LF.length hi-HT.sIx LF.length 0 lo)).toArray:=by
 obtain⟨h1,h2,h3⟩:=zB lo hi LF.toArray.size;unfold slicePick;rw[h1,h2,h3];simp only[sliceRange_one,pick_run,Mi] <;> rfl
def rSlL(K:Frag):V->Option Int->Option Int->Hp->VK->Prop:=fun x lo hi H Q=>∃ a xs,x=.ref a/\SqL K H a xs/\∀ p,H p=none->Q (.ref p) (upd H p (.lst (cutV xs lo hi)))
theorem FP:SlR X (rSlL X.K):=by
 intro LB s σ H x v vl vu lo hi sl Q I rx hs pl pu h;obtain⟨a,xs,rfl,hx,q⟩:=h;cases rx;obtain⟨LF,r,ht,hz⟩:=I.list hx;have LJ:=r.length;refine⟨"list",_,slot_list_getitem.lookup,ht.isList.typeIs,?_⟩;refine wpAny_getItem_list_slice ht.isList hs pl pu .none (by simp) ?_ (by rw[Mi] <;> omega);rw[yL,← LJ];refine⟨.ref s.heap.objs.size,_,I.laid (t':=s.toks) (o:=.lst (cutV xs lo hi)) (fun b ob q=>Mh _ q) (Mj _) ?_,rfl,q _ (I.hok.fresh (Mj _))⟩;exact⟨L8 (A3 xs lo hi) hz,_,0,(r.drop (HT.sIx xs.length 0 lo)).take (HT.sIx xs.length xs.length hi-HT.sIx xs.length 0 lo),MH _ rfl⟩
def flatV:V->Bool
 | .non=>true
 | .bl _=>true
 | .int _=>true
 | .str _=>true
 | _=>false
def eqV:V->V->Bool
 | .non,.non=>true
 | .bl a,.bl b=>a==b
 | .bl a,.int b=>(if a then 1 else 0)==b
 | .int a,.bl b=>a==(if b then 1 else 0)
 | .int a,.int b=>a==b
 | .str a,.str b=>a==b
 | _,_=>false
theorem GU{A:Around}{s:Shared}{y x:V}{u v:Value}(ry:RelV y u)(rx:RelV x v)(fy:flatV y=true)(fx:flatV x=true):SeqAt.EqAt A s u v (eqV y x):=by
 cases y with
 | non=>
  cases ry
  cases x with
  | non=>cases rx;exact SeqAt.EqAt.same _
  | bl b=>cases rx;exact SeqAt.EqAt.none_bool b
  | int b=>obtain⟨t,rfl⟩:=rx;exact SeqAt.EqAt.none_int b t
  | str b=>obtain⟨t,rfl⟩:=rx;exact SeqAt.EqAt.none_str b t
  | _=>exact absurd (show false=true from fx) LY
 | bl a=>
  cases ry
  cases x with
  | non=>cases rx;exact SeqAt.EqAt.bool_none a
  | bl b=>cases rx;exact SeqAt.EqAt.bool_bool a b
  | int b=>obtain⟨t,rfl⟩:=rx;exact SeqAt.EqAt.bool_int a b t
  | str b=>obtain⟨t,rfl⟩:=rx;exact SeqAt.EqAt.bool_str a b t
  | _=>exact absurd (show false=true from fx) LY
 | int a=>
  obtain⟨t',rfl⟩:=ry
  cases x with
  | non=>cases rx;exact SeqAt.EqAt.int_none a t'
  | bl b=>cases rx;exact SeqAt.EqAt.int_bool a t' b
  | int b=>obtain⟨t,rfl⟩:=rx;exact SeqAt.EqAt.int_int a t' b t
  | str b=>obtain⟨t,rfl⟩:=rx;exact SeqAt.EqAt.int_str a t' b t
  | _=>exact absurd (show false=true from fx) LY
 | str a=>
  obtain⟨t',rfl⟩:=ry
  cases x with
  | non=>cases rx;exact SeqAt.EqAt.str_none a t'
  | bl b=>cases rx;exact SeqAt.EqAt.str_bool a t' b
  | int b=>obtain⟨t,rfl⟩:=rx;exact SeqAt.EqAt.str_int a t' b t
  | str b=>obtain⟨t,rfl⟩:=rx;exact SeqAt.EqAt.str_str a t' b t
  | _=>exact absurd (show false=true from fx) LY
 | _=>exact absurd (show false=true from fy) LY
def eqU(x:V)(u:Value):Bool:=match u with
 | .none=>eqV .non x
 | .bool b=>eqV (.bl b) x
 | .int i _=>eqV (.int i) x
 | .str z _=>eqV (.str z) x
 | _=>false
theorem Dn{x y:V}{u:Value}(r:RelV y u)(f:flatV y=true):eqU x u=eqV y x:=by
 cases y with
 | non=>cases r;rfl
 | bl b=>cases r;rfl
 | int i=>obtain⟨t,rfl⟩:=r;rfl
 | str z=>obtain⟨t,rfl⟩:=r;rfl
 | _=>exact absurd (show false=true from f) LY
theorem ox{x:V}:∀{xs:List V} {us:List Value},Vals xs us->xs.all flatV=true->us.any (eqU x)=xs.any fun y=>eqV y x
 | _,_,.nil,_=>rfl
 | y::xs,u::us,.cons r t,f=>by
  rw[OB,LT] at f;rw[NR,NR,Dn r f.1,ox t f.2]
theorem lM{A:Around}{s:Shared}{x:V}{v:Value}(rx:RelV x v)(fx:flatV x=true):∀{xs:List V} {us:List Value},Vals xs us->xs.all flatV=true->∀ u∈us,SeqAt.EqAt A s u v (eqU x u)
 | _,_,.nil,_=>fun u hu=>by cases hu
 | y::xs,u::us,.cons r t,f=>fun u' hu=>by
  rw[OB,LT] at f;rcases L6.mp hu with rfl | hu
  . rw[Dn r f.1];exact GU r rx f.1 fx
  . exact lM rx fx t f.2 u' hu
def inV(x:V)(xs:List V):Bool:=xs.any fun y=>eqV y x
def rIn(K:Frag)(neg:Bool):R2:=fun x y H Q=>∃ p xs,y=.ref p/\(SqL K H p xs\/SqT K H p xs)/\flatV x=true/\xs.all flatV=true/\Q (.bl (if neg then !inV x xs else inV x xs)) H
theorem mN:OpR X (compareOp .In) (rIn X.K false):=by
 intro LB s σ H x y v u Q I rx ry h;obtain⟨p,xs,rfl,hq,fx,fs,q⟩:=h;cases ry;rcases hq with hq | hq
 . obtain⟨LF,r,pl,hz⟩:=I.list hq;refine SeqAt.in_listAt (eqU x) pl.isList (fun w hw=>lM rx fx r fs w (by simpa using hw)) ⟨.bl _,H,I,rfl,?_⟩;rw[show LF.toArray.any (eqU x)=LF.any (eqU x) by simp,ox r fs];exact q
 . obtain⟨LF,r,pl,hz⟩:=I.tuple hq;refine SeqAt.in_tupleAt (eqU x) pl (fun w hw=>lM rx fx r fs w (by simpa using hw)) ⟨.bl _,H,I,rfl,?_⟩;rw[show LF.toArray.any (eqU x)=LF.any (eqU x) by simp,ox r fs];exact q
theorem qN:OpR X (compareOp .NotIn) (rIn X.K true):=by
 intro LB s σ H x y v u Q I rx ry h;obtain⟨p,xs,rfl,hq,fx,fs,q⟩:=h;cases ry;rcases hq with hq | hq
 . obtain⟨LF,r,pl,hz⟩:=I.list hq;refine SeqAt.notIn_listAt (eqU x) pl.isList (fun w hw=>lM rx fx r fs w (by simpa using hw)) ⟨.bl _,H,I,rfl,?_⟩;rw[show LF.toArray.any (eqU x)=LF.any (eqU x) by simp,ox r fs];exact q
 . obtain⟨LF,r,pl,hz⟩:=I.tuple hq;refine SeqAt.notIn_tupleAt (eqU x) pl (fun w hw=>lM rx fx r fs w (by simpa using hw)) ⟨.bl _,H,I,rfl,?_⟩;rw[show LF.toArray.any (eqU x)=LF.any (eqU x) by simp,ox r fs];exact q
theorem zC:OpR X (compareOp .NotIn) (fun x y H Q=>∃ i j,x=.str i/\y=.str j/\Q (.bl (!(!(Builtin.Str.occurrences j i 0 j.length 1).isEmpty))) H):=by
 intro LB s σ H x y v u Q I rx ry h;obtain⟨i,j,rfl,rfl,q⟩:=h;obtain⟨t,rfl⟩:=rx;obtain⟨t',rfl⟩:=ry;exact notIn_str ⟨.bl _,H,I,rfl,q⟩
theorem qO:CallR X (.builtin "len") (fun xs H Q=>∃ p ys,xs=[.ref p]/\(SqL X.K H p ys\/SqT X.K H p ys)/\Q (.int ys.length) H):=by
 intro LB s σ H xs us Q I r h;obtain⟨p,ys,rfl,hq,q⟩:=h;obtain⟨u,rfl,rx⟩:=cU r;cases rx;have hn:=qL;rcases hq with hq | hq
 . obtain⟨LF,r',pl,hz⟩:=I.list hq;have LJ:=r'.length;exact Calls.call_len_list pl.isList (by simp only[Mi] <;> omega) ⟨.int ys.length,H,I.tok _,⟨s.toks+1,by rw[Mi,LJ]⟩,q⟩
 . obtain⟨LF,r',pl,hz⟩:=I.tuple hq;have LJ:=r'.length;exact len_tuple pl (by simp only[Mi] <;> omega) ⟨.int ys.length,H,I.tok _,⟨s.toks+1,by rw[Mi,LJ]⟩,q⟩
theorem zD:CallR X (.builtin "len") (fun xs H Q=>∃ z,xs=[.str z]/\z.length<=sizeLine/\Q (.int z.length) H):=by
 intro LB s σ H xs us Q I r h;obtain⟨z,rfl,hz,q⟩:=h;obtain⟨u,rfl,t,rfl⟩:=cU r;have hn:=qL;exact len_str (by omega) ⟨.int z.length,H,I.tok _,⟨_,rfl⟩,q⟩
theorem zE:CallR X (.type "list") (fun xs H Q=>∃ p ys,xs=[.ref p]/\(SqL X.K H p ys\/SqT X.K H p ys)/\∀ l,H l=none->Q (.ref l) (upd H l (.lst ys))):=by
 intro LB s σ H xs us Q I r h;obtain⟨p,ys,rfl,hq,q⟩:=h;obtain⟨u,rfl,rx⟩:=cU r;cases rx
 have fin:∀(LF:List Value),Vals ys LF->ys.length<=sizeLine->∀(h':Heap) (c':Nat),(∀ b o',s.heap.get? b=some o'->h'.get? b=some o')->
   h'.get? s.heap.objs.size=some {cls:=.type "list",dict:=none,data:=.seq LF.toArray c',slots:=#[]}->EP X LB σ Q (.ref s.heap.objs.size) {s with heap:=h'}:=fun LF r' hz h' c' kp e=>
  ⟨.ref s.heap.objs.size,_,I.laid (t':=s.toks) kp (Mj _) (show ObjOk X.prog X.w _ h' _ (.lst ys) from⟨hz,LF,c',r',e⟩),rfl,q _ (I.hok.fresh (Mj _))⟩
 rcases hq with hq | hq
 . obtain⟨LF,r',pl,hz⟩:=I.list hq;have LJ:=r'.length;obtain⟨o,ho,hc,n,hd⟩:=pl.isList;exact call_list_seq p (.inl rfl) ho hc hd (fun h' c' kp e=>fin LF r' hz h' c' kp e) (by simp only[Mi] <;> omega)
 . obtain⟨LF,r',pl,hz⟩:=I.tuple hq;have LJ:=r'.length;obtain⟨o,ho,hc,n,hd⟩:=pl;exact call_list_seq p (.inr rfl) ho hc hd (fun h' c' kp e=>fin LF r' hz h' c' kp e) (by simp only[Mi] <;> omega)
theorem yM:CallR X (.type "tuple") (fun xs H Q=>∃ p ys,xs=[.ref p]/\((SqL X.K H p ys/\∀ l,H l=none->Q (.ref l) (upd H l (.tup ys)))\/(SqT X.K H p ys/\Q (.ref p) H))):=by
 intro LB s σ H xs us Q I r h;obtain⟨p,ys,rfl,h⟩:=h;obtain⟨u,rfl,rx⟩:=cU r;cases rx;rcases h with ⟨hq,q⟩ | ⟨hq,q⟩
 . obtain⟨LF,r',pl,hz⟩:=I.list hq;have LJ:=r'.length;refine call_tuple_list pl.isList (fun h' kp=>?_) (by simp only[Mi] <;> omega);have I1:Inv X LB σ H {s with heap:=h'}:=I.kept (t':=s.toks) kp
   have I2:Inv X LB σ (upd H h'.objs.size (.tup ys)) {s with heap:=h'.push {cls:=.type "tuple",data:=.seq LF.toArray}}:=
    I1.laid (t':=s.toks) (fun b o e=>Mh _ e) (Mj _) (show ObjOk X.prog X.w _ _ _ (.tup ys) from⟨hz,LF,r',IsTup.new _ _⟩)
   exact⟨.ref h'.objs.size,_,I2,rfl,q _ (I1.hok.fresh (Mj _))⟩
 . obtain⟨LF,r',pl,hz⟩:=I.tuple hq;exact call_tuple_same pl ⟨.ref p,H,I,rfl,q⟩
def tyV(K:Frag)(T:String)(x:V)(H:Hp):Prop:=match x with
 | .str _=>T="str"
 | .int _=>T="int"
 | .ref p=>(T="list"/\∃ xs,SqL K H p xs)\/(T="tuple"/\∃ o,K.lookup p=some o/\o.cls=.type "tuple"/\o.dict=none)\/
   (T="dict"/\((∃ LE,H p=some (.dK LE))\/∃ LE,H p=some (.dT LE)))\/(T="set"/\∃ S n,H p=some (.set S n))
 | _=>False
theorem Do{LB:List (Addr × Obj)}{σ:St}{H:Hp}{s:Shared}{T:String}{x:V}{v:Value}(I:Inv X LB σ H s)(r:RelV x v)(ty:tyV X.K T x H):
  s.TypeIs v T/\∀ a,v=.ref a->∃ ob,s.heap.get? a=some ob/\ob.dict=none:=by
 cases x with
 | str z=>
  obtain⟨t,rfl⟩:=r;cases (show T="str" from ty);exact⟨Ou s z t,fun _ e=>nomatch e⟩
 | int i=>
  obtain⟨t,rfl⟩:=r;cases (show T="int" from ty);exact⟨typeIs_int s i t,fun _ e=>nomatch e⟩
 | ref p=>
  cases r;rcases ty with ⟨rfl,xs,hq⟩ | ⟨rfl,o,hk,hc,hd⟩ | ⟨rfl,hk⟩ | ⟨rfl,S,n,hk⟩
  . obtain⟨LF,_,pl,_⟩:=I.list hq;refine⟨pl.isList.typeIs,fun a e=>?_⟩;cases e;obtain⟨o,n,e,c,hd,_⟩:=pl;exact⟨o,e,hd⟩
  . refine⟨⟨o,I.kIn p o hk,hc⟩,fun a e=>?_⟩;cases e;exact⟨o,I.kIn _ o hk,hd⟩
  . have z:∃ o,s.heap.get? p=some o/\o.ExactDict:=by
     rcases hk with ⟨LE,hk⟩ | ⟨LE,hk⟩
     . obtain⟨_,_,_,_,o,_,_,e,ex,_⟩:=I.hok p _ hk;exact⟨o,e,ex⟩
     . obtain⟨_,_,_,_,o,_,_,e,ex,_⟩:=I.hok p _ hk;exact⟨o,e,ex⟩
    obtain⟨o,e,ex⟩:=z;refine⟨⟨o,e,ex.1⟩,fun a e2=>?_⟩;cases e2;exact⟨o,e,ex.2.1⟩
  . obtain⟨o,_,_,_,e,ex,_⟩:=I.hok p _ hk;refine⟨⟨o,e,ex.1⟩,fun a e2=>?_⟩;cases e2;exact⟨o,e,ex.2.1⟩
 | _=>exact False.elim ty
def Cj(K:Frag)(T:String)(r:V->List V->Hp->VK->Prop)(to:TE):TE:=fun σ H Q=>to σ H fun x H1=>tyV K T x H1/\r x [] H1 Q
def tBM(K:Frag)(T:String)(r:V->List V->Hp->VK->Prop)(to:TE)(t:TA):TE:=fun σ H Q=>to σ H fun x H1=>tyV K T x H1/\t σ H1 fun xs H2=>r x xs H2 Q
variable{o e:Expr}{es:List Expr}{to:TE}{t:TA}{name:Str}{apos cpos:Pos}{T id:String}{r:V->List V->Hp->VK->Prop}
theorem Dp (pa:PlainAttrs T) (slot:Slot T name id) (hty:typeOf (.builtin id)=pure (.type "method_descriptor")) (hm:MtR X id r) (ho:PE X o to)
  (hbase:attributeBase o name X.env (eval o X.env)=eval o X.env:=by rfl) (hline:(apos.endLine==cpos.line)=true:=by rfl):PE X (.Call (.Attribute o name apos) [] [] cpos) (Cj X.K T r to):=by
 intro LB s σ H Q I h;refine wpAny_Call_method0_late hbase hline (thn (ho LB s σ H _ I h) fun v s1 ⟨x,H1,I1,r1,ty,q1⟩=>?_);obtain⟨h1,h2⟩:=Do I1 r1 ty;exact⟨T,id,pa,slot,hty,h1,h2,Po rfl (PySem.evalArgs_none (hm LB s1 σ H1 x [] v [] Q I1 r1 .nil q1))⟩
theorem bH (pa:PlainAttrs T) (slot:Slot T name id) (hty:typeOf (.builtin id)=pure (.type "method_descriptor")) (hm:MtR X id r) (ho:PE X o to) (ha:PA X (e::es) t)
  (hbase:attributeBase o name X.env (eval o X.env)=eval o X.env:=by rfl)
  (hfew:((backTo cpos (starEach (e::es) X.env)).all (fun x=>!x.1)&&(backToKw cpos (keywordEach [] X.env)).all (fun x=>x.1.isSome)
   &&decide ((e::es).length+([]:List Keyword).length+(if ([]:List Keyword).isEmpty then 0 else 1)<30))=true:=by rfl)
  (hline:(apos.endLine==cpos.line)=true:=by rfl) (hs:starEach (e::es) X.env=(false,eval e X.env)::starEach es X.env:=by rfl) (hplain:(backTo cpos (starEach es X.env)).any (·.1)=false:=by rfl):
  PE X (.Call (.Attribute o name apos) (e::es) [] cpos) (tBM X.K T r to t):=by
 intro LB s σ H Q I h;refine wpAny_Call_method_late hbase hfew hline rfl (thn (ho LB s σ H _ I h) fun v s1 ⟨x,H1,I1,r1,ty,q1⟩=>?_);obtain⟨h1,h2⟩:=Do I1 r1 ty;refine⟨T,id,pa,slot,hty,h1,h2,?_⟩;have hA:=ha cpos LB s1 σ H1 _ I1 q1;rw[hs] at hA ⊢;refine Po (by show(false||(backTo cpos (starEach es X.env)).any (·.1))=false;rw[hplain] <;> rfl) (Calls.evalArgs_plain ?_);exact thn hA fun us s2 ⟨vs,H2,I2,r2,q2⟩=>hm LB s2 σ H2 x vs v us Q I2 r1 r2 q2
end
def MtM(X:Cx)(id:String)(r:V->List V->Hp->VK->Prop):Prop:=
 ∀(LB:List (Addr × Obj)) (s:Shared) (σ:St) (H:Hp) (x:V) (xs:List V) (v:Value) (us:List Value) (Q:VK),Inv X LB σ H s->RelV x v->Vals xs us->r x xs H Q->
  wpAny (model X.prog X.w) X.A (call (.builtin id) (v::us)) (EP X LB σ Q) X.xe s
theorem Vals.one:∀{x:V} {us:List Value},Vals [x] us->∃ u,us=[u]/\RelV x u
 | _,_,.cons r .nil=>⟨_,rfl,r⟩
theorem Vals.eraseIdx:∀{xs:List V} {us:List Value} (i:Nat),Vals xs us->Vals (xs.eraseIdx i) (us.eraseIdx i)
 | _,_,_,.nil=>.nil
 | _,_,0,.cons _ t=>t
 | _,_,i+1,.cons r t=>.cons r (Vals.eraseIdx i t)
theorem Vals.rep{xs:List V}{us:List Value}(h:Vals xs us):∀ k:Nat,Vals (List.replicate k xs).flatten (List.replicate k us).flatten
 | 0=>.nil
 | k+1=>by
  rw[NG,NG,Og,Og];exact Vals.append h (Vals.rep h k)
theorem yc{α:Type}:∀(l:List α) (i:Nat),(l.eraseIdx i).length<=l.length
 | [],_=>Mj _
 | _::_,0=>OD _
 | _::r,i+1=>Nat.succ_le_succ (yc r i)
theorem yd(LF:List Value):∀(k:Nat) (acc:List Value),
  List.foldl (fun x1 x2=>x1++x2) acc.toArray (List.replicate k LF.toArray)=(acc++(List.replicate k LF).flatten).toArray
 | 0,acc=>by simp
 | k+1,acc=>by
  have e:acc.toArray++LF.toArray=(acc++LF).toArray:=by simp
  have e2:(acc++LF)++(List.replicate k LF).flatten=acc++(List.replicate (k+1) LF).flatten:=by
   rw[NG,Og,NB]
  rw[← e2,← yd LF k (acc++LF),← e,NG,Na]
section
variable{X:Cx}{LB:List (Addr × Obj)}{σ:St}{H:Hp}{s:Shared}{l b:Addr}{xs ys zs:List V}
theorem Inv.lset {LF its':List Value} {n:Nat} {f:Array Value->Array Value} {t':Nat} (I:Inv X LB σ H s) (hH:H l=some (.lst xs))
  (e:s.heap.get? l=some {cls:=.type "list",data:=.seq LF.toArray n}) (hf:f LF.toArray=its'.toArray) (hv:Vals ys its') (hz:ys.length<=sizeLine):
  Inv X LB σ (upd H l (.lst ys)) {s with heap:=s.heap.update l (Obj.mapSeq f),toks:=t'}:=by
 have q:=PySem.IsL.update e f;rw[hf] at q;refine I.write (x:=l) (e:=l) (by rw[hH];exact trivial) (.inl rfl) (fun b' u hb hu=>(Heap.get?_update_other s.heap (Obj.mapSeq f) (PH hb)).trans hu) ⟨_,q⟩ ?_;exact⟨hz,its',_,hv,q⟩
theorem Inv.lnew{LF:List Value}{t':Nat}(I:Inv X LB σ H s)(hv:Vals ys LF)(hz:ys.length<=sizeLine):
  Inv X LB σ (upd H s.heap.objs.size (.lst ys)) {s with heap:=s.heap.push {cls:=.type "list",data:=.seq LF.toArray},toks:=t'}:=
 I.laid (fun _ _ q=>Mh _ q) (Mj _) ⟨hz,LF,0,hv,MH _ rfl⟩
theorem Inv.fresh(I:Inv X LB σ H s):H s.heap.objs.size=none:=I.hok.fresh (Mj _)
theorem Inv.lstM(I:Inv X LB σ H s)(hH:H l=some (.lst xs)):xs.length<=sizeLine/\∃(LF:List Value) (n:Nat),Vals xs LF/\xs.length=LF.length/\s.heap.get? l=some {cls:=.type "list",data:=.seq LF.toArray n}:=by
 obtain⟨z,LF,n,r,e⟩:=I.hok l _ hH;exact⟨z,LF,n,r,r.length,e⟩
theorem zF{n:Nat}(h:n<=sizeLine):Builtin.List.listTooLong n=false:=by
 unfold Builtin.List.listTooLong;exact LR (by omega)
end
section
variable{X:Cx}
def FQ:V->List V->Hp->VK->Prop:=fun x vs H Q=>∃ l xs y,x=.ref l/\vs=[y]/\H l=some (.lst xs)/\xs.length<sizeLine/\Q .non (upd H l (.lst (xs++[y])))
theorem ye:MtM X "list.append" FQ:=by
 intro LB s σ H x vs v us Q I rx rv h;obtain⟨l,xs,y,rfl,rfl,hH,hz,q⟩:=h;cases rx;obtain⟨u,rfl,ru⟩:=rv.one;obtain⟨z,LF,n,r,hl,e⟩:=I.lstM hH;refine NN F.slot_list_append ⟨_,e,rfl⟩ F.entry_list_append (F.args_list_append_2 _ _) (PySem.list_append l LF.toArray n u (by rw[Mi];omega)) ⟨e,?_⟩;refine⟨.non,_,I.lset (its':=LF++[u]) hH e (by simp) (r.append (.cons ru .nil)) ?_,rfl,q⟩;rw[Mt,PB];omega
def FR:V->List V->Hp->VK->Prop:=fun x vs H Q=>∃ l b xs zs,x=.ref l/\vs=[.ref b]/\H l=some (.lst xs)/\H b=some (.lst zs)/\xs.length+zs.length<=sizeLine/\Q .non (upd H l (.lst (xs++zs)))
theorem Dq:MtM X "list.extend" FR:=by
 intro LB s σ H x vs v us Q I rx rv h;obtain⟨l,b,xs,zs,rfl,rfl,hH,hB,hz,q⟩:=h;cases rx;obtain⟨u,rfl,ru⟩:=rv.one;cases ru;obtain⟨z,LF,n,r,hl,e⟩:=I.lstM hH;obtain⟨z2,its2,n2,r2,hl2,e2⟩:=I.lstM hB;have hsz:LF.toArray.size+its2.toArray.size<=sizeLine:=by rw[Mi,Mi];omega
 have hlong:¬ (!LF.toArray.isEmpty&&Builtin.List.listTooLong (LF.toArray.size+its2.toArray.size))=true:=by
  rw[zF hsz,Bool.and_false];exact LY
 refine NN F.slot_list_extend ⟨_,e,rfl⟩ F.entry_list_extend (F.args_list_extend_2 _ _)
  (AutoSeq1.list_extend_list_list_0 l LF.toArray n b its2.toArray n2 hlong (by rw[Mi];omega) (by omega)) ⟨e,e2,?_⟩
 refine⟨.non,_,I.lset (its':=LF++its2) hH e (by simp) (r.append r2) ?_,rfl,q⟩;rw[Mt];omega
def GV:V->List V->Hp->VK->Prop:=fun x vs H Q=>∃ l xs i k y,x=.ref l/\vs=[.int i]/\H l=some (.lst xs)/\ -(2^63)<=i/\i<2^63/\seqIndex? i xs.length=some k/\xs[k]? =some y/\Q y (upd H l (.lst (xs.eraseIdx k)))
theorem EU:MtM X "list.pop" GV:=by
 intro LB s σ H x vs v us Q I rx rv h;obtain⟨l,xs,i,k,y,rfl,rfl,hH,h1,h2,hk,hy,q⟩:=h;cases rx;obtain⟨u,rfl,ru⟩:=rv.one;obtain⟨t,rfl⟩:=ru;obtain⟨z,LF,n,r,hl,e⟩:=I.lstM hH;obtain⟨w,hw,rw'⟩:=r.get hy
 refine NN F.slot_list_pop ⟨_,e,rfl⟩ F.entry_list_pop (F.args_list_pop_2 _ _)
  (MeetsSeq.list_pop_at l LF.toArray n i t k w (fitsIndex_both h1 h2) (by rw[Mi,← hl];exact hk) (by rw[← PC];exact hw) (by rw[Mi];omega)) ⟨e,?_⟩
 refine⟨y,_,I.lset (its':=LF.eraseIdx k) hH e ?_ (r.eraseIdx k) ?_,rw',q⟩
 . show LF.toArray.eraseIdxIfInBounds k=(LF.eraseIdx k).toArray;rw[List.eraseIdxIfInBounds_toArray]
 . have:=yc xs k;omega
def rCat:R2:=fun x y H Q=>∃ l b xs zs,x=.ref l/\y=.ref b/\H l=some (.lst xs)/\H b=some (.lst zs)/\xs.length+zs.length<=sizeLine/\∀ p,H p=none->Q (.ref p) (upd H p (.lst (xs++zs)))
theorem GW:OpR X (binaryOp .Add) rCat:=by
 intro LB s σ H x y v u Q I rx ry h;obtain⟨l,b,xs,zs,rfl,rfl,hH,hB,hz,q⟩:=h;cases rx;cases ry;obtain⟨z,LF,n,r,hl,e⟩:=I.lstM hH;obtain⟨z2,its2,n2,r2,hl2,e2⟩:=I.lstM hB;refine PySem.P.add_list e e2 ?_ (by rw[Mi,Mi];omega);have ea:LF.toArray++its2.toArray=(LF++its2).toArray:=by simp
 rw[ea];exact⟨.ref _,_,I.lnew (t':=s.toks) (r.append r2) (by rw[Mt];omega),rfl,q _ I.fresh⟩
def rRep:R2:=fun x y H Q=>∃ l k xs,x=.ref l/\y=.int k/\H l=some (.lst xs)/\ -(2^63)<=k/\k<2^63/\xs.length*k.toNat<=sizeLine/\
 ∀ p,H p=none->Q (.ref p) (upd H p (.lst (List.replicate k.toNat xs).flatten))
theorem FS{α:Type}(xs:List α)(k:Nat):(List.replicate k xs).flatten.length=k*xs.length:=by
 induction k with
 | zero=>simp
 | succ k ih=>rw[NG,Og,Mt,ih,Pp,Nat.add_comm]
theorem GX:OpR X (binaryOp .Mult) rRep:=by
 intro LB s σ H x y v u Q I rx ry h;obtain⟨l,k,xs,rfl,rfl,hH,h1,h2,hz,q⟩:=h;cases rx;obtain⟨t,rfl⟩:=ry;obtain⟨z,LF,n,r,hl,e⟩:=I.lstM hH;have LJ:LF.toArray.size*k.toNat<=sizeLine:=by rw[Mi,← hl];exact hz
 have hcap:¬ LF.toArray.size*k.toNat > (2^63-1)/8:=by
  have:(sizeLine:Nat)<=(2^63-1)/8:=by decide
  omega
 have hfit:¬ (!Builtin.List.listFitsIndex k)=true:=by
  rw[fitsIndex_both h1 h2];exact LY
 have hlong:¬ Builtin.List.listTooLong (LF.toArray.size*k.toNat)=true:=by
  rw[zF LJ];exact LY
 have hnew:List.foldl (fun x1 x2=>x1++x2) #[] (List.replicate (if LF.toArray.isEmpty=true then 0 else k.toNat) LF.toArray)=(List.replicate k.toNat LF).flatten.toArray:=by
  have f0:∀ m:Nat,List.foldl (fun x1 x2=>x1++x2) #[] (List.replicate m LF.toArray)=(List.replicate m LF).flatten.toArray:=fun m=>by
   have:=yd LF m [];rw[List.nil_append] at this;exact this
  rw[f0]
  cases LF with
  | nil=>simp
  | cons a r'=>rw[L4 (by simp)]
 refine wpAny_binaryOp_repeat_ref (T:="list") (U:="int") (by decide) ⟨_,e,rfl⟩ (fun s'=>typeIs_int s' k t) noFill_list_mul F.fills_int_mul F.slot_int_rmul repeat_list F.slot_int_index.lookup
  (NN F.slot_int_rmul (typeIs_int s k t) F.entry_int_rmul (F.args_int_rmul_2 _ _) (int___rmul___int_list k t l LF.toArray n)
   ⟨e,rfl,⟨_,e,rfl⟩,NN F.slot_list_mul ⟨_,e,rfl⟩ F.entry_list_mul (F.args_list_mul_2 _ _) (AutoListH.list___mul___list_int_3 l LF.toArray n k t hfit hcap hlong) ⟨e,?_⟩⟩)
 rw[hnew];exact⟨.ref _,_,I.lnew (t':=s.toks) (r.rep k.toNat) (by rw[FS,Nat.mul_comm];exact hz),rfl,q _ I.fresh⟩
end
end L2
namespace Att
open PySem PySem.W PySem.Calls PyProof.Rows
theorem ints_of_wellAll{P:Params}{h:Heap}:∀(ns:List Int) (vs:List Value),WellAll P h vs (ns.map WData.int)->IntsAre vs ns:=by
 intro ns
 induction ns with
 | nil=>
  intro vs w;rw[List.map_nil] at w;cases w;exact .nil
 | cons n ns ih=>
  intro vs w;rw[List.map_cons] at w
  cases w with
  | cons a b=>
   cases a;exact .cons _ _ (ih _ b)
theorem script_of {l:OpenLaw} {n:Nat} (hn:l.most=some n) {P:Params} {h:Heap} {args:List WData} {vals:List Value}
  (hpre:l.row.toRowW.claim.pre args=true) (hwl:WellAll P h vals args):
  ∃ a vs ns,vals=[Value.ref a]/\args=[WData.list (ns.map WData.int)]/\h.get? a=some {cls:=.type "list",data:=.seq vs.toArray}/\IntsAre vs ns/\ns.length<=n:=by
 have hsh:WShape.hasAll [] args [.list .int]=true:=(pre_splitW hpre).1;have hc:l.pre.holds [] {args:=args}=true:=(pre_splitW hpre).2;obtain⟨d,r,rfl,h1,h2⟩:=hasAllW_cons hsh;obtain rfl:=hasAllW_nil h2;obtain⟨xs,rfl,h3⟩:=hasW_list h1;obtain⟨ns,rfl⟩:=items_int h3
 have LJ:ns.length<=n:=by
  unfold OpenLaw.pre at hc
  have h4:(WTm.not (.lt (.lit (.int (n:Int))) (.len (.arg 0)))).holds [] {args:=[.list (ns.map .int)]}=true:=by
   have h4:=(holds_andW hc).1;rw[hn] at h4;exact h4
  have h5:=condW_of h4 (w_not (w_lt w_lit (w_len_list (w_arg rfl))));rw[List.length_map] at h5;refine Nat.le_of_not_lt fun q=>?_;have q':(n:Int) < ((ns.length:Nat):Int):=by omega
  first
   | (rw[decide_eq_true q'] at h5;exact absurd h5 (by decide))
   | (simp at h5;omega)
 cases hwl with
 | cons w1 w2=>
  cases w2
  cases w1 with
  | list ho hall=>exact⟨_,_,ns,rfl,rfl,ho,ints_of_wellAll ns _ hall,LJ⟩
theorem post_true(l:OpenLaw)(args:List WData):l.row.toRowW.claim.post args (.bool true) args=true:=
 postW_of (r:=l.row.toRowW) (X:=(true==true))
  (show WShape.has [] (.bool true) .bool=true by first | rfl | decide | simp[WShape.has,WShape.arms,WShape.armsAll])
  (show(WTm.eq .res (.lit (.bool true))).value [] {args:=args,res:=some (.bool true),after:=args}=some (.bool (true==true)) from w_eq_bool (w_res rfl) w_lit) rfl
theorem attach_call {l:OpenLaw} {n:Nat} {q:Program} {loose:List Str} {XP:(Str->Option Value)->Heap->Prop} {YP:World->Heap->Prop} {d:DefRec}
  (hn:l.most=some n) (hdf:d.params.defaults=[])
  (call:∀(w:World) (s₀ s₁:Shared) (mg mb:Str->Option Value) (fa:Addr) (o:Obj) (pm cd doc:Value) (a:Addr) (vs:List Value) (ns:List Int),
   Ground q loose [] XP w s₀ mg mb s₁.heap->YP w s₁.heap->
   s₁.heap.get? fa=some o->o.data=.func (docDef d.name d.params d.body d.scope pm cd doc)->s₁.heap.CodeRec cd d.name->mg d.name=some (.ref fa)->
   s₁.heap.get? a=some {cls:=.type "list",data:=.seq vs.toArray}->IntsAre vs ns->ns.length<=n->s₁.gens=#[]->
   codeAny (model l.prog w) callerA (.call (.ref fa) ⟨[.ref a],[]⟩) (fun r s'=>r=.ok (.ret (.bool true))/\OldK s₁.heap s'.heap/\s'.os=s₁.os/\AllBare s'.gens) s₁):
  WalkO q loose XP YP l.row.toRowW d [] (fun f vs=>PySem.call f vs):=by
 intro w s₀ s₁ mg mb G Y fa o pm cd doc dV kV ho hd hcd hD hmg hg args vals as hpre hlay hrd hwl hlo;obtain rfl:dV=.none:=Dflts.none hD hdf;obtain rfl:kV=.none:=Dflts.noKw hD;obtain⟨a,vs,ns,rfl,rfl,hobj,hints,LJ⟩:=script_of hn hpre hwl;refine enter_call (codeAny_mono (call w s₀ s₁ mg mb fa o pm cd doc a vs ns G Y ho (fd_plain hd) hcd hmg hobj hints LJ hg) fun r s' hq=>?_);obtain⟨rfl,h2,h3,h4⟩:=hq;exact⟨.inl ⟨.bool true,.bool true,[],rfl,fun _=>rfl,.bool true,post_true l _,fun _=>⟨List.Pairwise.nil,fun _ hm=>(nomatch hm)⟩⟩,h2,h3,h4⟩
section
variable{prog:Program}{w:World}{A:Around}{E:Value->Shared->Prop}{s:Shared}{K:Frag}
end
end Att
namespace L2
open PySem PySem.Spec PyProof.Rows
theorem qP:∀{vs:List Value} {ns:List Int},IntsAre vs ns->Vals (ns.map V.int) vs
 | _,_,.nil=>.nil
 | _,_,.cons n t h=>.cons ⟨t,rfl⟩ (qP h)
def Only(H:Hp):Prop:=∀ b,H b=none\/∃ o xs,H b=some (.frz o (.lst xs))
theorem EV {P:Program} {w:World} {K:Frag} {mg mb:Str->Option Value} {CX:CXT} {k:Nat} {fa a:Addr} {fd:FuncData} {x:Str} {sp:Sp} {s₁:Shared} {vs:List Value} {ns:List Int}
  (KX:K.In s₁.heap) (hns:s₁.heap.Ns mainGlobals mg) (hb:s₁.heap.Ns builtinsNs mb) (hbb:∀ x:Str,x≠"__name__"->mb x=bootBuiltins x) (hlim:s₁.heap.NoLimit) (hg:s₁.gens=#[])
  (ha:s₁.heap.get? a=some {cls:=.type "list",data:=.seq vs.toArray}) (hi:IntsAre vs ns) (hl:ns.length<=sizeLine) (hr:Room k callerA)
  (F:∀ base:Heap,K.In base->base.Ns mainGlobals mg->FnOk P w K mg base CX k fa fd [x] sp) (hbind:∀(s:Shared) (u:Value),BindsTo s fd ⟨[u],[]⟩ [(x,u)])
  (hsp:∀ H:Hp,Only H->SqL K H a (ns.map V.int)->sp [.ref a] H (fun v _=>v=.bl true) fun _ _ _=>False)
  (hCX:∀ H e s',CX [] H s₁ (fun _ _ _=>False) e s'->False):
  codeAny (model P w) callerA (.call (.ref fa) ⟨[.ref a],[]⟩) (fun r s'=>r=.ok (.ret (.bool true))/\OldK s₁.heap s'.heap/\s'.os=s₁.os/\AllBare s'.gens) s₁:=by
 have rv:=qP hi;have lenV:=hi.length
 have core:∀ H:Hp,Only H->SqL K H a (ns.map V.int)->HOk P w H s₁.heap->(∀ b,H b≠none->b=a)->(H a≠none->K.lookup a=none)->
   codeAny (model P w) callerA (.call (.ref fa) ⟨[.ref a],[]⟩) (fun r s'=>r=.ok (.ret (.bool true))/\OldK s₁.heap s'.heap/\s'.os=s₁.os/\AllBare s'.gens) s₁:=by
  intro H hO hS hok hA hK;have base_of:∀{b:Addr} {o:Obj},s₁.heap.get? b=some o->H b=none->(hidT s₁.heap H).get? b=some o:=fun e n=>EM e n
  have noA:∀{b:Addr} {o:Obj} {es:Array DictEntry} {ep:Nat},s₁.heap.get? b=some o->o.data=.dict es ep->H b=none:=fun{b o es ep} e d=>by
   cases q:H b with
   | none=>rfl
   | some u=>
    have e':b=a:=hA b (by rw[q];simp);subst e';rw[ha] at e;cases e;have d':Data.seq vs.toArray _=Data.dict es ep:=d;cases d'
  have nsK:∀{b:Addr} {m:Str->Option Value},s₁.heap.Ns b m->(hidT s₁.heap H).Ns b m:=fun{b m} ⟨o,es,ep,e,d,r⟩=>⟨o,es,ep,base_of e (noA e d),d,r⟩
  have hKb:K.In (hidT s₁.heap H):=fun b o e=>base_of (KX b o e) (by
   cases q:H b with
   | none=>rfl
   | some u=>
    have e':b=a:=hA b (by rw[q];simp);subst e';rw[hK (by rw[q];simp)] at e;cases e)
  have hM:Mod K mg (hidT s₁.heap H):=⟨hKb,nsK hns,⟨mb,nsK hb,hbb⟩,let ⟨mc,h1,h2⟩:=hlim;⟨mc,nsK h1,h2⟩⟩;have e0:Env0 P w K mg (hidT s₁.heap H) callerA [] s₁ H:=⟨rfl,hM,fun b o e=>FH e,Nat.le_of_eq (Da _ _),trivial,fun b hb=>absurd (show b∈([]:List Addr) from hb) (by simp),hok,.of_eq hg⟩;refine PP ((F _ hKb (nsK hns)).run callerA [] s₁ H ⟨[.ref a],[]⟩ [.ref a] [.ref a] _ _ hr e0 (hbind s₁ (.ref a)) (.cons rfl .nil) (hsp H hO hS)) fun r s' h=>?_
  cases r with
  | error e=>exact(hCX H e s' h).elim
  | ok fl=>
   cases fl with
   | next=>exact False.elim h
   | brk=>exact False.elim h
   | cont=>exact False.elim h
   | ret u=>
    obtain⟨v,H',os,bare,un,hok',r',q⟩:=h;have q':v=.bl true:=q;subst q';obtain rfl:u=Value.bool true:=r';refine⟨rfl,OldK.of_keep fun b o e=>?_,os,bare⟩
    cases q:H b with
    | none=>exact un.keep b o e q (by intro z;exact absurd (show b∈([]:List Addr) from z) (by simp)) (by simp)
    | some u=>
     rcases hO b with z | ⟨ob,xs,z⟩
     . rw[q] at z;cases z
     . have z2:=un.frzs b ob _ z;obtain⟨e1,_⟩:=hok b _ z;obtain⟨e2,_⟩:=hok' b _ z2;rw[e] at e1;cases e1;exact e2
 cases hk:K.lookup a with
 | some o=>
  have e:=KX a o hk;rw[ha] at e;cases e;refine core (fun _=>none) (fun _=>.inl rfl) (.inr ⟨_,vs.toArray,_,hk,rfl,rfl,rfl,by rw[Mi,lenV];exact hl,by simpa using rv⟩) (fun b u z=>by have z':(none:Option HO)=some u:=z;cases z') (fun b z=>absurd rfl z) fun z=>absurd rfl z
 | none=>
  refine core (fun b=>if b=a then some (.frz {cls:=.type "list",data:=.seq vs.toArray} (.lst (ns.map V.int))) else none) (fun b=>?_) (.inl (.inr ⟨{cls:=.type "list",data:=.seq vs.toArray},Md rfl⟩)) (fun b u z=>?_) (fun b z=>?_) fun _=>hk
  . by_cases hb:b=a
    . exact .inr ⟨_,_,Md hb⟩
    . exact .inl (L4 hb)
  . by_cases hb:b=a
    . have z':=(Md hb).symm.trans z;cases z';subst hb;exact⟨ha,by rw[LM];exact hl,vs,_,rv,ha⟩
    . have z':=(L4 hb).symm.trans z;cases z'
  . by_cases hb:b=a
    . exact hb
    . exact absurd (L4 hb) z
theorem FT {l:PySem.W.OpenLaw} {n k:Nat} {q:Program} {loose:List Str} {XP:(Str->Option Value)->Heap->Prop} {YP:World->Heap->Prop} {d:DefRec} {K:Params->Frag} {CX:World->CXT} {sp:World->Sp} {x:Str}
  (hn:l.most=some n) (hn2:n<=sizeLine) (hdf:d.params.defaults=[]) (hr:Room k callerA)
  (hY:∀(w:World) (h:Heap),YP w h->(K w.params).In h)
  (F:∀(w:World) (mg:Str->Option Value) (fa:Addr) (h:Heap),(K w.params).In h->h.Ns mainGlobals mg->mg d.name=some (.ref fa)->
   ∃ fd:FuncData,(∀(s:Shared) (u:Value),BindsTo s fd ⟨[u],[]⟩ [(x,u)])/\
    ∀ base:Heap,(K w.params).In base->base.Ns mainGlobals mg->FnOk l.prog w (K w.params) mg base (CX w) k fa fd [x] (sp w))
  (hsp:∀(w:World) (H:Hp) (a:Addr) (ns:List Int),ns.length<=n->Only H->SqL (K w.params) H a (ns.map V.int)->sp w [.ref a] H (fun v _=>v=.bl true) fun _ _ _=>False)
  (hCX:∀(w:World) (H:Hp) (s:Shared) (e:Value) (s':Shared),CX w [] H s (fun _ _ _=>False) e s'->False):
  PySem.W.WalkO q loose XP YP l.row.toRowW d [] (fun f vs=>PySem.call f vs):=by
 refine Att.attach_call hn hdf fun w s₀ s₁ mg mb fa o pm cd doc a vs ns G Y ho hd hcd hmg hobj hints LJ hg=>?_;have KX:=hY w _ Y;obtain⟨fd,hb,hF⟩:=F w mg fa _ KX G.T.g hmg;exact EV KX G.T.g G.T.b G.T.builtins G.T.nolimit hg hobj hints (L8 LJ hn2) hr hF hb (fun H hO hS=>hsp w H a ns LJ hO hS) fun H e s'=>hCX w H s₁ e s'
def cr(s:Stmt):Arguments:=match s with
 | .FunctionDef _ a _ _ _ _ _ _ _ _=>a
 | _=>{posonlyargs:=[],args:=[],vararg:=none,kwonlyargs:=[],kw_defaults:=[],kwarg:=none,defaults:=[]}
def bT(s:Stmt):List Stmt:=match s with
 | .FunctionDef _ _ b _ _ _ _ _ _ _=>b
 | _=>[]
def aX(s:Stmt):Scope:=match s with
 | .FunctionDef _ _ _ _ _ _ sc _ _ _=>sc
 | _=>{kind:=.function,names:=[],isGenerator:=false,isCoroutine:=false}
abbrev CX0:CXT:=fun _ _ _ _ _ _=>False
abbrev E0:XK:=fun _ _ _=>False
theorem u9{X:Cx}:ow CX0 X E0:=fun _ _ _ _ _ _ _ h=>h.elim
structure Fun(K:Frag)(x qual:Str)(st:Stmt)(f:Addr)(fd:FuncData):Prop where
 ex:∃(oc:Value) (od:Option Addr) (kV doc pm:Value) (an:Option Addr) (LD ct:Value) (osl:Array (Option Value)),
  fd=fnOf x qual (cr st) (bT st) (aX st) .none kV doc pm an LD ct/\K.lookup f=some ⟨oc,od,.func fd,osl⟩/\codeIn K LD qual=true
 kp:keepIn K (.ref f)=true
section
variable{P:Program}{w:World}{K:Frag}{mg:Str->Option Value}{base:Heap}
theorem Fun.ok {x qual:Str} {st:Stmt} {f:Addr} {fd:FuncData} {N ps:List Str} {k:Nat} {sp:Sp} (F:Fun K x qual st f fd) (S:lI N ps (aX st)) (len:∀ vs H Q E,sp vs H Q E->vs.length=ps.length)
  (hbody:∀(LD:Value) (A:Around) (outer:List Env) (s:Shared) (H:Hp) (vs:List V) (Q:VK) (E:XK),Room k (A.deeper (envOfC qual (aX st) s.heap.objs.size f LD))->sp vs H Q E->
   ∃ t,PSs (cxOf CX0 P w K mg base N qual (aX st) f LD A outer s H E).nox (bT st) t/\t {nx:=fun _ H'=>Q .non H',rt:=Q} (start N vs) H):FnOk P w K mg base CX0 (k+1) f fd ps sp:=by
 obtain⟨oc,od,kV,doc,pm,an,LD,ct,osl,rfl,lk,hcd⟩:=F.ex;refine HV lk hcd S len fun A outer s H vs Q E hr hsp=>?_;obtain⟨t,h,q⟩:=hbody LD A outer s H vs Q E hr hsp;exact⟨t,h.nox,q⟩
theorem Fun.binds {x qual:Str} {st:Stmt} {f:Addr} {fd:FuncData} {ps:List Str} (F:Fun K x qual st f fd)
  (h:∀(kV doc pm:Value) (an:Option Addr) (LD ct:Value) (us:List Value),us.length=ps.length->bindArgs (fnOf x qual (cr st) (bT st) (aX st) .none kV doc pm an LD ct) ⟨us,[]⟩=pure (ps.zip us)):Binds K fd ps []:=by
 obtain⟨oc,od,kV,doc,pm,an,LD,ct,osl,rfl,lk,hcd⟩:=F.ex;exact .all (h kV doc pm an LD ct)
theorem Dr {x qual:Str} {st:Stmt} {f:Addr} {oc:Value} {od an:Option Addr} {osl:Array (Option Value)} {kV doc pm LD ct:Value} (l:K.lookup f=some ⟨oc,od,.func (fnOf x qual (cr st) (bT st) (aX st) .none kV doc pm an LD ct),osl⟩)
  (c:codeIn K LD qual=true) (k:keepIn K (.ref f)=true):Fun K x qual st f (fnOf x qual (cr st) (bT st) (aX st) .none kV doc pm an LD ct):=⟨⟨oc,od,kV,doc,pm,an,LD,ct,osl,rfl,l,c⟩,k⟩
end
theorem aE{n:Nat}(h:n<=1000):n<sizeLine:=M3 h (by decide)
section
variable{X:Cx}
theorem pv (i:Nat) {x:Str} {pos:Pos} (hN:X.N[i]? =some x:=by rfl) (hv:Vis X.env.scope x:=by first | exact Or.inl rfl | exact Or.inr (Or.inl rfl) | exact Or.inr (Or.inr rfl)) (hd:(x==("__debug__":Str))=false:=by decide)
  (hcd:(x==("__classdict__":Str))=false:=by decide):PE X (.Name x pos) (tVar i):=GK hN hv hd hcd
end
theorem iteF{A B:Prop}(h:B):if false=true then A else B:=by
 rw[L4 LY];exact h
theorem iteT{A B:Prop}(h:A):if true=true then A else B:=by
 rw[Md rfl];exact h
def Same(H H':Hp):Prop:=∀ b o,H b=some o->H' b=some o
theorem Same.refl(H:Hp):Same H H:=fun _ _ h=>h
abbrev LQ:=@Same.refl
theorem Same.trans{H H1 H2:Hp}(a:Same H H1)(b:Same H1 H2):Same H H2:=fun c o h=>b c o (a c o h)
theorem Same.free{H H':Hp}(e:Same H H'){l:Addr}(h:H' l=Option.none):H l=Option.none:=by
 cases q:H l with
 | none=>rfl
 | some o=>
  rw[e l o q] at h;cases h
theorem Same.seq{K:Frag}{H H':Hp}{a:Addr}{xs:List V}(e:Same H H')(h:SqL K H a xs):SqL K H' a xs:=by
 rcases h with (h | ⟨o,h⟩) | h
 . exact .inl (.inl (e _ _ h))
 . exact .inl (.inr ⟨o,e _ _ h⟩)
 . exact .inr h
section
variable{κ:Type}[DecidableEq κ]
def valV(LE:List (κ × V))(k:κ):Option V:=(LE.find? fun kv=>decide (kv.1=k)).map (·.2)
def putK(LE:List (κ × V))(k:κ)(v:V):List (κ × V):=
 if (LE.any fun kv=>decide (kv.1=k))=true then LE.map (fun kv=>if kv.1=k then(kv.1,v) else kv) else LE++[(k,v)]
theorem uf{p:κ × V}{r:List (κ × V)}{k:κ}(e:p.1=k):valV (p::r) k=some p.2:=by simp[valV,NA,e]
theorem ug{p:κ × V}{r:List (κ × V)}{k:κ}(e:¬ p.1=k):valV (p::r) k=valV r k:=by simp[valV,NA,e]
theorem zG(k:κ):∀ LE:List (κ × V),(LE.any fun kv=>decide (kv.1=k))=(valV LE k).isSome
 | []=>rfl
 | p::r=>by
  rw[NR];by_cases e:p.1=k
  . simp only[uf e,LU e,Oh,Option.isSome_some]
  . rw[ug e,LR e,Nf];exact zG k r
theorem tP(LE:List (κ × V))(k:κ)(v:V):(putK LE k v).length<=LE.length+1:=by
 unfold putK
 split
 . rw[LM];omega
 . rw[Mt,Mx,List.length_nil];omega
theorem RelO.isSome_eq{o:Option V}{u:Option Value}(r:RelO o u):o.isSome=u.isSome:=by
 cases o with
 | none=>cases u with
  | none=>rfl
  | some _=>exact(show False from r).elim
 | some _=>cases u with
  | none=>exact(show False from r).elim
  | some _=>rfl
theorem KV.val{LE:List (κ × V)}{vs:List (κ × Value)}(r:KV LE vs)(k:κ):RelO (valV LE k) (valueAt vs k):=by
 unfold KV at r
 induction r with
 | nil=>exact True.intro
 | @cons p q ps qs h t ih=>
  obtain⟨h1,h2⟩:=h;by_cases e:p.1=k
  . have e':q.1=k:=h1.symm.trans e;have b:valueAt (q::qs) k=some q.2:=by simp[valueAt,NA,e']
    rw[uf e,b];exact h2
  . have e':¬ q.1=k:=fun z=>e (h1.trans z);have b:valueAt (q::qs) k=valueAt qs k:=by simp[valueAt,NA,e']
    rw[ug e,b];exact ih
theorem KV.any{LE:List (κ × V)}{vs:List (κ × Value)}(r:KV LE vs)(k:κ):(LE.any fun kv=>decide (kv.1=k))=vs.any fun kv=>decide (kv.1=k):=by
 unfold KV at r
 induction r with
 | nil=>rfl
 | cons h t ih=>rw[NR,NR,ih,h.1]
theorem KV.repl{LE:List (κ × V)}{vs:List (κ × Value)}(r:KV LE vs)(k:κ){y:V}{u:Value}(ry:RelV y u):
  KV (LE.map fun kv=>if kv.1=k then(kv.1,y) else kv) (vs.map fun kv=>if kv.1=k then(kv.1,u) else kv):=by
 unfold KV at r ⊢
 induction r with
 | nil=>exact .nil
 | @cons p q ps qs h t ih=>
  rw[MB,MB];refine .cons ?_ ih;obtain⟨h1,h2⟩:=h;by_cases e:p.1=k
  . rw[Md e,Md (h1.symm.trans e)];exact⟨h1,ry⟩
  . rw[L4 e,L4 (fun z=>e (h1.trans z))];exact⟨h1,h2⟩
theorem KV.put{LE:List (κ × V)}{vs:List (κ × Value)}(r:KV LE vs)(k:κ){y:V}{u:Value}(ry:RelV y u):KV (putK LE k y) (stored vs k u):=by
 unfold putK stored;rw[r.any k];by_cases e:(vs.any fun kv=>decide (kv.1=k))=true
 . rw[Md e,Md e];exact r.repl k ry
 . rw[L4 e,L4 e];exact Paired.snoc r ⟨rfl,ry⟩
theorem KV.length{LE:List (κ × V)}{vs:List (κ × Value)}(r:KV LE vs):LE.length=vs.length:=PJ r
end
theorem va{P:Program}{w:World}{k:Key}{u:Value}(r:RelV (kV k) u):(cm P w).is k u=true:=by
 cases k with
 | inl i=>obtain⟨t,e⟩:=(show ∃ t,u=Value.int i t from r);subst e;exact A0 P w i t
 | inr x=>obtain⟨t,e⟩:=(show ∃ t,u=Value.str x t from r);subst e;exact A1 P w x t
theorem yf{P:Program}{w:World}:∀{ks:List Key} {us:List Value},Vals (ks.map kV) us->ItemsAre (cm P w) ks us
 | [],_,r=>by rw[List.map_nil] at r;cases r;exact .nil
 | k::ks,_,r=>by
  rw[MB] at r
  cases r with
  | cons h t=>exact .cons (va h) (yf t)
abbrev KT(H:Hp):List (List Key × V)->List (List Key × Addr × Value)->Prop:=Paired fun p q=>p.1=q.1/\H q.2.1=some (.tup (p.1.map kV))/\RelV p.2 q.2.2
variable{H:Hp}{LE:List (List Key × V)}{xs:List (List Key × Addr × Value)}
theorem KT.val(r:KT H LE xs)(k:List Key):RelO (valV LE k) ((atKey xs k).map (·.2)):=by
 induction r with
 | nil=>exact True.intro
 | @cons p q ps qs h t ih=>
  obtain⟨h1,_,h2⟩:=h;by_cases e:p.1=k
  . have e':q.1=k:=h1.symm.trans e;have b:atKey (q::qs) k=some q.2:=by simp[atKey,NA,e']
    rw[uf e,b];exact h2
  . have e':¬ q.1=k:=fun z=>e (h1.trans z);have b:atKey (q::qs) k=atKey qs k:=by simp[atKey,NA,e']
    rw[ug e,b];exact ih
theorem KT.repl(r:KT H LE xs)(k:List Key){y:V}{u:Value}(ry:RelV y u):
  KT H (LE.map fun kv=>if kv.1=k then(kv.1,y) else kv) (xs.map (putAt k u)):=by
 induction r with
 | nil=>exact .nil
 | @cons p q ps qs h t ih=>
  rw[MB,MB];refine .cons ?_ ih;obtain⟨h1,h2,h3⟩:=h;unfold putAt;by_cases e:p.1=k
  . rw[Md e,Md (h1.symm.trans e)];exact⟨h1,h2,ry⟩
  . rw[L4 e,L4 (fun z=>e (h1.trans z))];exact⟨h1,h2,h3⟩
theorem KT.put(r:KT H LE xs)(k:List Key){b:Addr}{y:V}{u:Value}(hb:H b=some (.tup (k.map kV)))(ry:RelV y u):
  KT H (putK LE k y) (storedH xs k b u):=by
 have e:(LE.any fun kv=>decide (kv.1=k))=(atKey xs k).isSome:=by
  rw[zG,(r.val k).isSome_eq,O8]
 unfold putK storedH;rw[e];by_cases q:(atKey xs k).isSome=true
 . rw[Md q,Md q];exact r.repl k ry
 . rw[L4 q,L4 q];exact Paired.snoc r ⟨rfl,hb,ry⟩
theorem KT.keeps{H':Hp}(r:KT H LE xs)(ht:∀ b ys,H b=some (.tup ys)->H' b=some (.tup ys)):KT H' LE xs:=
 Paired.mapP r fun _ _ z=>⟨z.1,ht _ _ z.2.1,z.2.2⟩
section
variable{P:Program}{w:World}{H:Hp}{h:Heap}{a:Addr}
theorem Fz{u:HO}(ok:HOk P w H h)(e:Rd H a u):ObjOk P w H h a u:=e.ok ok
theorem sQ{LE:List (Key × V)}(ok:HOk P w H h)(e:Rd H a (.dK LE)):LE.length<=sizeLine/\(a==sysModules)=false/\∃ vs,KV LE vs/\h.DictOf (cm P w) a vs:=
 show ObjOk P w H h a (.dK LE) from Fz ok e
theorem HW{LE:List (Key × V)}(ok:HOk P w H h)(e:H a=some (.dK LE)):LE.length<=sizeLine/\(a==sysModules)=false/\∃ vs,KV LE vs/\h.DictOf (cm P w) a vs:=sQ ok (.inl e)
theorem qQ{ks:List Key}(ok:HOk P w H h)(e:H a=some (.tup (ks.map kV))):(tupleKind (cm P w)).is h ks a:=by
 obtain⟨_,LF,r,o,h1,h2,n,h3⟩:=(show ObjOk P w H h a (.tup (ks.map kV)) from ok a _ e);exact⟨o,LF.toArray,n,h1,h2,h3,by simpa using yf r⟩
theorem vc{LE:List (List Key × V)}(ok:HOk P w H h)(e:Rd H a (.dT LE)):LE.length<=sizeLine/\(a==sysModules)=false/\
  ∃ xs,KT H LE xs/\h.DictOfH (tupleKind (cm P w)) a xs:=by
 obtain⟨z,y,xs,r,o,es,ep,h1,h2,h3,h4,h5⟩:=(show ObjOk P w H h a (.dT LE) from Fz ok e);refine⟨z,y,xs,r,o,es,ep,h1,h2,h3,h4,fun x hx=>?_,h5⟩
 have all:∀{l:List (List Key × V)} {m:List (List Key × Addr × Value)},KT H l m->∀ x∈m,(tupleKind (cm P w)).is h x.1 x.2.1:=by
  intro l m q
  induction q with
  | nil=>intro x hx;exact nomatch hx
  | @cons p q ps qs hq t ih=>
   intro x hx;rcases L6.mp hx with e | hx
   . subst e;exact qQ ok (by rw[← hq.1];exact hq.2.1)
   . exact ih x hx
 exact all r x hx
theorem HX{LE:List (List Key × V)}(ok:HOk P w H h)(e:H a=some (.dT LE)):LE.length<=sizeLine/\(a==sysModules)=false/\
  ∃ xs,KT H LE xs/\h.DictOfH (tupleKind (cm P w)) a xs:=vc ok (.inl e)
end
def DGet(H:Hp)(a:Addr)(y:V)(r:Option V):Prop:=
 (∃ LE k,Rd H a (.dK LE)/\y=kV k/\r=valV LE k)\/∃ LE k b,Rd H a (.dT LE)/\y=.ref b/\H b=some (.tup (k.map kV))/\r=valV LE k
def DPut(H:Hp)(a:Addr)(y v:V)(H':Hp):Prop:=
 (∃ LE k,H a=some (.dK LE)/\y=kV k/\LE.length<sizeLine/\H'=upd H a (.dK (putK LE k v)))\/
 ∃ LE k b,H a=some (.dT LE)/\y=.ref b/\H b=some (.tup (k.map kV))/\LE.length<sizeLine/\H'=upd H a (.dT (putK LE k v))
theorem DGet.k{a:Addr}{LE:List (Key × V)}{k:Key}(e:H a=some (.dK LE)):DGet H a (kV k) (valV LE k):=.inl ⟨LE,k,.inl e,rfl,rfl⟩
section
variable{X:Cx}{LB:List (Addr × Obj)}{σ:St}{H:Hp}{s:Shared}{a:Addr}{y v:V}{u r:Value}{o:Option V}{A:Around}{E:Value->Shared->Prop}
theorem Ds{Q:Value->Shared->Prop}(hu:A.units+1<cLine)(I:Inv X LB σ H s)(g:DGet H a y (some v))(ry:RelV y u)(h:∀ w' s',Inv X LB σ H s'->RelV v w'->Q w' s'):
  wpAny (model X.prog X.w) A (getItem (.ref a) u) Q E s:=by
 rcases g with ⟨LE,k,e,ey,l⟩ | ⟨LE,k,b,e,ey,eb,l⟩
 . subst ey;obtain⟨z,hd,vs,rel,dd⟩:=sQ I.hok e;obtain⟨w',hw,rw'⟩:=PN (v:=v) (o:=valueAt vs k) (by rw[l];exact rel.val k);exact wpAny_getItem_of (va ry) dd.mapOf hw (h w' _ (I.tok _) rw')
 . subst ey;cases (show u=Value.ref b from ry);obtain⟨z,hd,xs,rel,dd⟩:=vc I.hok e;obtain⟨w',hw,rw'⟩:=PN (v:=v) (o:=(atKey xs k).map (·.2)) (by rw[l];exact rel.val k);obtain⟨p,hp,hp2⟩:=M5.mp hw;refine wpAny_getItem_heap (Oc hu) (qQ I.hok eb) dd hp ?_;rw[hp2];exact h w' _ (I.tok _) rw'
theorem Iw{Q:Value->Shared->Prop}(hu:A.units+1<cLine)(I:Inv X LB σ H s)(g:DGet H a y o)(ry:RelV y u)(h:∀ s',Inv X LB σ H s'->Q (.bool o.isSome) s'):
  wpAny (model X.prog X.w) A (compareOp .In u (.ref a)) Q E s:=by
 rcases g with ⟨LE,k,e,ey,l⟩ | ⟨LE,k,b,e,ey,eb,l⟩
 . subst ey;obtain⟨z,hd,vs,rel,dd⟩:=sQ I.hok e;refine wpAny_in_of (va ry) hd dd.mapOf ?_;rw[← (rel.val k).isSome_eq,← l];exact h _ (I.tok _)
 . subst ey;cases (show u=Value.ref b from ry);obtain⟨z,hd,xs,rel,dd⟩:=vc I.hok e;refine wpAny_in_heap (Oc hu) (qQ I.hok eb) hd dd ?_;have q:=(rel.val k).isSome_eq;rw[O8] at q;rw[← q,← l];exact h _ (I.tok _)
theorem FU{Q:Value->Shared->Prop}(hu:A.units+1<cLine)(I:Inv X LB σ H s)(g:DGet H a y o)(ry:RelV y u)(h:∀ s',Inv X LB σ H s'->Q (.bool (!o.isSome)) s'):
  wpAny (model X.prog X.w) A (compareOp .NotIn u (.ref a)) Q E s:=by
 rcases g with ⟨LE,k,e,ey,l⟩ | ⟨LE,k,b,e,ey,eb,l⟩
 . subst ey;obtain⟨z,hd,vs,rel,dd⟩:=sQ I.hok e;refine wpAny_notIn_of (va ry) hd dd.mapOf ?_;rw[← (rel.val k).isSome_eq,← l];exact h _ (I.tok _)
 . subst ey;cases (show u=Value.ref b from ry);obtain⟨z,hd,xs,rel,dd⟩:=vc I.hok e;refine wpAny_notIn_heap (Oc hu) (qQ I.hok eb) hd dd ?_;have q:=(rel.val k).isSome_eq;rw[O8] at q;rw[← q,← l];exact h _ (I.tok _)
theorem BH{h':Heap}{t':Nat}{ob:HO}(I:Inv X LB σ H s)(mu:Mut (H a))(hs:Heap.SameBut a s.heap h')(he:∃ q,h'.get? a=some q)(new:ObjOk X.prog X.w (upd H a ob) h' a ob):
  Inv X LB σ (upd H a ob) {s with heap:=h',toks:=t'}:=
 I.write (x:=a) (e:=a) mu (.inl rfl) (fun b q hb z=>(hs.2 b hb).trans z) he new
theorem GY{P:Program}{w:World}{H':Hp}{h':Heap}{LE:List (Key × V)}{vs:List (Key × Value)}(z:LE.length<=sizeLine)(hd:(a==sysModules)=false)(rel:KV LE vs)(dd:h'.DictOf (cm P w) a vs):
  ObjOk P w H' h' a (.dK LE):=⟨z,hd,vs,rel,dd⟩
theorem Dt{H':Hp}{Q:Unit->Shared->Prop}(hu:A.units+1<cLine)(I:Inv X LB σ H s)(g:DPut H a y v H')(ry:RelV y u)(rv:RelV v r)(h:∀ s',Inv X LB σ H' s'->Q () s'):
  wpAny (model X.prog X.w) A (setItem (.ref a) u r) Q E s:=by
 rcases g with ⟨LE,k,e,ey,l,eH⟩ | ⟨LE,k,b,e,ey,eb,l,eH⟩
 . subst ey eH;obtain⟨z,hd,vs,rel,dd⟩:=HW I.hok e;have hz:vs.length<=sizeLine:=by rw[← rel.length];exact z
   have hl:(putK LE k v).length<=sizeLine:=by have:=tP LE k v;omega
   refine wpAny_setItem_pairs (hsz:=hz) (va ry) dd fun h' dd' hs=>h _ ?_;have he:∃ q,h'.get? a=some q:=let ⟨q,_,_,hq,_⟩:=dd';⟨q,hq⟩;exact BH I (by rw[e];exact True.intro) hs he (GY hl hd (rel.put k rv) dd')
 . subst ey eH;cases (show u=Value.ref b from ry);obtain⟨z,hd,xs,rel,dd⟩:=HX I.hok e;have hz:xs.length<=sizeLine:=by rw[← PJ rel];exact z
   have hl:(putK LE k v).length<=sizeLine:=by have:=tP LE k v;omega
   refine wpAny_setItem_heap (hsz:=hz) (Oc hu) (qQ I.hok eb) dd fun h' dd' hs=>h _ ?_;obtain⟨q,es,ep,hq,h2,h3,h4,_,h5⟩:=dd';refine BH I (by rw[e];exact True.intro) hs ⟨q,hq⟩ ⟨hl,hd,_,(rel.put k eb rv).keeps fun c ys ec=>?_,q,es,ep,hq,h2,h3,h4,h5⟩;rw[ak (HM ec e (fun z=>nomatch z))];exact ec
end
section
variable{X:Cx}{LB:List (Addr × Obj)}{σ:St}{H:Hp}{s:Shared}{a:Addr}{LE:List (Key × V)}{k:Key}{u:Value}{A:Around}{E:Value->Shared->Prop}
theorem HY{Q:Value->Shared->Prop}(I:Inv X LB σ H s)(e:Rd H a (.dK LE))(h:∀ t s',Inv X LB σ H s'->Q (.int LE.length t) s'):wpAny (model X.prog X.w) A (call (.builtin "len") [.ref a]) Q E s:=by
 obtain⟨z,hd,vs,rel,dd⟩:=sQ I.hok e;refine call_len_dict hd dd (by rw[← rel.length];rw[sizeLine_eq] at z;omega) ?_;rw[← rel.length];exact h _ _ (I.tok _)
end
theorem A4{X:Cx}{LB:List (Addr × Obj)}{σ:St}{s:Shared}{a:Addr}{y:V}{o:Option V}(I:Inv X LB σ H s)(g:DGet H a y o):s.TypeIs (.ref a) "dict":=by
 rcases g with ⟨LE,k,e,_,_⟩ | ⟨LE,k,b,e,_,_,_⟩
 . obtain⟨_,_,vs,_,dd⟩:=sQ I.hok e;exact dd.typeIs
 . obtain⟨_,_,xs,_,dd⟩:=vc I.hok e;exact dd.typeIs
def sDPut(td ty tv:TE):TS:=fun D σ H=>tv σ H fun v H1=>td σ H1 fun x H2=>ty σ H2 fun y H3=>∃ a H4,x=.ref a/\DPut H3 a y v H4/\D.nx σ H4
def GZ:TE:=fun _ H Q=>∀ p,H p=none->Q (.ref p) (upd H p (.dK []))
section
variable{X:Cx}
theorem Du:CallR X (.builtin "len") (fun xs H Q=>∃ a LE,xs=[V.ref a]/\H a=some (.dK LE)/\Q (.int LE.length) H):=by
 intro LB s σ H xs us Q I r h;obtain⟨a,LE,rfl,ha,q⟩:=h;obtain⟨u,rfl,ru⟩:=cU r;cases ru;exact HY I (.inl ha) fun t s' I'=>⟨.int LE.length,H,I',⟨t,rfl⟩,q⟩
end
theorem cu{α:Type}(x:Str):∀(a b:List (Str × α)),(a++b).lookup x=match a.lookup x with | some c=>some c | none=>b.lookup x
 | [],b=>rfl
 | (k,v)::r,b=>by
  rw[List.cons_append,MR,MR]
  cases x==k with
  | true=>rfl
  | false=>exact cu x r b
theorem kK:∀(names:List (Str × NameKind)) (n:Nat) (acc cl:List (Str × Addr)),cellsFrom n names (acc++cl)=cellsFrom n names acc++cl
 | [],_,_,_=>rfl
 | (y,k)::r,n,acc,cl=>by
  unfold cellsFrom
  split
  . rw[← List.cons_append];exact kK r _ _ cl
  . exact kK r _ _ cl
theorem gZ{x:Str}{c:Addr}:∀(names:List (Str × NameKind)) (n:Nat) (acc:List (Str × Addr)),(x,c)∈cellsFrom n names acc->(x,NameKind.cell)∈names\/(x,c)∈acc
 | [],_,_,h=>.inr h
 | (y,k)::r,n,acc,h=>by
  unfold cellsFrom at h
  split at h
  . rename_i hk
    have hk:k=.cell:=by simpa using hk
    subst hk;rcases gZ r _ _ h with z | z
    . exact .inl (L5 _ z)
    . rcases L6.mp z with z | z
      . cases z;exact .inl Ma
      . exact .inr z
  . rcases gZ r _ _ h with z | z
    . exact .inl (L5 _ z)
    . exact .inr z
theorem pH {env:Env} (f:Str × NameKind->List (Str × Addr)->Sem (ForInStep (List (Str × Addr))))
  (hf:∀ name kind cs,f (name,kind) cs=if kind==.free then(do let a ← cellOf env name;pure (.yield ((name,a)::cs))) else pure (.yield cs)):
  ∀(names:List (Str × NameKind)) (acc:List (Str × Addr)),(∀ x,(x,NameKind.free)∈names->∃ c,env.cells.lookup x=some c)->(∀ x c,acc.lookup x=some c->env.cells.lookup x=some c)->
   ∃ cl,forIn names acc f=(pure cl:Sem _)/\(∀ x c,cl.lookup x=some c->env.cells.lookup x=some c)/\(∀ x,((x,NameKind.free)∈names\/∃ c,acc.lookup x=some c)->∃ c,cl.lookup x=some c)
 | [],acc,_,h2=>⟨acc,rfl,h2,fun x h=>h.elim (fun z=>nomatch z) id⟩
 | (y,k)::r,acc,h1,h2=>by
  rw[List.forIn_cons,hf];by_cases hk:(k==NameKind.free)=true
  . rw[Md hk];have hk':k=.free:=by simpa using hk
    subst hk';obtain⟨c,hc⟩:=h1 y Ma;have e:(cellOf env y:Sem Addr)=pure c:=by unfold cellOf;rw[hc]
    rw[e]
    obtain⟨cl,e1,e2,e3⟩:=pH f hf r ((y,c)::acc) (fun x hx=>h1 x (L5 _ hx)) (fun x c' hx=>by
     rw[MR] at hx
     cases hb:x==y with
     | true=>rw[hb] at hx;cases hx;rw[NE.mp hb];exact hc
     | false=>rw[hb] at hx;exact h2 x c' hx)
    refine⟨cl,?_,e2,fun x hx=>e3 x ?_⟩
    . exact e1
    . rcases hx with hx | ⟨c',hx⟩
      . rcases L6.mp hx with z | z
        . cases z;exact .inr ⟨c,by rw[MR];simp⟩
        . exact .inl z
      . cases hb:x==y with
        | true=>exact .inr ⟨c,by rw[MR,hb]⟩
        | false=>exact .inr ⟨c',by rw[MR,hb];exact hx⟩
  . rw[L4 hk];obtain⟨cl,e1,e2,e3⟩:=pH f hf r acc (fun x hx=>h1 x (L5 _ hx)) h2;refine⟨cl,e1,e2,fun x hx=>e3 x ?_⟩;rcases hx with hx | hx
    . rcases L6.mp hx with z | z
      . cases z;exact absurd rfl hk
      . exact .inl z
    . exact .inr hx
variable{scope:Scope}
theorem Ck{env:Env}(h:∀ x,(x,NameKind.free)∈scope.names->∃ c,env.cells.lookup x=some c):
  ∃ cl,closureFor scope env=pure cl/\(∀ x c,cl.lookup x=some c->env.cells.lookup x=some c)/\∀ x,(x,NameKind.free)∈scope.names->∃ c,cl.lookup x=some c:=by
 obtain⟨cl,e1,e2,e3⟩:=pH (env:=env) (fun x cs=>match x with | (name,kind)=>if kind==.free then(do let a ← cellOf env name;pure (.yield ((name,a)::cs))) else pure (.yield cs)) (fun _ _ _=>rfl) scope.names [] h (fun x c hx=>nomatch hx);refine⟨cl,?_,e2,fun x hx=>e3 x (.inl hx)⟩
 have:closureFor scope env=(forIn scope.names [] (fun x cs=>match x with | (name,kind)=>if kind==.free then(do let a ← cellOf env name;pure (.yield ((name,a)::cs))) else pure (.yield cs)) >>= fun cs=>pure cs):=by
  simp only[closureFor]
 rw[this,e1];rfl
def Dv(scope:Scope)(cl:List (Str × Addr))(C:Addr)(env:Env):Env:=
 {newEnv scope C env.globals (cellsFrom (C+1) scope.names cl) env.qual none .none (some env) builtinsNs with scope:=relabel scope env}
theorem EW {M:Model} {A:Around} {E:Value->Shared->Prop} {s:Shared} {cl:List (Str × Addr)} {env:Env} {Q:Env->Shared->Prop}
  (hQ:Q (newEnv scope s.heap.objs.size env.globals (cellsFrom (s.heap.objs.size+1) scope.names cl) env.qual none .none (some env) builtinsNs) {s with heap:=pushCells (s.heap.push {cls:=.type "dict",data:=.dict #[]}) scope.names}):
  wpAny M A (newFunctionEnv scope env.globals cl [] env.qual none .none (some env)) Q E s:=by
 simp only[newFunctionEnv,Option.isSome_some,M8];refine MA (wpAny_alloc ?_);refine MA (wpAny_layCells _ (fun name kind cells=>by cases hkc:kind==NameKind.cell <;> simp[hkc]) _ _ _ _ ?_);rw[show({s with heap:=s.heap.push {cls:=.type "dict",data:=.dict #[]}}:Shared).heap.objs.size=s.heap.objs.size+1 from NH ..];refine MA ?_;rw[List.forIn_nil];exact MO (MO hQ)
section
variable{prog:Program}{w:World}{A:Around}{E:Value->Shared->Prop}{R:Result->Shared->Prop}{s:Shared}
theorem Dw {elt target iter:Expr} {ifs:List Expr} {scope:Scope} {pos:Pos} {it acc:Value} {env:Env} (I:Nat->Shared->Prop)
  (turn:∀ n s,I n s->wpAny (model prog w) A (pyNext it) (fun r s₁=>match r with
   | none=>R (.ok .next) s₁
   | some v=>wpAny (model prog w) A (letOwnedTupleGo target it v) (fun _ s₁'=>wpAny (model prog w) A (assign target env v) (fun _ s₂=>
     wpAny (model prog w) A (forIn ifs true fun c r=>if r=true then do let ok ← isTrue c env (eval c env);pure (ForInStep.yield ok) else pure (ForInStep.yield r)) (fun ok s₃=>
      if ok=true then wpAny (model prog w) A (eval elt env) (fun x s₄=>
       wpAny (model prog w) A (call (.builtin "list.append") [acc,x]) (fun _ s₅=>∃ m,m<n/\I m s₅) (notedBy (model prog w) A env fun e s'=>R (.error e) s') s₄) (notedBy (model prog w) A env fun e s'=>R (.error e) s') s₃
      else ∃ m,m<n/\I m s₃) (notedBy (model prog w) A env fun e s'=>R (.error e) s') s₂) (notedBy (model prog w) A env fun e s'=>R (.error e) s') s₁') (notedBy (model prog w) A env fun e s'=>R (.error e) s') s₁) (notedBy (model prog w) A env fun e s'=>R (.error e) s') s)
  (n:Nat) (h:I n s):
  codeAny (model prog w) A (.compLoop (.ListComp elt [⟨target,iter,ifs,0⟩] scope pos) 0 it acc env) R s:=by
 refine codeAny_loop rfl I (fun n s hI=>?_) n h;show wpAny _ A ((compTurn (.ListComp elt [⟨target,iter,ifs,0⟩] scope pos) 0 it acc env).onRaise (fun x=>do noteFrame x env;theTreesLotGoes x)) _ _ s;refine wpAny_noted ?_;rw[compTurn_list];refine MA (PK (MA (M2 (turn n s hI) (fun r s₁ h₁=>?_) fun _ _ h'=>h')))
 cases r with
 | none=>exact MO h₁
 | some v=>
  refine MA (M2 h₁ (fun _ s₁' h₁'=>?_) fun _ _ h'=>h');refine MA (M2 h₁' (fun _ s₂ h₂=>MA (M2 h₂ (fun ok s₃ h₃=>?_) fun _ _ h'=>h')) fun _ _ h'=>h')
  cases ok with
  | false=>exact MO ⟨rfl,h₃⟩
  | true=>
   exact MA (MA (M2 h₃ (fun x s₄ h₄=>MA (M2 h₄ (fun _ s₅ h₅=>MO (MO ⟨rfl,h₅⟩)) fun _ _ h'=>h')) fun _ _ h'=>h'))
end
variable{scope:Scope}
theorem lN{env:Env}{x:Str}{k:NameKind}(h:(relabel scope env).names.lookup x=some k):∃ k',scope.names.lookup x=some k'/\(k=k'\/(k'=.free/\k=.cell)):=by
 unfold relabel at h;dsimp only at h;generalize scope.names=names at h ⊢
 induction names with
 | nil=>cases h
 | cons p r ih=>
  obtain⟨n,k0⟩:=p;rw[MB] at h;rw[MR]
  cases hb:x==n with
  | true=>
   refine⟨k0,rfl,?_⟩;dsimp only at h
   split at h
   . rename_i hc
     rw[MR,hb] at h;cases h;simp only[LT,NE] at hc;exact .inr ⟨hc.1.1,rfl⟩
   . rw[MR,hb] at h;cases h;exact .inl rfl
  | false=>
   dsimp only at h;refine ih ?_
   split at h
   . rw[MR,hb] at h;exact h
   . rw[MR,hb] at h;exact h
def blkCx(X:Cx)(N:List Str)(scope:Scope)(cl:List (Str × Addr))(s:Shared)(H:Hp)(fp:List Addr):Cx where
 prog:=X.prog
 w:=X.w
 K:=X.K
 mg:=X.mg
 base:=X.base
 A:=X.A
 N:=N
 s₀:=s
 H₀:=H
 env:=Dv scope cl (s.heap.objs.size+1) X.env
 outer:=X.stack
 stack:=X.stack
 ex:=fp
 fn:=fun x=>scope.names.lookup x==some .cell
 calm:=X.calm
 pn:=[]
 xe:=fun e₀ s₁=>(∃(LB:List (Addr × Obj)) (σ:St),Inv X LB σ H s/\∀ b∈fp,FpOk X LB H b)->notedBy (model X.prog X.w) X.A (Dv scope cl (s.heap.objs.size+1) X.env) (fun x s'=>∃ m,s'.heap.Ns (s.heap.objs.size+1) m/\∀ h',Heap.SameBut (s.heap.objs.size+1) s'.heap h'->∀ cenv:Env,cenv.locals=s.heap.objs.size+1->
  wpAny (model X.prog X.w) X.A (passOn "comprehension.variables-let-go" x cenv:Sem Value) (fun _ _=>False) X.xe {s' with heap:=h'}) e₀ s₁
def subσ(ix:List (Option Nat))(σ:St):St:=ix.map fun o=>match o with | none=>none | some i=>match σ[i]? with | some v=>v | none=>none
structure BlkOk(X:Cx)(N:List Str)(ix:List (Option Nat))(scope:Scope):Prop where
 kind:scope.kind=.function
 nd:N.Nodup
 len:ix.length=N.length
 names:(scope.names.map (·.1)).Nodup
 free:∀ x,(x,NameKind.free)∈scope.names->X.env.kindOf x=some .cell\/X.env.kindOf x=some .free
 at_:∀(j i:Nat) (x:Str),N[j]? =some x->ix[j]? =some (some i)->X.N[i]? =some x/\(x,NameKind.free)∈scope.names
theorem d9{α:Type}:∀{l:List (Str × α)} {x:Str} {k:α},(l.map (·.1)).Nodup->(x,k)∈l->l.lookup x=some k
 | (y,k0)::r,x,k,nd,h=>by
  rw[MB,MX] at nd;rw[MR];rcases L6.mp h with e | e
  . cases e;simp
  . have:x≠y:=by
     rintro rfl;exact nd.1 (L1.mpr ⟨(x,k),e,rfl⟩)
    have hb:(x==y)=false:=by simpa using this
    rw[hb];exact d9 nd.2 e
theorem Dx {X:Cx} {LB:List (Addr × Obj)} {σ:St} {H:Hp} {s:Shared} {N:List Str} {ix:List (Option Nat)} {cl:List (Str × Addr)} {fp:List Addr} (B:BlkOk X N ix scope)
  (I:Inv X LB σ H s) (hcl:∀ x c,cl.lookup x=some c->X.env.cells.lookup x=some c) (hcf:∀ x,(x,NameKind.free)∈scope.names->∃ c,cl.lookup x=some c)
  (hfp:∀ b∈fp,FpOk X LB H b) (hob:∀ b∈fp,∃ o,s.heap.get? b=some o/\∀ v,o.data≠.cell v):
  Inv (blkCx X N scope cl s H fp) [] (subσ ix σ) (upd H s.heap.objs.size (.lst []))
   {s with heap:=pushCells ((s.heap.push {cls:=.type "list",data:=.seq #[]}).push {cls:=.type "dict",data:=.dict #[]}) scope.names}:=by
 have hs2:(s.heap.push {cls:=.type "list",data:=.seq #[]}).objs.size=s.heap.objs.size+1:=NH ..;have hs3:((s.heap.push {cls:=.type "list",data:=.seq #[]}).push {cls:=.type "dict",data:=.dict #[]}).objs.size=s.heap.objs.size+2:=by rw[NH,hs2]
 have hk:∀ b o,s.heap.get? b=some o->(pushCells ((s.heap.push {cls:=.type "list",data:=.seq #[]}).push {cls:=.type "dict",data:=.dict #[]}) scope.names).get? b=some o:=
  fun b o e=>OH _ _ b o (Mh _ (Mh _ e))
 have hl:(pushCells ((s.heap.push {cls:=.type "list",data:=.seq #[]}).push {cls:=.type "dict",data:=.dict #[]}) scope.names).get? s.heap.objs.size=some {cls:=.type "list",data:=.seq #[]}:=
  OH _ _ _ _ (Mh _ (MH _ rfl))
 have ok0:=cellsFrom_ok scope.names ((s.heap.push {cls:=.type "list",data:=.seq #[]}).push {cls:=.type "dict",data:=.dict #[]}) (s.heap.objs.size+2) [] ⟨fun _ _ hm=>(nomatch hm),List.Pairwise.nil⟩ (by rw[hs3];exact Mj _);rw[hs3] at ok0
 have hcells:(blkCx X N scope cl s H fp).env.cells=cellsFrom (s.heap.objs.size+2) scope.names []++cl:=by
  show cellsFrom (s.heap.objs.size+1+1) scope.names cl=_;rw[← List.nil_append cl,kK];simp
 have cases_:∀ x c,(blkCx X N scope cl s H fp).env.cells.lookup x=some c->((x,c)∈cellsFrom (s.heap.objs.size+2) scope.names []/\(x,NameKind.cell)∈scope.names)\/((cellsFrom (s.heap.objs.size+2) scope.names []).lookup x=none/\cl.lookup x=some c):=fun x c e=>by
  rw[hcells,cu] at e
  cases q:(cellsFrom (s.heap.objs.size+2) scope.names []).lookup x with
  | none=>rw[q] at e;exact .inr ⟨rfl,e⟩
  | some c'=>
   rw[q] at e;cases e;have m:=M1 q;refine .inl ⟨m,?_⟩;rcases gZ _ _ _ m with z | z
   . exact z
   . exact nomatch z
 have oldc:∀ x c,cl.lookup x=some c->c<s.heap.objs.size:=fun x c e=>by
  obtain⟨v,q⟩:=I.cell x c (hcl x c e);exact q.lt
 have hfree:H s.heap.objs.size=none:=I.hok.fresh (Mj _)
 have hfix:∀ b,s.heap.objs.size<b->(upd H s.heap.objs.size (.lst [])) b=none:=fun b hb=>by
  rw[ak (OQ hb)];exact I.hok.fresh (MK hb)
 have hlt:∀ b∈fp,b<s.heap.objs.size:=fun b hb=>by
  obtain⟨o,e,_⟩:=hob b hb;exact Mm e
 have e0:=I.env0;have isnew:∀ x c,(x,c)∈cellsFrom (s.heap.objs.size+2) scope.names []->s.heap.objs.size+2<=c:=fun x c m=>(ok0.empty x c m).2
 refine⟨⟨I.ok.mod,B.kind,I.ok.glob,I.ok.blt,OD _,fun x y c e1 e2=>?_,fun x hx=>?_,fun x c hx e=>?_,I.ok.hd,I.ok.frames,.inl rfl,fun b hb=>⟨?_,fun x c e=>?_⟩,e0.bs,e0.bsz,fun b o e hb=>?_,fun b hb hb2=>?_,e0.funs,e0.frf⟩,
  rfl,I.bare,Un.laid hk (Mj _) hfree,⟨fun _=>none,?_,fun j x v e1 e2 e3=>?_⟩,fun x c e=>?_,hfix _ (Os _),fun x c e=>?_,fun p hp=>absurd (show p∈([]:List (Addr × Obj)) from hp) (by simp),?_,?_⟩
 . rcases cases_ x c e1 with ⟨m1,k1⟩ | ⟨n1,q1⟩ <;> rcases cases_ y c e2 with ⟨m2,k2⟩ | ⟨n2,q2⟩
   . exact name_of_addr ok0.apart m1 m2
   . exact absurd (Mw (oldc _ _ q2) (L8 (Ov _ _) (isnew _ _ m1))) (Nt _)
   . exact absurd (Mw (oldc _ _ q1) (L8 (Ov _ _) (isnew _ _ m2))) (Nt _)
   . exact I.ok.inj x y c (hcl _ _ q1) (hcl _ _ q2)
 . have hx':(relabel scope X.env).names.lookup x=some .cell\/(relabel scope X.env).names.lookup x=some .free:=hx
   have key:scope.names.lookup x=some .cell\/scope.names.lookup x=some .free:=by
    rcases hx' with z | z
    . obtain⟨k',e,r | r⟩:=lN z
      . rw[← r] at e;exact .inl e
      . rw[r.1] at e;exact .inr e
    . obtain⟨k',e,r | r⟩:=lN z
      . rw[← r] at e;exact .inr e
      . cases r.2
   rw[hcells];rcases key with z | z
   . obtain⟨c,q⟩:=pG (n:=s.heap.objs.size+2) z;exact⟨c,by rw[cu,q]⟩
   . obtain⟨c,q⟩:=hcf x (M1 z)
     cases q2:(cellsFrom (s.heap.objs.size+2) scope.names []).lookup x with
     | none=>exact⟨c,by rw[cu,q2];exact q⟩
     | some c'=>exact⟨c',by rw[cu,q2]⟩
 . have hx':scope.names.lookup x=some .cell:=by simpa [blkCx] using hx
   rcases cases_ x c e with ⟨m1,k1⟩ | ⟨n1,q1⟩
   . exact L8 (Ov _ _) (isnew _ _ m1)
   . obtain⟨c',q⟩:=pG (n:=s.heap.objs.size+2) hx';rw[q] at n1;cases n1
 . exact ML (Np (hlt b hb))
 . rcases cases_ x c e with ⟨m1,k1⟩ | ⟨n1,q1⟩
   . exact OQ (Mw (hlt b hb) (L8 (Ov _ _) (isnew _ _ m1)))
   . exact(hfp b hb).2.2.2.2.1 x c (hcl _ _ q1)
 . rcases(hfp b hb).2.2.2.1 with z | z
   . exact I.ok.noex b o e z
   . exact absurd (Mw (Mm e) (L8 I.ok.bsz z)) (Nt _)
 . rcases L6.mp (I.stkSub b hb2) with z | z
   . exact(hfp b hb).2.1 z
   . exact(hfp b hb).2.2.1 z
 . show Heap.Ns _ (s.heap.objs.size+1) _;rw[← hs2];exact(Heap.Ns.new _ (.type "dict")).keeps (OH _ _)
 .
   unfold subσ at e2;rw[LW] at e2
   cases q:ix[j]? with
   | none=>rw[q] at e2;cases e2
   | some o=>
    rw[q] at e2
    cases o with
    | none=>cases e2
    | some i=>
     simp only[Option.map_some,Option.some.injEq] at e2;obtain⟨hN,hm⟩:=B.at_ j i x e1 q
     have hσ:σ[i]? =some (some v):=by
      cases q2:σ[i]? with
      | none=>rw[q2] at e2;cases e2
      | some z=>rw[q2] at e2;exact congrArg some e2
     obtain⟨m,hn,hl'⟩:=I.loc;have hkind:=B.free x hm;have hvis:Vis X.env.scope x:=hkind.elim (fun z=>.inr (.inl z)) fun z=>.inr (.inr z);obtain⟨u,ru,lk⟩:=hl' i x v hN hσ hvis;refine⟨u,ru,?_⟩;obtain⟨c,hc⟩:=hcf x hm
     have hnone:(cellsFrom (s.heap.objs.size+2) scope.names []).lookup x=none:=by
      cases q2:(cellsFrom (s.heap.objs.size+2) scope.names []).lookup x with
      | none=>rfl
      | some c'=>
       rcases gZ _ _ _ (M1 q2) with z | z
       . have a1:=d9 B.names z;have a2:=d9 B.names hm;rw[a1] at a2;cases a2
       . exact nomatch z
     have hcell:(blkCx X N scope cl s H fp).env.cells.lookup x=some c:=by rw[hcells,cu,hnone];exact hc
     have hkk:(blkCx X N scope cl s H fp).env.kindOf x=some .cell\/(blkCx X N scope cl s H fp).env.kindOf x=some .free:=by
      rcases e3 with z | z | z
      . obtain⟨k',e,r | r⟩:=lN (show(relabel scope X.env).names.lookup x=some .local from z)
        . rw[d9 B.names hm] at e;cases e;cases r
        . cases r.2
      . exact .inl z
      . exact .inr z
     refine .inr ⟨hkk,c,hcell,?_⟩;rcases lk with ⟨k1,_⟩ | ⟨_,c2,e4,z⟩
     . rcases hkind with z | z <;> rw[k1] at z <;> cases z
     . rw[hcl x c hc] at e4;cases e4;exact z.keeps hk
 . rcases cases_ x c e with ⟨m1,k1⟩ | ⟨n1,q1⟩
   . exact⟨none,(ok0.empty x c m1).1⟩
   . obtain⟨v,z⟩:=I.cell x c (hcl _ _ q1);exact⟨v,z.keeps hk⟩
 . rcases cases_ x c e with ⟨m1,k1⟩ | ⟨n1,q1⟩
   . exact hfix c (Mw (Nat.lt_add_of_pos_right (by decide)) (isnew _ _ m1))
   . rw[ak (ML (oldc _ _ q1))];exact I.freeC x c (hcl _ _ q1)
 . exact I.hok.laid hk (Mj _) ⟨MV _,[],0,.nil,hl⟩
 . show(subσ ix σ).length=N.length;unfold subσ;rw[LM];exact B.len
def PTs(X:Cx)(ifs:List Expr)(t:TT):Prop:=
 ∀(LB:List (Addr × Obj)) (s:Shared) (σ:St) (H:Hp) (Q:Bool->Hp->Prop),Inv X LB σ H s->t σ H Q->
  wpAny (model X.prog X.w) X.A (forIn ifs true fun c r=>if r=true then do let ok ← isTrue c X.env (eval c X.env);pure (ForInStep.yield ok) else pure (ForInStep.yield r)) (TP X LB σ Q) X.xe s
def tTrue:TT:=fun _ H Q=>Q true H
theorem aW{X:Cx}:PTs X [] tTrue:=fun _ _ _ H _ I h=>wpAny_tests_nil ⟨H,I,h⟩
theorem ba{X:Cx}{c:Expr}{t:TT}(h:PT X c t):PTs X [c] t:=fun LB s σ H Q I q=>wpAny_tests_one (h LB s σ H Q I q)
def zH(ix:List (Option Nat))(wi:TI)(g:TG)(tt:TT)(te:TE)(fin:Addr->Hp->Prop):St->Hp->Prop:=fun σ H=>wi σ H fun J H1=>∀ l,H1 l=none->
 ∃ W:Nat->Nat->St->Hp->Prop,(∃ m,W 0 m (subσ ix σ) (upd H1 l (.lst [])))/\∀ i m σ' H',W i m σ' H'->
  (J.stop i H'/\fin l H')\/(J.go i H'/\∃ N:St->Hp->Prop,(∀ σ'' H'',N σ'' H''->∃ m',m'<m/\W (i+1) m' σ'' H'')/\∀ x H2,J.yld i H' x H2->g x σ' H2 fun σ2 H3=>tt σ2 H3 fun b H4=>
   if b=true then te σ2 H4 fun y H5=>∃ ys,H5 l=some (.lst ys)/\ys.length<sizeLine/\N σ2 (upd H5 l (.lst (ys++[y]))) else N σ2 H4)
section
variable{X:Cx}{LB:List (Addr × Obj)}{σ σ':St}{H H':Hp}{s s':Shared}{N:List Str}{scope:Scope}{cl:List (Str × Addr)}{fp:List Addr}
theorem BK{h':Heap}(I:Inv X LB σ H s)(J:Inv (blkCx X N scope cl s H fp) [] σ' H' s')(hfp:∀ b∈fp,FpOk X LB H b)(sb:Heap.SameBut (s.heap.objs.size+1) s'.heap h'):Inv X LB σ H' {s' with heap:=h'}:=by
 have u:Un (frs X.stack) fp H H' s.heap s'.heap:=J.base;have hC:H' (s.heap.objs.size+1)=none:=J.free;have ne:∀ b o,s.heap.get? b=some o->b≠s.heap.objs.size+1:=fun b o e=>ML (Np (Mm e));refine I.call' (s':={s' with heap:=h'}) (ch:=fp) J.os ⟨fun b o e n hb hx=>?_,fun b o e n hb hx=>?_,u.free,fun b o e hx=>?_,u.tups,u.frzs,u.tbls⟩ (fun b ob e=>?_) J.bare fun b hb=>?_
 . exact(sb.2 b (ne b o e)).trans (u.keep b o e n hb hx)
 . obtain⟨sl,q⟩:=u.slot b o e n hb hx;exact⟨sl,(sb.2 b (ne b o e)).trans q⟩
 . obtain⟨o',q⟩:=u.there b o e hx;exact⟨o',(sb.2 b (ne b o e)).trans q⟩
 . refine(J.hok b ob e).stay (fun c w' hc q=>(sb.2 c ?_).trans q) (fun _ q=>q) fun _ _ q=>q;rintro rfl;rcases hc with rfl | hc
   . rw[hC] at e;cases e
   . rw[hC] at hc;cases hc
 . obtain⟨f0,f1,f2,f3,f4,f5⟩:=hfp b hb;exact⟨f3,f1,f4,f5⟩
theorem zI {tg iter elt:Expr} {ifs:List Expr} {pos:Pos} {ix:List (Option Nat)} {wi:TI} {g:TG} {tt:TT} {te:TE} {fin:Addr->Hp->Prop} {RR:Value->Addr->Result->Shared->Prop} (B:BlkOk X N ix scope) (hc:X.calm=true)
  (hi:PI X tg iter wi) (hg:∀ cl s H fp,PG (blkCx X N scope cl s H fp) tg g) (ht:∀ cl s H fp,PTs (blkCx X N scope cl s H fp) ifs tt) (he:∀ cl s H fp,PE (blkCx X N scope cl s H fp) elt te)
  (hcl:∀ x c,cl.lookup x=some c->X.env.cells.lookup x=some c) (hcf:∀ x,(x,NameKind.free)∈scope.names->∃ c,cl.lookup x=some c)
  (I:Inv X LB σ H s) (h:zH ix wi g tt te fin σ H)
  (ok:∀(s2:Shared) (H2:Hp) (fp:List Addr) (σ3:St) (H3:Hp) (s3:Shared),Inv X LB σ H2 s2->(∀ b∈fp,FpOk X LB H2 b)->Inv (blkCx X N scope cl s2 H2 fp) [] σ3 H3 s3->fin s2.heap.objs.size H3->RR (.ref s2.heap.objs.size) (s2.heap.objs.size+1) (.ok .next) s3)
  (bad:∀(a C:Addr) (x:Value) (s':Shared),(∃ m,s'.heap.Ns C m/\∀ h',Heap.SameBut C s'.heap h'->∀ cenv:Env,cenv.locals=C->wpAny (model X.prog X.w) X.A (passOn "comprehension.variables-let-go" x cenv:Sem Value) (fun _ _=>False) X.xe {s' with heap:=h'})->RR (.ref a) C (.error x) s'):
  wpAny (model X.prog X.w) X.A (eval iter X.env) (fun x s₁=>wpAny (model X.prog X.w) X.A (pyIter x) (fun it s₂=>wpAny (model X.prog X.w) X.A (newList []) (fun acc s₃=>
   wpAny (model X.prog X.w) X.A (newFunctionEnv scope X.env.globals cl [] X.env.qual none .none (some X.env)) (fun cenv s₄=>
    codeAny (model X.prog X.w) X.A (.compStart (.ListComp elt [⟨tg,iter,ifs,0⟩] scope pos) 0 it acc {cenv with scope:=relabel scope X.env}) (RR acc cenv.locals) s₄) X.xe s₃) X.xe s₂) X.xe s₁) X.xe s:=by
 refine thn (hi LB s σ H _ I h) fun v s1 h1=>thn h1 fun itv s2 h2=>?_;obtain⟨it,fp,tn,J,H2,e,I2,T,st2,f2,h2⟩:=h2;subst e;refine wpAny_newList (EW ?_) (MV _);have hs2:(s2.heap.push {cls:=.type "list",data:=.seq (([]:List Value)).toArray}).objs.size=s2.heap.objs.size+1:=NH ..;dsimp only;rw[hs2];have I3:=Dx (fp:=fp) B I2 hcl hcf f2 (T.obj _ _ st2);obtain⟨W,⟨m0,w0⟩,turn⟩:=h2 s2.heap.objs.size I2.fresh
 have hk:∀ b o,s2.heap.get? b=some o->(pushCells ((s2.heap.push {cls:=.type "list",data:=.seq #[]}).push {cls:=.type "dict",data:=.dict #[]}) scope.names).get? b=some o:=
  fun b o e=>OH _ _ b o (Mh _ (Mh _ e))
 have st3:=T.keep _ _ _ st2 fun b _ o e=>hk b o e
 have fr3:∀ b∈fp,(upd H2 s2.heap.objs.size (.lst [])) b=none:=fun b hb=>by
  obtain⟨o,e,_⟩:=T.obj _ _ st2 b hb;rw[ak (ML (Mm e))];exact(f2 b hb).1
 have stat:∀{σ5:St} {H5:Hp} {s5:Shared},Inv (blkCx X N scope cl s2 H2 fp) [] σ5 H5 s5->(∀ b∈fp,H5 b=none)->∀ b∈fp,FpOk (blkCx X N scope cl s2 H2 fp) [] H5 b:=fun I5 hn b hb=>
  ⟨hn b hb,(I5.ok.exf b hb).1,I5.ok.exfs b hb,.inl hb,(I5.ok.exf b hb).2,fun p hp=>absurd (show p∈([]:List (Addr × Obj)) from hp) (by simp)⟩
 have loop:∀ s₃:Shared,s₃={s2 with heap:=pushCells ((s2.heap.push {cls:=.type "list",data:=.seq #[]}).push {cls:=.type "dict",data:=.dict #[]}) scope.names}->
   codeAny (model X.prog X.w) X.A (.compLoop (.ListComp elt [⟨tg,iter,ifs,0⟩] scope pos) 0 (.ref it) (.ref s2.heap.objs.size) (blkCx X N scope cl s2 H2 fp).env) (RR (.ref s2.heap.objs.size) (s2.heap.objs.size+1)) s₃:=by
  rintro s₃ rfl;refine Dw (fun n s'=>∃ i σ' H',Inv (blkCx X N scope cl s2 H2 fp) [] σ' H' s'/\tn i s'.heap/\(∀ b∈fp,H' b=none)/\W i n σ' H') ?_ m0 ⟨0,_,_,I3,st3,fr3,w0⟩;rintro n s4 ⟨i,σ4,H4,I4,st4,fr4,w4⟩
  have xe_:∀ x s',(blkCx X N scope cl s2 H2 fp).xe x s'->notedBy (model X.prog X.w) X.A (blkCx X N scope cl s2 H2 fp).env (fun e s'=>RR (.ref s2.heap.objs.size) (s2.heap.objs.size+1) (.error e) s') x s':=fun x s' hx=>
   M2 (hx ⟨LB,σ,I2,f2⟩) (fun _ s'' q=>bad _ _ _ _ q) fun e s'' q=>bad _ _ _ _ q
  rcases turn i n σ4 H4 w4 with ⟨stop,qn⟩ | ⟨go,Nx,hN,step⟩
  . refine M2 (T.done (blkCx X N scope cl s2 H2 fp) rfl rfl rfl hc i [] s4 σ4 H4 _ I4 (stat I4 fr4) st4 stop) (fun r s5 ⟨hr,I5⟩=>?_) xe_;subst hr;exact ok s2 H2 fp σ4 H4 s5 I2 f2 I5 qn
  . refine M2 (T.item (blkCx X N scope cl s2 H2 fp) rfl rfl rfl hc i [] s4 σ4 H4 _ I4 (stat I4 fr4) st4 go) (fun r s5 ⟨u,hr,h5⟩=>?_) xe_;subst hr;refine M2 h5 (fun _ s6 ⟨x,H6,I6,r6,y6,st6,fr6⟩=>?_) xe_;have I6':=I6.pinned (stat I6 fr6) (T.obj _ _ st6);refine M2 (hg cl s2 H2 fp _ s6 σ4 H6 x u _ I6' r6 (step x H6 y6)) (fun _ s7 ⟨σ7,H7,I7,q7⟩=>?_) xe_
    have again:∀{σ8:St} {H8:Hp} {s8:Shared},Inv (blkCx X N scope cl s2 H2 fp) ([]++qK fp s6.heap) σ8 H8 s8->Nx σ8 H8->∃ m,m<n/\∃ i σ' H',Inv (blkCx X N scope cl s2 H2 fp) [] σ' H' s8/\tn i s8.heap/\(∀ b∈fp,H' b=none)/\W i m σ' H':=fun{σ8 H8 s8} I8 n8=>by
     obtain⟨m',hm,w8⟩:=hN σ8 H8 n8;refine⟨m',hm,i+1,σ8,H8,I8.unpinned,T.keep _ _ _ st6 fun b hb o e=>(I8.pin (b,o) (MP _ (MP _ (lw hb e)))).1,fun b hb=>?_,w8⟩;obtain⟨o,e,d⟩:=T.obj _ _ st6 b hb;exact(I8.pin (b,o) (MP _ (MP _ (lw hb e)))).2.1
    refine M2 (ht cl s2 H2 fp _ s7 σ7 H7 _ I7 q7) (fun okb s8 ⟨H8,I8,q8⟩=>?_) xe_
    cases okb with
    | false=>exact again I8 q8
    | true=>
     refine M2 (he cl s2 H2 fp _ s8 σ7 H8 _ I8 q8) (fun y s9 ⟨yv,H9,I9,r9,ys,hl,hz,q9⟩=>?_) xe_;refine M2 (ye (X:=blkCx X N scope cl s2 H2 fp) _ s9 σ7 H9 (.ref s2.heap.objs.size) [yv] (.ref s2.heap.objs.size) [y] (fun _ H10=>Nx σ7 H10) I9 rfl (.cons r9 .nil) ⟨_,ys,yv,rfl,rfl,hl,hz,q9⟩) (fun _ s10 ⟨_,H10,I10,_,q10⟩=>?_) xe_;exact again I10 q10
 exact codeAny_compStart_list (loop _ rfl) (T.self _ 0 _ _ _ st3 (loop _ rfl))
def tComp(ix:List (Option Nat))(wi:TI)(g:TG)(tt:TT)(te:TE):TE:=fun σ H Q=>zH ix wi g tt te (fun l H'=>Q (.ref l) H') σ H
def sComp(k:Nat)(ix:List (Option Nat))(wi:TI)(g:TG)(tt:TT)(te:TE):TS:=fun D σ H=>zH ix wi g tt te (fun l H'=>D.nx (σ.set k (some (.ref l))) H') σ H
theorem BL(I:Inv X LB σ H s){ix:List (Option Nat)}(B:BlkOk X N ix scope):∃ cl,closureFor scope X.env=pure cl/\(∀ x c,cl.lookup x=some c->X.env.cells.lookup x=some c)/\∀ x,(x,NameKind.free)∈scope.names->∃ c,cl.lookup x=some c:=
 Ck fun x hx=>I.ok.has x (B.free x hx)
theorem tQ{ix:List (Option Nat)}(B:BlkOk X N ix scope):∀ x∈scope.names,x.2=NameKind.local->scope.names.lookup x.1=some .local:=fun x hx e=>by
 obtain⟨n,k⟩:=x;cases e;exact d9 B.names hx
theorem aJ {tg iter elt:Expr} {ifs:List Expr} {pos:Pos} {ix:List (Option Nat)} {wi:TI} {g:TG} {tt:TT} {te:TE} (N:List Str) (B:BlkOk X N ix scope) (hc:X.calm=true)
  (hi:PI X tg iter wi) (hg:∀ cl s H fp,PG (blkCx X N scope cl s H fp) tg g) (ht:∀ cl s H fp,PTs (blkCx X N scope cl s H fp) ifs tt) (he:∀ cl s H fp,PE (blkCx X N scope cl s H fp) elt te)
  (hs:∀ x,foldedSetIterable iter X.env x=pure x:=by intro _;rfl):PE X (.ListComp elt [⟨tg,iter,ifs,0⟩] scope pos) (tComp ix wi g tt te):=by
 intro LB s σ H Q I h;obtain⟨cl,e1,e2,e3⟩:=BL I B;rw[eval_ListComp];refine Pd (use:=none) rfl hs e1 B.kind (tQ B) ?_;refine zI (RR:=fun acc C=>compPost (model X.prog X.w) X.A X.xe none (EP X LB σ Q) acc C) B hc hi hg ht he e2 e3 I h (fun s2 H2 fp σ3 H3 s3 I2 f2 J q=>?_) (fun a C x s' q=>q);obtain⟨m,hn,_⟩:=J.loc;exact⟨m,hn,fun h' sb=>⟨.ref _,H3,BK I2 J f2 sb,rfl,q⟩⟩
theorem j2 {y:Str} {py spos:Pos} {k:Nat} {tg iter elt:Expr} {ifs:List Expr} {pos:Pos} {ix:List (Option Nat)} {wi:TI} {g:TG} {tt:TT} {te:TE} (hN:X.N.Nodup) (hy:X.N[k]? =some y) (hx:Loc X.env.scope y)
  (hsw:swapsWith (.ListComp elt [⟨tg,iter,ifs,0⟩] scope pos) (some (.Name y py)) spos.line X.env=pure true) (N:List Str) (B:BlkOk X N ix scope) (hc:X.calm=true)
  (hi:PI X tg iter wi) (hg:∀ cl s H fp,PG (blkCx X N scope cl s H fp) tg g) (ht:∀ cl s H fp,PTs (blkCx X N scope cl s H fp) ifs tt) (he:∀ cl s H fp,PE (blkCx X N scope cl s H fp) elt te)
  (hs:∀ x,foldedSetIterable iter X.env x=pure x:=by intro _;rfl) (hf:X.fn y=true\/X.env.scope.names.lookup y=some .local:=by first | exact .inl rfl | exact .inr rfl | assumption):
  PS X (.Assign [.Name y py] (.ListComp elt [⟨tg,iter,ifs,0⟩] scope pos) spos) (sComp k ix wi g tt te):=by
 intro LB s σ H D I h;obtain⟨cl,e1,e2,e3⟩:=BL I B;rw[exec_Assign_Name_used _ _ _ _ hsw];refine MA (PK (MA ?_));show wpAny _ X.A (do let _ ← comprehension (.ListComp elt [⟨tg,iter,ifs,0⟩] scope pos) scope X.env _ (newList []) false (eval iter X.env) (some (assign (.Name y py) X.env))) _ _ s;refine MA (M2 (Pd (use:=some (assign (.Name y py) X.env)) (Q:=fun _ s'=>SP X LB D .next s') rfl hs e1 B.kind (tQ B) ?_) (fun _ s' hq=>MO (MO hq)) fun _ _ e=>e);refine zI (RR:=fun acc C=>compPost (model X.prog X.w) X.A X.xe (some (assign (.Name y py) X.env)) (fun _ s'=>SP X LB D .next s') acc C) B hc hi hg ht he e2 e3 I h (fun s2 H2 fp σ3 H3 s3 I2 f2 J q=>?_) (fun a C x s' q=>q);obtain⟨m,hn,_⟩:=J.loc;have I3:Inv X LB σ H3 {s3 with heap:=s3.heap}:=BK I2 J f2 (Heap.SameBut.refl _ _);show wpAny _ X.A (assign (.Name y py) X.env (.ref _)) _ _ _;refine wpAny_assign_Name (xX (v:=.ref _) I3 hN hy hx rfl (fun s4 I4 ⟨a,sb4,ha⟩=>?_) hf)
 have hlt:a<s2.heap.objs.size:=by
  rcases ha with rfl | ha
  . exact I2.lt
  . obtain⟨v,z⟩:=I2.cell _ _ ha;exact z.lt
 have hCa:s2.heap.objs.size+1≠a:=OQ (Np hlt);refine⟨m,hn.sameBut sb4 hCa,fun h' sb=>?_⟩;refine⟨_,H3,I4.turned (t':=s4.toks) (it:=s2.heap.objs.size+1) (fun b o hb e=>(sb.2 b hb).trans e) J.free (OQ (Np I2.lt)) (.inr (L8 I2.sz (OD _))) (fun x c e=>?_) (fun p hp=>?_),q⟩
 . obtain⟨v,z⟩:=I2.cell x c e;exact ML (Np z.lt)
 . exact ML (Np (Mm (I2.pin p hp).1))
end
def bnd{α:Type}:Option α->(α->Prop)->Prop
 | some a,k=>k a
 | none,_=>False
theorem aZ{α:Type}{o:Option α}{a:α}{k:α->Prop}(h:o=some a)(q:k a):bnd o k:=by subst h;exact q
theorem a8{α:Type}{o:Option α}{k:α->Prop}(h:bnd o k):∃ a,o=some a/\k a:=by
 cases o with
 | none=>exact h.elim
 | some a=>exact⟨a,rfl,h⟩
theorem bC{α:Type}{a:α}{k:α->Prop}:bnd (some a) k=k a:=rfl
def unM:Option HO->Option (List V)
 | some (.lst xs)=>some xs
 | _=>none
def unL:Option HO->Option (List V)
 | some (.lst xs)=>some xs
 | some (.frz _ (.lst xs))=>some xs
 | _=>none
def unS:Option HO->Option (List V)
 | some (.lst xs)=>some xs
 | some (.frz _ (.lst xs))=>some xs
 | some (.tup xs)=>some xs
 | _=>none
variable{o:Option HO}{xs:List V}
theorem gN(h:unM o=some xs):o=some (.lst xs):=by
 unfold unM at h;split at h
 . cases h;rfl
 . cases h
theorem qR{K:Frag}{H:Hp}{p:Addr}(h:unL (H p)=some xs):SqL K H p xs:=by
 unfold unL at h;split at h
 . rename_i e;cases h;exact .inl (.inl e)
 . rename_i o _ e;cases h;exact .inl (.inr ⟨_,e⟩)
 . cases h
theorem oy{K:Frag}{H:Hp}{p:Addr}(h:unS (H p)=some xs):SqL K H p xs\/SqT K H p xs:=by
 unfold unS at h;split at h
 . rename_i e;cases h;exact .inl (.inl (.inl e))
 . rename_i o _ e;cases h;exact .inl (.inl (.inr ⟨_,e⟩))
 . rename_i e;cases h;exact .inr (.inl (.inl e))
 . cases h
mutual
inductive DV(K:Frag)(H:Hp):V->PyData->Prop
 | non:DV K H .non .none
 | bl (b:Bool):DV K H (.bl b) (.bool b)
 | int (i:Int):DV K H (.int i) (.int i)
 | str (x:Str):DV K H (.str x) (.str x)
 | lst {a:Addr} {xs:List V} {ds:List PyData}:SqL K H a xs->DVs K H xs ds->DV K H (.ref a) (.list ds)
 | tup {a:Addr} {xs:List V} {ds:List PyData}:SqT K H a xs->DVs K H xs ds->DV K H (.ref a) (.tuple ds)
inductive DVs(K:Frag)(H:Hp):List V->List PyData->Prop
 | nil:DVs K H [] []
 | cons {x:V} {d:PyData} {xs:List V} {ds:List PyData}:DV K H x d->DVs K H xs ds->DVs K H (x::xs) (d::ds)
end
section
variable{X:Cx}{LB:List (Addr × Obj)}{σ:St}{H:Hp}{s:Shared}
mutual
theorem DV.reads(I:Inv X LB σ H s):∀{x:V} {d:PyData} {v:Value},DV X.K H x d->RelV x v->∃ as,Reads s.heap v d as
 | _,_,_,.non,r=>by cases r;exact⟨_,.none⟩
 | _,_,_,.bl b,r=>by cases r;exact⟨_,.bool b⟩
 | _,_,_,.int i,r=>by obtain⟨t,rfl⟩:=r;exact⟨_,.int i t⟩
 | _,_,_,.str x,r=>by obtain⟨t,rfl⟩:=r;exact⟨_,.str x t⟩
 | _,_,_,.lst (a:=a) h hs,r=>by
  cases r;obtain⟨LF,rv,p,_⟩:=I.list h;obtain⟨as,q⟩:=DVs.reads I hs rv;obtain⟨o,h1,h2,n,h3⟩:=p.isList;exact⟨_,.list h1 h2 h3 q⟩
 | _,_,_,.tup (a:=a) h hs,r=>by
  cases r;obtain⟨LF,rv,p,_⟩:=I.tuple h;obtain⟨as,q⟩:=DVs.reads I hs rv;obtain⟨o,h1,h2,n,h3⟩:=p;exact⟨_,.tuple h1 h2 h3 q⟩
theorem DVs.reads(I:Inv X LB σ H s):∀{xs:List V} {ds:List PyData} {us:List Value},DVs X.K H xs ds->Vals xs us->∃ as,ReadsAll s.heap us ds as
 | _,_,_,.nil,.nil=>⟨_,.nil⟩
 | _,_,_,.cons h hs,.cons r rs=>by
  obtain⟨as,q⟩:=DV.reads I h r;obtain⟨bs,q2⟩:=DVs.reads I hs rs;exact⟨_,.cons q q2⟩
end
end
theorem DVs.ints{K:Frag}{H:Hp}:∀ ns:List Int,DVs K H (ns.map V.int) (ns.map PyData.int)
 | []=>.nil
 | n::r=>.cons (.int n) (DVs.ints r)
theorem uh:∀ ns ms:List Int,PyData.eqvAll (ns.map PyData.int) (ms.map PyData.int)=decide (ns=ms):=PySem.W.ked_eqvAll
theorem lO:∀ ns:List Int,PyData.canLayAll0 (ns.map PyData.int)=true
 | []=>rfl
 | n::r=>by rw[MB,PyData.canLayAll0,lO r];rfl
theorem iP:∀ ns:List Int,PyData.depthAll (ns.map PyData.int)=0
 | []=>rfl
 | n::r=>by rw[MB,PyData.depthAll,iP r];rfl
theorem kq(ns:List Int):SeqAt.shaped (.list (ns.map PyData.int))=true:=by
 simp[SeqAt.shaped,PyData.canLay0,lO,PyData.depth,iP]
def cAdd:R2
 | .int i,.int j,H,Q=>Q (.int (i+j)) H
 | .str i,.str j,H,Q=>i.length+j.length<=sizeLine/\Q (.str (i++j)) H
 | .ref l,.ref b,H,Q=>bnd (unM (H l)) fun xs=>bnd (unM (H b)) fun zs=>xs.length+zs.length<=sizeLine/\∀ p,H p=none->Q (.ref p) (upd H p (.lst (xs++zs)))
 | _,_,_,_=>False
def cSub:R2
 | .int i,.int j,H,Q=>Q (.int (i-j)) H
 | _,_,_,_=>False
def cMul:R2
 | .int i,.int j,H,Q=>CMul i j/\Q (.int (i*j)) H
 | _,_,_,_=>False
def cDiv:R2
 | .int i,.int j,H,Q=>CDiv i j/\Q (.int (i/j)) H
 | _,_,_,_=>False
def cMod:R2
 | .int i,.int j,H,Q=>0<j/\Q (.int (i%j)) H
 | _,_,_,_=>False
def cPow:R2
 | .int i,.int j,H,Q=>CPow i j/\Q (.int (i^j.toNat)) H
 | _,_,_,_=>False
def cCmp(g:Int->Int->Bool):R2
 | .int i,.int j,H,Q=>Q (.bl (g i j)) H
 | _,_,_,_=>False
def rEqD(K:Frag):R2:=fun x y H Q=>∃ d e,DV K H x d/\DV K H y e/\SeqAt.shaped d=true/\SeqAt.shaped e=true/\Q (.bl (PyData.eqv d e)) H
def rNeD(K:Frag):R2:=fun x y H Q=>∃ d e,DV K H x d/\DV K H y e/\SeqAt.shaped d=true/\SeqAt.shaped e=true/\Q (.bl (!PyData.eqv d e)) H
def cEq(K:Frag):R2
 | .int i,.int j,H,Q=>Q (.bl (decide (i=j))) H
 | .bl i,.bl j,H,Q=>Q (.bl (decide (i=j))) H
 | .str i,.str j,H,Q=>Q (.bl (decide (i=j))) H
 | x,y,H,Q=>rEqD K x y H Q
def cNe(K:Frag):R2
 | .int i,.int j,H,Q=>Q (.bl (!decide (i=j))) H
 | .bl i,.bl j,H,Q=>Q (.bl (!decide (i=j))) H
 | .str i,.str j,H,Q=>Q (.bl (!decide (i=j))) H
 | x,y,H,Q=>rNeD K x y H Q
def rInD(K:Frag)(neg:Bool):R2:=fun x y H Q=>∃ d ds,DV K H x d/\(DV K H y (.list ds)\/DV K H y (.tuple ds))/\PyData.canLayAll0 ds=true/\PyData.canLay0 d=true/\min (PyData.depthAll ds) d.depth<=62/\
 Q (.bl (if neg then !ds.any (fun y=>PyData.eqv y d) else ds.any fun y=>PyData.eqv y d)) H
def keyOf:V->Option Key
 | .int i=>some (.inl i)
 | .str x=>some (.inr x)
 | _=>none
def unD:Option HO->Option (List (Key × V))
 | some (.dK LE)=>some LE
 | _=>none
def cIn(K:Frag)(neg:Bool):R2
 | .ref a,y,H,Q=>rInD K neg (.ref a) y H Q
 | x,.ref p,H,Q=>(match unD (H p) with
  | some LE=>bnd (keyOf x) fun k=>Q (.bl (if neg then !(valV LE k).isSome else(valV LE k).isSome)) H
  | none=>bnd (unS (H p)) fun xs=>flatV x=true/\xs.all flatV=true/\Q (.bl (if neg then !inV x xs else inV x xs)) H)
 | .str i,.str j,H,Q=>Q (.bl (if neg then !(!(Builtin.Str.occurrences j i 0 j.length 1).isEmpty) else !(Builtin.Str.occurrences j i 0 j.length 1).isEmpty)) H
 | _,_,_,_=>False
def cIx:R2
 | .ref p,y,H,Q=>(match unD (H p) with
  | some LE=>bnd (keyOf y) fun k=>bnd (valV LE k) fun v=>Q v H
  | none=>match y with
   | .int i=>bnd (unS (H p)) fun xs=>bnd (atI xs i) fun v=>Q v H
   | _=>False)
 | .str z,.int i,H,Q=>z.length<=sizeLine/\bnd (atI z.cps.toList i) fun c=>Q (.str ⟨#[c]⟩) H
 | _,_,_,_=>False
theorem vd{LE:List (Key × V)}(h:unD o=some LE):o=some (.dK LE):=by
 unfold unD at h;split at h
 . cases h;rfl
 . cases h
theorem ui{x:V}{k:Key}(h:keyOf x=some k):x=kV k:=by
 unfold keyOf at h;split at h
 . cases h;rfl
 . cases h;rfl
 . cases h
section
variable{X:Cx}{a b c:Expr}{ta tb tc:TE}{pos:Pos}
theorem aH:OpR X (binaryOp .Add) cAdd:=by
 intro LB s σ H x y v u Q I rx ry h;unfold cAdd at h
 split at h
 . exact GM LB s σ H _ _ v u Q I rx ry ⟨_,_,rfl,rfl,h⟩
 . exact Ce LB s σ H _ _ v u Q I rx ry ⟨_,_,rfl,rfl,h.1,h.2⟩
 . obtain⟨xs,e1,h⟩:=a8 h;obtain⟨zs,e2,h⟩:=a8 h;exact GW LB s σ H _ _ v u Q I rx ry ⟨_,_,xs,zs,rfl,rfl,gN e1,gN e2,h.1,h.2⟩
 . exact h.elim
theorem b7:OpR X (binaryOp .Sub) cSub:=by
 intro LB s σ H x y v u Q I rx ry h;unfold cSub at h
 split at h
 . exact GN LB s σ H _ _ v u Q I rx ry ⟨_,_,rfl,rfl,h⟩
 . exact h.elim
theorem bw:OpR X (binaryOp .Mult) cMul:=by
 intro LB s σ H x y v u Q I rx ry h;unfold cMul at h
 split at h
 . exact GO LB s σ H _ _ v u Q I rx ry ⟨_,_,rfl,rfl,h.1,h.2⟩
 . exact h.elim
theorem bh:OpR X (binaryOp .FloorDiv) cDiv:=by
 intro LB s σ H x y v u Q I rx ry h;unfold cDiv at h
 split at h
 . exact FI LB s σ H _ _ v u Q I rx ry ⟨_,_,rfl,rfl,h.1,h.2⟩
 . exact h.elim
theorem aR:OpR X (binaryOp .Mod) cMod:=by
 intro LB s σ H x y v u Q I rx ry h;unfold cMod at h
 split at h
 . exact GP LB s σ H _ _ v u Q I rx ry ⟨_,_,rfl,rfl,h.1,h.2⟩
 . exact h.elim
theorem sR{op:CmpOp}{g:Int->Int->Bool}(o:OpR X (compareOp op) (rI0 fun i j=>.bl (g i j))):OpR X (compareOp op) (cCmp g):=by
 intro LB s σ H x y v u Q I rx ry h;unfold cCmp at h
 split at h
 . exact o LB s σ H _ _ v u Q I rx ry ⟨_,_,rfl,rfl,h⟩
 . exact h.elim
theorem cf:OpR X (compareOp .Lt) (cCmp fun i j=>decide (i<j)):=sR HQ
theorem gO:OpR X (compareOp .LtE) (cCmp fun i j=>decide (i<=j)):=sR HR
theorem fV:OpR X (compareOp .Gt) (cCmp fun i j=>decide (j<i)):=sR HS
theorem ve:OpR X (compareOp .GtE) (cCmp fun i j=>decide (j<=i)):=sR HU
theorem G0(hu:X.A.units+64<cLine):OpR X (compareOp .Eq) (rEqD X.K):=by
 intro LB s σ H x y v u Q I rx ry h;obtain⟨d,e,h1,h2,h3,h4,q⟩:=h;obtain⟨as,r1⟩:=h1.reads I rx;obtain⟨bs,r2⟩:=h2.reads I ry;exact eq_dataH r1 r2 h3 h4 hu ⟨.bl _,H,I,rfl,q⟩
theorem G1(hu:X.A.units+64<cLine):OpR X (compareOp .NotEq) (rNeD X.K):=by
 intro LB s σ H x y v u Q I rx ry h;obtain⟨d,e,h1,h2,h3,h4,q⟩:=h;obtain⟨as,r1⟩:=h1.reads I rx;obtain⟨bs,r2⟩:=h2.reads I ry;exact ne_dataH r1 r2 h3 h4 hu ⟨.bl _,H,I,rfl,q⟩
theorem aw(hu:X.A.units+64<cLine):OpR X (compareOp .Eq) (cEq X.K):=by
 intro LB s σ H x y v u Q I rx ry h;unfold cEq at h
 split at h
 . refine Cc LB s σ H _ _ v u Q I rx ry ⟨rfl,?_⟩
   simpa using h
 . refine Cc LB s σ H _ _ v u Q I rx ry ⟨rfl,?_⟩
   simpa using h
 . refine Cc LB s σ H _ _ v u Q I rx ry ⟨rfl,?_⟩
   simpa using h
 . exact G0 hu LB s σ H _ _ v u Q I rx ry h
theorem aT(hu:X.A.units+64<cLine):OpR X (compareOp .NotEq) (cNe X.K):=by
 intro LB s σ H x y v u Q I rx ry h;unfold cNe at h
 split at h
 . refine Cd LB s σ H _ _ v u Q I rx ry ⟨rfl,?_⟩
   simpa using h
 . refine Cd LB s σ H _ _ v u Q I rx ry ⟨rfl,?_⟩
   simpa using h
 . refine Cd LB s σ H _ _ v u Q I rx ry ⟨rfl,?_⟩
   simpa using h
 . exact G1 hu LB s σ H _ _ v u Q I rx ry h
theorem G2(hu:X.A.units+64<cLine):OpR X (compareOp .In) (rInD X.K false):=by
 intro LB s σ H x y v u Q I rx ry h;obtain⟨d,ds,h1,h2,h3,h4,h5,q⟩:=h;obtain⟨as,r1⟩:=h1.reads I rx;rcases h2 with h2 | h2
 . obtain⟨bs,r2⟩:=h2.reads I ry;exact SeqAt.in_list_reads r2 r1 h3 h4 (by omega) ⟨.bl _,H,I,rfl,q⟩
 . obtain⟨bs,r2⟩:=h2.reads I ry;exact SeqAt.in_tuple_reads r2 r1 h3 h4 (by omega) ⟨.bl _,H,I,rfl,q⟩
theorem Dy(hu:X.A.units+64<cLine):OpR X (compareOp .NotIn) (rInD X.K true):=by
 intro LB s σ H x y v u Q I rx ry h;obtain⟨d,ds,h1,h2,h3,h4,h5,q⟩:=h;obtain⟨as,r1⟩:=h1.reads I rx;rcases h2 with h2 | h2
 . obtain⟨bs,r2⟩:=h2.reads I ry;exact SeqAt.notIn_list_reads r2 r1 h3 h4 (by omega) ⟨.bl _,H,I,rfl,q⟩
 . obtain⟨bs,r2⟩:=h2.reads I ry;exact SeqAt.notIn_tuple_reads r2 r1 h3 h4 (by omega) ⟨.bl _,H,I,rfl,q⟩
theorem dE(hu:X.A.units+64<cLine):OpR X (compareOp .In) (cIn X.K false):=by
 intro LB s σ H x y v u Q I rx ry h;unfold cIn at h
 split at h
 . exact G2 hu LB s σ H _ _ v u Q I rx ry h
 . rename_i p hx
   split at h
   . rename_i LE e
     obtain⟨k,ek,q⟩:=a8 h;cases (show u=Value.ref p from ry);have g:DGet H p x (valV LE k):=by rw[ui ek];exact DGet.k (vd e)
     exact Iw (M3 (N4 (by decide:1<=64) _) hu) I g rx fun s' I'=>⟨.bl _,H,I',rfl,q⟩
   . obtain⟨xs,e,f1,f2,q⟩:=a8 h;exact mN LB s σ H _ _ v u Q I rx ry ⟨p,xs,rfl,oy e,f1,f2,q⟩
 . exact Di LB s σ H _ _ v u Q I rx ry ⟨_,_,rfl,rfl,h⟩
 . exact h.elim
theorem cj(hu:X.A.units+64<cLine):OpR X (compareOp .NotIn) (cIn X.K true):=by
 intro LB s σ H x y v u Q I rx ry h;unfold cIn at h
 split at h
 . exact Dy hu LB s σ H _ _ v u Q I rx ry h
 . rename_i p hx
   split at h
   . rename_i LE e
     obtain⟨k,ek,q⟩:=a8 h;cases (show u=Value.ref p from ry);have g:DGet H p x (valV LE k):=by rw[ui ek];exact DGet.k (vd e)
     exact FU (M3 (N4 (by decide:1<=64) _) hu) I g rx fun s' I'=>⟨.bl _,H,I',rfl,q⟩
   . obtain⟨xs,e,f1,f2,q⟩:=a8 h;exact qN LB s σ H _ _ v u Q I rx ry ⟨p,xs,rfl,oy e,f1,f2,q⟩
 . exact zC LB s σ H _ _ v u Q I rx ry ⟨_,_,rfl,rfl,h⟩
 . exact h.elim
end
section
variable{X:Cx}{a b c:Expr}{ta tb tc:TE}{pos:Pos}
theorem G3(hu:X.A.units+64<cLine):IxR X cIx:=by
 intro value slice LB s σ H x y v u Q I rx ry h hs
 cases x with
 | ref p=>
  unfold cIx at h;dsimp only at h
  split at h
  . rename_i LE e
    obtain⟨k,ek,h⟩:=a8 h;obtain⟨z,ez,q⟩:=a8 h;cases (show v=Value.ref p from rx);have g:DGet H p y (some z):=by rw[ui ek,← ez];exact DGet.k (vd e)
    exact tail_any (A4 I g) O6.lookup (Ds (M3 (N4 (by decide:1<=64) _) hu) I g ry fun w' s3 I3 rw'=>⟨z,H,I3,rw',q⟩) hs
  . split at h
    . obtain⟨xs,e,h⟩:=a8 h;obtain⟨z,ez,q⟩:=a8 h;rcases oy (K:=X.K) e with r | r
      . exact BG value slice LB s σ H _ _ v u Q I rx ry ⟨p,xs,_,z,rfl,rfl,r,ez,q⟩ hs
      . exact GS value slice LB s σ H _ _ v u Q I rx ry ⟨p,xs,_,z,rfl,rfl,r,ez,q⟩ hs
    . exact h.elim
 | str zz=>
  cases y with
  | int i=>
   obtain⟨hz,h⟩:=(show zz.length<=sizeLine/\bnd (atI zz.cps.toList i) fun c=>Q (.str ⟨#[c]⟩) H from h);obtain⟨z,ez,q⟩:=a8 h;exact GT value slice LB s σ H _ _ v u Q I rx ry ⟨_,_,z,rfl,rfl,hz,ez,q⟩ hs
  | _=>exact False.elim h
 | _=>exact False.elim h
def kLen:List V->Hp->VK->Prop
 | [.ref p],H,Q=>(match unD (H p) with
  | some LE=>Q (.int LE.length) H
  | none=>bnd (unS (H p)) fun xs=>Q (.int xs.length) H)
 | [.str z],H,Q=>z.length<=sizeLine/\Q (.int z.length) H
 | _,_,_=>False
theorem aG:CallR X (.builtin "len") kLen:=by
 intro LB s σ H xs us Q I r h;unfold kLen at h
 split at h
 . split at h
   . rename_i LE e
     exact Du LB s σ H _ us Q I r ⟨_,LE,rfl,vd e,h⟩
   . obtain⟨ys,e,q⟩:=a8 h;exact qO LB s σ H _ us Q I r ⟨_,ys,rfl,oy e,q⟩
 . exact zD LB s σ H _ us Q I r ⟨_,rfl,h.1,h.2⟩
 . exact h.elim
def kAbs:List V->Hp->VK->Prop
 | [.int i],H,Q=>Q (.int (if i<0 then -i else i)) H
 | _,_,_=>False
def kMin:List V->Hp->VK->Prop
 | [.int i,.int j],H,Q=>Q (.int (if j<i then j else i)) H
 | _,_,_=>False
def kMax:List V->Hp->VK->Prop
 | [.int i,.int j],H,Q=>Q (.int (if j>i then j else i)) H
 | _,_,_=>False
def kList:List V->Hp->VK->Prop
 | [.ref p],H,Q=>bnd (unS (H p)) fun ys=>∀ l,H l=none->Q (.ref l) (upd H l (.lst ys))
 | _,_,_=>False
theorem dR:CallR X (.type "list") kList:=by
 intro LB s σ H xs us Q I r h;unfold kList at h
 split at h
 . obtain⟨ys,e,q⟩:=a8 h;exact zE LB s σ H _ us Q I r ⟨_,ys,rfl,oy e,q⟩
 . exact h.elim
def eJ:List V->Hp->VK->Prop
 | [.ref p],H,Q=>bnd (unL (H p)) fun ys=>∃ ns:List Int,ys=ns.map V.int/\ns.length<64/\∀(ns':List Int) l,H l=none->ns'.Perm ns->ns'.Pairwise (· <=·)->Q (.ref l) (upd H l (.lst (ns'.map V.int)))
 | _,_,_=>False
theorem iQ:CallR X (.builtin "sorted") eJ:=by
 intro LB s σ H xs us Q I r h;unfold eJ at h
 split at h
 . rename_i p
   obtain⟨ys,e,ns,rfl,LJ,q⟩:=a8 h;obtain⟨u,rfl,ru⟩:=cU r;cases ru;obtain⟨LF,rv,pl,hz⟩:=I.list (qR e);have hI:IntsAre LF ns:=u8 rv;have hl:=rv.length;rw[LM] at hl;refine sorted_ints pl.isList hI (by omega) fun out ns' hI' hp hs=>?_;have old:∀ b o,s.heap.get? b=some o->(sortedAll s.heap LF out).get? b=some o:=fun b o e=>sortedAll_old e;obtain⟨n,at_⟩:=sortedAll_at s.heap LF out;have hfresh:H (s.heap.objs.size+1)=none:=I.hok.fresh (OD _)
   have hlen':(ns'.map V.int).length<=sizeLine:=by
    rw[LM,hp.length_eq];exact MK (Nat.lt_trans LJ (by decide))
   refine⟨.ref (s.heap.objs.size+1),_,I.laid (t':=s.toks) (a:=s.heap.objs.size+1) (o:=.lst (ns'.map V.int)) old (OD _) ⟨hlen',out.toList,n,qP hI',?_⟩,rfl,q ns' _ hfresh hp hs⟩;rw[at_]
 . exact h.elim
def lP(H:Hp):V->Option String
 | .non=>some "NoneType"
 | .bl _=>some "bool"
 | .int _=>some "int"
 | .str _=>some "str"
 | .ref p=>match H p with
  | some (.lst _)=>some "list"
  | some (.frz _ (.lst _))=>some "list"
  | some (.tup _)=>some "tuple"
  | some (.dK _)=>some "dict"
  | _=>none
 | _=>none
def isTy(t n:String):Bool:=t==n||(t=="bool"&&n=="int")
def lJ(n:String):Bool:=["int","bool","str","list","tuple","dict"].contains n
theorem Dz{K:Frag}{H:Hp}{x:V}{t:String}(h:lP H x=some t):TyOf K H x (.type t)/\["NoneType","int","bool","str","list","tuple","dict"].contains t=true:=by
 cases x with
 | non=>cases h;exact⟨.non,by decide⟩
 | bl b=>cases h;exact⟨.bl b,by decide⟩
 | int i=>cases h;exact⟨.int i,by decide⟩
 | str i=>cases h;exact⟨.str i,by decide⟩
 | byt _=>cases h
 | flt _=>cases h
 | ty _=>cases h
 | ref p=>
  unfold lP at h;dsimp only at h
  split at h
  . rename_i e;cases h;exact⟨.lst e,by decide⟩
  . rename_i e;cases h;exact⟨.frz e,by decide⟩
  . rename_i e;cases h;exact⟨.tup e,by decide⟩
  . rename_i e;cases h;exact⟨.dK e,by decide⟩
  . cases h
theorem DA(K:Frag):∀ t∈["NoneType","int","bool","str","list","tuple","dict"],∀ n∈["int","bool","str","list","tuple","dict"],PySem.W.kitOne K (.type t) (.type n)=some (isTy t n):=by
 intro t ht n hn;simp only[L6,Nv,Ph] at ht hn;rcases ht with rfl | rfl | rfl | rfl | rfl | rfl | rfl <;> rcases hn with rfl | rfl | rfl | rfl | rfl | rfl <;> rfl
def kIsi:List V->Hp->VK->Prop
 | [x,.ty n],H,Q=>lJ n=true/\bnd (lP H x) fun t=>Q (.bl (isTy t n)) H
 | _,_,_=>False
theorem bQ:CallR X (.builtin "isinstance") kIsi:=by
 intro LB s σ H xs us Q I r h;unfold kIsi at h
 split at h
 . obtain⟨hn,h⟩:=h;obtain⟨t,et,q⟩:=a8 h;obtain⟨u,w,rfl,ru,rw'⟩:=Fy r;cases rw';obtain⟨ty,ht⟩:=Dz (K:=X.K) et;exact Dl I ru ty (DA X.K t (by simpa using ht) _ (by simpa [lJ] using hn)) fun tk=>⟨.bl _,H,I.tok tk,rfl,q⟩
 . exact h.elim
def bD:V->List V->Hp->VK->Prop
 | .ref l,[y],H,Q=>bnd (unM (H l)) fun xs=>xs.length<sizeLine/\Q .non (upd H l (.lst (xs++[y])))
 | _,_,_,_=>False
theorem bB:MtR X "list.append" bD:=by
 intro LB s σ H x vs v us Q I rx rv h;unfold bD at h
 split at h
 . obtain⟨xs,e,h1,q⟩:=a8 h;exact ye LB s σ H _ _ v us Q I rx rv ⟨_,xs,_,rfl,rfl,gN e,h1,q⟩
 . exact h.elim
def lK:V->List V->Hp->VK->Prop
 | .ref l,[.ref b],H,Q=>bnd (unM (H l)) fun xs=>bnd (unM (H b)) fun zs=>xs.length+zs.length<=sizeLine/\Q .non (upd H l (.lst (xs++zs)))
 | _,_,_,_=>False
theorem vf:MtR X "list.extend" lK:=by
 intro LB s σ H x vs v us Q I rx rv h;unfold lK at h
 split at h
 . obtain⟨xs,e,h⟩:=a8 h;obtain⟨zs,e2,h1,q⟩:=a8 h;exact Dq LB s σ H _ _ v us Q I rx rv ⟨_,_,xs,zs,rfl,rfl,gN e,gN e2,h1,q⟩
 . exact h.elim
theorem bd{K:Frag}{H:Hp}{p:Addr}{xs:List V}(h:H p=some (.lst xs)):tyV K "list" (.ref p) H:=.inl ⟨rfl,_,Mc h⟩
def cSl:V->Option Int->Option Int->Hp->VK->Prop
 | .ref p,lo,hi,H,Q=>bnd (unL (H p)) fun xs=>∀ l,H l=none->Q (.ref l) (upd H l (.lst (cutV xs lo hi)))
 | _,_,_,_,_=>False
theorem Ix:SlR X cSl:=by
 intro LB s σ H x v vl vu lo hi sl Q I rx hs pl pu h;unfold cSl at h
 split at h
 . obtain⟨xs,e,q⟩:=a8 h;exact FP LB s σ H _ v vl vu lo hi sl Q I rx hs pl pu ⟨_,xs,rfl,qR e,q⟩
 . exact h.elim
end
structure Cal(P:Program)(w:World)(K:Frag)(mg:Str->Option Value)(base:Heap)(k:Nat)(x:Str)(ps:List Str)(sp:Sp):Prop where
 ex:∃(f:Addr) (fd:FuncData),FnOk P w K mg base CX0 k f fd ps sp/\mg x=some (.ref f)/\keepIn K (.ref f)=true/\Binds K fd ps []
theorem G4 {X:Cx} {k n:Nat} {x:Str} {ps:List Str} {sp:Sp} {p pos:Pos} {e:Expr} {es:List Expr} {t:TA} (C:Cal X.prog X.w X.K X.mg X.base k x ps sp) (hr:Room n X.A) (hk:k<=n) (hg:Gl X x) (ha:PA X (e::es) t)
  (hdb:(x==("__debug__":Str))=false:=by decide) (he:starEach (e::es) X.env=(false,eval e X.env)::starEach es X.env:=by rfl) (hpl:(backTo pos (starEach es X.env)).any (·.1)=false:=by rfl):
  PE X (.Call (.Name x p) (e::es) [] pos) (tCall sp [] E0 t):=by
 obtain⟨f,fd,F,hm,hkp,hb⟩:=C.ex;exact FM F (hr.mono hk) hg hm hkp hb .nil u9 ha hdb he hpl
theorem aO:bootBuiltins "len"=some (.builtin "len"):=by decide+kernel
theorem mO:bootBuiltins "sorted"=some (.builtin "sorted"):=by decide+kernel
theorem zJ:bootBuiltins "any"=some (.builtin "any"):=by decide+kernel
theorem aY:bootBuiltins "isinstance"=some (.builtin "isinstance"):=by decide+kernel
theorem dF:bootBuiltins "list"=some (.type "list"):=by decide+kernel
theorem vg:bootBuiltins "int"=some (.type "int"):=by decide+kernel
theorem BM:bootBuiltins "bool"=some (.type "bool"):=by decide+kernel
theorem vh:bootBuiltins "str"=some (.type "str"):=by decide+kernel
theorem g9:bootBuiltins "tuple"=some (.type "tuple"):=by decide+kernel
def compN(scope:Scope):List Str:=(scope.names.filter fun p=>p.2==.local||p.2==.cell||p.2==.free).map (·.1)
def vi(N:List Str)(scope:Scope):List (Option Nat):=(compN scope).map fun x=>if scope.names.lookup x==some .free then N.findIdx? (· ==x) else none
def isCF:Option NameKind->Bool
 | some .cell=>true
 | some .free=>true
 | _=>false
theorem G5{X:Cx}{scope:Scope}(h1:scope.kind=.function)(h2:(scope.names.map (·.1)).Nodup)(h3:(scope.names.all fun p=>p.2 != .free||isCF (X.env.kindOf p.1))=true):BlkOk X (compN scope) (vi X.N scope) scope where
 kind:=h1
 nd:=h2.sublist (List.Sublist.map _ (List.filter_sublist ..))
 len:=by unfold vi;rw[LM]
 names:=h2
 free:=fun x hx=>by
  have:=L3.mp h3 (x,.free) hx;simp only[bne_self_eq_false,Nf] at this;unfold isCF at this
  split at this
  . rename_i e;exact .inl e
  . rename_i e;exact .inr e
  . cases this
 at_:=fun j i x e1 e2=>by
  unfold vi at e2;rw[LW,e1] at e2;simp only[Option.map_some,Option.some.injEq] at e2
  split at e2
  . rename_i hf
    obtain⟨hlt,hp,_⟩:=List.findIdx?_eq_some_iff_getElem.mp e2
    have hx:X.N[i]? =some x:=by
     rw[LN hlt];have:X.N[i]=x:=by simpa using hp
     rw[this]
    refine⟨hx,M1 (by simpa using hf)⟩
  . cases e2
section
variable{t u:TS}{D:Ends}{σ:St}{H:Hp}{Q:VK}{ta tb:TE}{R:Bool->Hp->Prop}{c d:TT}
theorem aD:tSeq t u D σ H=t {D with nx:=u D} σ H:=rfl
theorem cz:tNext D σ H=D.nx σ H:=rfl
theorem bI{g:TG}:tAsg ta g D σ H=ta σ H fun x H1=>g x σ H1 D.nx:=rfl
theorem a7{i:Nat}{v:V}{k:St->Hp->Prop}:gName i v σ H k=k (σ.set i (some v)) H:=rfl
theorem HZ{i:Nat}:tVar i σ H Q=∃ v,σ[i]? =some (some v)/\Q v H:=propext ⟨Fx,fun⟨_,e,h⟩=>pE e h⟩
theorem cV{v:V}{σ:St}:tVar 0 (some v::σ) H Q=Q v H:=rfl
theorem cW{i:Nat}{a:Option V}{σ:St}:tVar (i+1) (a::σ) H Q=tVar i σ H Q:=rfl
theorem w_c{v:V}:tC v σ H Q=Q v H:=rfl
theorem gy{r:R2}:tOp r ta tb σ H Q=ta σ H fun x H1=>tb σ H1 fun y H2=>r x y H2 Q:=rfl
theorem cR:tRet ta D σ H=ta σ H D.rt:=rfl
theorem cX:tRetN D σ H=D.rt .non H:=rfl
theorem cA:tDrop ta D σ H=ta σ H fun _ H1=>D.nx σ H1:=rfl
theorem ax:tIfS c t u D σ H=c σ H fun b H1=>if b=true then t D σ H1 else u D σ H1:=rfl
theorem cY:tTest ta σ H R=ta σ H fun x H'=>∃ k,x=.bl k/\R k H':=rfl
theorem w_b:tB ta σ H R=ta σ H fun x H'=>∃ k,x=.bl k/\R k H':=rfl
theorem w_not:tNot c σ H R=c σ H fun k H1=>R (!k) H1:=rfl
theorem fu:tAnd c d σ H R=c σ H fun k H1=>if k=true then d σ H1 R else R false H1:=rfl
theorem iR:tOr c d σ H R=c σ H fun k H1=>if k=true then R true H1 else d σ H1 R:=rfl
theorem cZ:tNotV ta σ H Q=ta σ H fun x H1=>∃ c,x=.bl c/\Q (.bl (!c)) H1:=rfl
theorem c5:tAndV ta tb σ H Q=ta σ H fun x H1=>∃ c,x=.bl c/\if c=true then tb σ H1 Q else Q (.bl false) H1:=rfl
theorem fv:tOrV ta tb σ H Q=ta σ H fun x H1=>∃ c,x=.bl c/\if c=true then Q (.bl true) H1 else tb σ H1 Q:=rfl
theorem dS{k:List V->Hp->Prop}:tNil σ H k=k [] H:=rfl
theorem cB{tr:TA}{k:List V->Hp->Prop}:tCons ta tr σ H k=ta σ H fun x H1=>tr σ H1 fun xs H2=>k (x::xs) H2:=rfl
theorem iS{r:List V->Hp->VK->Prop}{tr:TA}:tCB r tr σ H Q=tr σ H fun vs H1=>r vs H1 Q:=rfl
theorem c6{sp:Sp}{dvs:List V}{E:XK}{tr:TA}:tCall sp dvs E tr σ H Q=tr σ H fun vs H1=>sp (vs++dvs) H1 Q E:=rfl
theorem fw{tr:TA}:tTup tr σ H Q=tr σ H fun xs H1=>xs.length<=sizeLine/\∀ p,H1 p=none->Q (.ref p) (upd H1 p (.tup xs)):=rfl
theorem dU{tr:TA}:tLst tr σ H Q=tr σ H fun xs H1=>xs.length<=sizeLine/\∀ p,H1 p=none->Q (.ref p) (upd H1 p (.lst xs)):=rfl
theorem hJ{K:Frag}{T:String}{r:V->List V->Hp->VK->Prop}{tr:TA}:tBM K T r ta tr σ H Q=ta σ H fun x H1=>tyV K T x H1/\tr σ H1 fun xs H2=>r x xs H2 Q:=rfl
theorem fz{K:Frag}{T:String}{r:V->List V->Hp->VK->Prop}:Cj K T r ta σ H Q=ta σ H fun x H1=>tyV K T x H1/\r x [] H1 Q:=rfl
theorem cC:tTrue σ H R=R true H:=rfl
theorem c7:GZ σ H Q=∀ p,H p=none->Q (.ref p) (upd H p (.dK [])):=rfl
theorem c9{td ty tv:TE}:sDPut td ty tv D σ H=tv σ H fun v H1=>td σ H1 fun x H2=>ty σ H2 fun y H3=>∃ a H4,x=.ref a/\DPut H3 a y v H4/\D.nx σ H4:=rfl
theorem fA{i j:Int}:cAdd (.int i) (.int j) H Q=Q (.int (i+j)) H:=rfl
theorem fC{i j:Int}:cSub (.int i) (.int j) H Q=Q (.int (i-j)) H:=rfl
theorem fD{i j:Int}:cMul (.int i) (.int j) H Q=(CMul i j/\Q (.int (i*j)) H):=rfl
theorem fE{i j:Int}:cDiv (.int i) (.int j) H Q=(CDiv i j/\Q (.int (i/j)) H):=rfl
theorem fF{i j:Int}:cMod (.int i) (.int j) H Q=(0<j/\Q (.int (i%j)) H):=rfl
theorem fG{g:Int->Int->Bool}{i j:Int}:cCmp g (.int i) (.int j) H Q=Q (.bl (g i j)) H:=rfl
theorem fH{K:Frag}{i j:Int}:cEq K (.int i) (.int j) H Q=Q (.bl (decide (i=j))) H:=rfl
theorem fI{K:Frag}{i j:Int}:cNe K (.int i) (.int j) H Q=Q (.bl (!decide (i=j))) H:=rfl
theorem fJ{K:Frag}{i j:Bool}:cEq K (.bl i) (.bl j) H Q=Q (.bl (decide (i=j))) H:=rfl
theorem fK{K:Frag}{i j:Bool}:cNe K (.bl i) (.bl j) H Q=Q (.bl (!decide (i=j))) H:=rfl
theorem hX{p:Addr}{i:Int}{xs:List V}(h:H p=some (.tup xs)):cIx (.ref p) (.int i) H Q=bnd (atI xs i) fun v=>Q v H:=by
 unfold cIx;dsimp only;rw[h];rfl
theorem Cl{p:Addr}{i:Int}{xs:List V}(h:H p=some (.lst xs)):cIx (.ref p) (.int i) H Q=bnd (atI xs i) fun v=>Q v H:=by
 unfold cIx;dsimp only;rw[h];rfl
theorem fL{i:Int}:kAbs [.int i] H Q=Q (.int (if i<0 then -i else i)) H:=rfl
theorem fN{i j:Int}:kMin [.int i,.int j] H Q=Q (.int (if j<i then j else i)) H:=rfl
theorem bc{p:Addr}{xs:List V}(h:H p=some (.lst xs)):kLen [.ref p] H Q=Q (.int xs.length) H:=by
 unfold kLen;dsimp only;rw[h];rfl
theorem zK{p:Addr}{xs:List V}(h:H p=some (.tup xs)):kLen [.ref p] H Q=Q (.int xs.length) H:=by
 unfold kLen;dsimp only;rw[h];rfl
theorem dW{p:Addr}{xs:List V}{y:V}(h:H p=some (.lst xs)):bD (.ref p) [y] H Q=(xs.length<sizeLine/\Q .non (upd H p (.lst (xs++[y])))):=by
 unfold bD;dsimp only;rw[h];rfl
theorem qS:∀ ns:List Int,(ns.map V.int).all flatV=true
 | []=>rfl
 | n::r=>by rw[MB,OB,qS r];rfl
theorem uj(i:Int):∀ ns:List Int,inV (.int i) (ns.map V.int)=decide (i∈ns)
 | []=>by simp[inV]
 | n::r=>by
  have ih:=uj i r;unfold inV at ih ⊢;rw[MB,NR,ih];show((n==i)||decide (i∈r))=decide (i∈n::r);rw[Mn,Px,NE,LO,LO,L6];exact⟨fun h=>h.elim (fun e=>.inl e.symm) .inr,fun h=>h.elim (fun e=>.inl e.symm) .inr⟩
theorem qT{K:Frag}{p:Addr}{i:Int}{ns:List Int}(h:H p=some (.lst (ns.map V.int))):cIn K false (.int i) (.ref p) H Q=Q (.bl (decide (i∈ns))) H:=by
 unfold cIn;dsimp only;rw[h];dsimp only[unD,unS,bnd];rw[uj,qS];simp[flatV]
theorem lx{K:Frag}{p:Addr}{i:Int}{ns:List Int}(h:H p=some (.lst (ns.map V.int))):cIn K true (.int i) (.ref p) H Q=Q (.bl (!decide (i∈ns))) H:=by
 unfold cIn;dsimp only;rw[h];dsimp only[unD,unS,bnd];rw[uj,qS];simp[flatV]
end
def LoopR(J:It)(g:TG)(tb:TS)(D:Ends)(σ:St)(H1:Hp):Prop:=∃ W:Nat->Nat->St->Hp->Prop,(∃ m,W 0 m σ H1)/\∀ i m σ H,W i m σ H->
 (J.stop i H/\D.nx σ H)\/(J.go i H/\∃ N:St->Hp->Prop,(∀ σ' H',N σ' H'->∃ m',m'<m/\W (i+1) m' σ' H')/\∀ x H',J.yld i H x H'->g x σ H' fun σ2 H2=>tb {D with nx:=N,ct:=N,bk:=D.nx} σ2 H2)
def CompR(J:It)(g:TG)(tt:TT)(te:TE)(fin:Addr->Hp->Prop)(σ0:St)(H1:Hp):Prop:=∀ l,H1 l=none->
 ∃ W:Nat->Nat->St->Hp->Prop,(∃ m,W 0 m σ0 (upd H1 l (.lst [])))/\∀ i m σ' H',W i m σ' H'->
  (J.stop i H'/\fin l H')\/(J.go i H'/\∃ N:St->Hp->Prop,(∀ σ'' H'',N σ'' H''->∃ m',m'<m/\W (i+1) m' σ'' H'')/\∀ x H2,J.yld i H' x H2->g x σ' H2 fun σ2 H3=>tt σ2 H3 fun b H4=>
   if b=true then te σ2 H4 fun y H5=>∃ ys,H5 l=some (.lst ys)/\ys.length<sizeLine/\N σ2 (upd H5 l (.lst (ys++[y]))) else N σ2 H4)
section
variable{K:Frag}{g:TG}{tb:TS}{D:Ends}{σ:St}{H:Hp}{tl:TE}{ta:TA}{ix:List (Option Nat)}{tt:TT}{te:TE}{k:Nat}{Q:VK}
theorem da:tFor (iList K tl) g tb D σ H=tl σ H fun x H1=>∃ a,x=.ref a/\(∃ xs,SqL K H1 a xs)/\LoopR (Itl K a) g tb D σ H1:=rfl
theorem b9:tFor (dP ta) g tb D σ H=ta σ H fun vs H1=>∃ j:Int,vs=[.int j]/\ -(2^62)<=j/\j<2^62/\LoopR (Itr 0 j.toNat) g tb D σ H1:=rfl
theorem ca:tFor (pF ta) g tb D σ H=ta σ H fun vs H1=>∃ i j:Int,vs=[.int i,.int j]/\(-(2^62)<=i/\i<2^62/\ -(2^62)<=j/\j<2^62)/\LoopR (Itr i (j-i).toNat) g tb D σ H1:=rfl
theorem bO:tComp ix (iList K tl) g tt te σ H Q=tl σ H fun x H1=>∃ a,x=.ref a/\(∃ xs,SqL K H1 a xs)/\CompR (Itl K a) g tt te (fun l H'=>Q (.ref l) H') (subσ ix σ) H1:=rfl
theorem bJ:tComp ix (dP ta) g tt te σ H Q=ta σ H fun vs H1=>∃ j:Int,vs=[.int j]/\ -(2^62)<=j/\j<2^62/\CompR (Itr 0 j.toNat) g tt te (fun l H'=>Q (.ref l) H') (subσ ix σ) H1:=rfl
theorem bK:sComp k ix (iList K tl) g tt te D σ H=tl σ H fun x H1=>∃ a,x=.ref a/\(∃ xs,SqL K H1 a xs)/\CompR (Itl K a) g tt te (fun l H'=>D.nx (σ.set k (some (.ref l))) H') (subσ ix σ) H1:=rfl
theorem bv:sComp k ix (dP ta) g tt te D σ H=ta σ H fun vs H1=>∃ j:Int,vs=[.int j]/\ -(2^62)<=j/\j<2^62/\CompR (Itr 0 j.toNat) g tt te (fun l H'=>D.nx (σ.set k (some (.ref l))) H') (subσ ix σ) H1:=rfl
theorem pI {lo:Int} {n:Nat} {fin:Addr->Hp->Prop} {σ0:St} {H1:Hp} (Pv:Addr->Nat->St->Hp->Prop) (h0:∀ l,H1 l=none->Pv l 0 σ0 (upd H1 l (.lst [])))
  (hs:∀ l i σ H,H1 l=none->i<n->Pv l i σ H->g (.int (lo+i)) σ H fun σ2 H3=>tt σ2 H3 fun b H4=>if b=true then te σ2 H4 fun y H5=>∃ ys,H5 l=some (.lst ys)/\ys.length<sizeLine/\Pv l (i+1) σ2 (upd H5 l (.lst (ys++[y]))) else Pv l (i+1) σ2 H4)
  (hd:∀ l σ H,H1 l=none->Pv l n σ H->fin l H):CompR (Itr lo n) g tt te fin σ0 H1:=by
 intro l hl0;refine⟨fun i m σ H=>m=n-i/\i<=n/\Pv l i σ H,⟨n,by simp,MV _,h0 l hl0⟩,?_⟩;rintro i m σ H ⟨rfl,hi,p⟩;by_cases hlt:i<n
 . refine .inr ⟨hlt,Pv l (i+1),fun σ' H' p'=>⟨n - (i+1),by omega,rfl,hlt,p'⟩,fun x H' y=>?_⟩;obtain⟨e,y⟩:=y;subst e y;exact hs l i σ _ hl0 hlt p
 . have e:i=n:=by omega
   subst e;exact .inl ⟨Mj _,hd l σ H hl0 p⟩
theorem qU {a:Addr} {xs:List V} {fin:Addr->Hp->Prop} {σ0:St} {H1:Hp} (Pv:Addr->Nat->St->Hp->Prop) (h0:∀ l,H1 l=none->Pv l 0 σ0 (upd H1 l (.lst []))) (hq:∀ l i σ H,H1 l=none->i<=xs.length->Pv l i σ H->SqL K H a xs)
  (hs:∀ l i x σ H,H1 l=none->xs[i]? =some x->Pv l i σ H->g x σ H fun σ2 H3=>tt σ2 H3 fun b H4=>if b=true then te σ2 H4 fun y H5=>∃ ys,H5 l=some (.lst ys)/\ys.length<sizeLine/\Pv l (i+1) σ2 (upd H5 l (.lst (ys++[y]))) else Pv l (i+1) σ2 H4)
  (hd:∀ l σ H,H1 l=none->Pv l xs.length σ H->fin l H):CompR (Itl K a) g tt te fin σ0 H1:=by
 intro l hl0;refine⟨fun i m σ H=>m=xs.length-i/\i<=xs.length/\Pv l i σ H,⟨xs.length,by simp,MV _,h0 l hl0⟩,?_⟩;rintro i m σ H ⟨rfl,hi,p⟩;have q:=hq l i σ H hl0 hi p;by_cases hlt:i<xs.length
 . refine .inr ⟨⟨xs,xs[i],q,by simp[hlt]⟩,Pv l (i+1),fun σ' H' p'=>⟨xs.length - (i+1),by omega,rfl,hlt,p'⟩,fun x H' y=>?_⟩;obtain⟨e,y⟩:=y;subst e;exact hs l i x σ _ hl0 (y xs q) p
 . have e:i=xs.length:=by omega
   subst e;exact .inl ⟨⟨xs,q,Mj _⟩,hd l σ H hl0 p⟩
theorem vj{p q:Addr}{xs ys:List Int}(hp:H p=some (.lst (xs.map V.int)))(hq:H q=some (.lst (ys.map V.int)))(h:Q (.bl (decide (xs=ys))) H):cEq K (.ref p) (.ref q) H Q:=by
 show rEqD K (.ref p) (.ref q) H Q;refine⟨.list (xs.map PyData.int),.list (ys.map PyData.int),.lst (Mc hp) (.ints xs),.lst (Mc hq) (.ints ys),kq xs,kq ys,?_⟩;rw[PyData.eqv,uh];exact h
theorem pJ{p q:Addr}{xs ys:List Int}(hp:H p=some (.lst (xs.map V.int)))(hq:H q=some (.lst (ys.map V.int)))(h:Q (.bl (!decide (xs=ys))) H):cNe K (.ref p) (.ref q) H Q:=by
 show rNeD K (.ref p) (.ref q) H Q;refine⟨.list (xs.map PyData.int),.list (ys.map PyData.int),.lst (Mc hp) (.ints xs),.lst (Mc hq) (.ints ys),kq xs,kq ys,?_⟩;rw[PyData.eqv,uh];exact h
theorem EX{p:Addr}{ns:List Int}(hp:H p=some (.lst (ns.map V.int)))(hn:ns.length<64)(h:∀(ns':List Int) l,H l=none->ns'.Perm ns->ns'.Pairwise (· <=·)->Q (.ref l) (upd H l (.lst (ns'.map V.int)))):eJ [.ref p] H Q:=by
 unfold eJ;dsimp only;rw[hp];exact⟨ns,rfl,hn,h⟩
theorem oz{p:Addr}{xs:List V}(hp:H p=some (.lst xs))(h:∀ l,H l=none->Q (.ref l) (upd H l (.lst xs))):kList [.ref p] H Q:=by
 unfold kList;dsimp only;rw[hp];exact h
end
theorem aC{X:Cx}{N:List Str}{ix:List (Option Nat)}{scope:Scope}(h1:scope.kind=.function)(h2:(scope.names.map (·.1)).Nodup)(h3:(scope.names.all fun p=>p.2 != .free||isCF (X.env.kindOf p.1))=true)(h4:N=compN scope)(h5:ix=vi X.N scope):BlkOk X N ix scope:=by
 subst h4 h5;exact G5 h1 h2 h3
def kLenS(K:Frag):List V->Hp->VK->Prop:=fun xs H Q=>∃ p ys,xs=[.ref p]/\(SqL K H p ys\/SqT K H p ys)/\Q (.int ys.length) H
structure Bt(mg:Str->Option Value):Prop where
 len_:mg "len"=none
 abs_:mg "abs"=none
 min_:mg "min"=none
 max_:mg "max"=none
 sorted_:mg "sorted"=none
 any_:mg "any"=none
 isinstance_:mg "isinstance"=none
 list_:mg "list"=none
 int_:mg "int"=none
 bool_:mg "bool"=none
 str_:mg "str"=none
 tuple_:mg "tuple"=none
 reversed_:mg "reversed"=none
 set_:mg "set"=none
 range_:mg "range"=none
 zip_:mg "zip"=none
theorem Vals.get':∀{xs:List V} {us:List Value} {i:Nat} {u:Value},Vals xs us->us[i]? =some u->∃ x,xs[i]? =some x/\RelV x u
 | _,_,_,_,.nil,h=>by simp at h
 | _,_,0,_,.cons r _,h=>by simp at h;subst h;exact⟨_,rfl,r⟩
 | _,_,i+1,_,.cons _ t,h=>by
  obtain⟨x,hx,r⟩:=Vals.get' (i:=i) t (by simpa using h);exact⟨x,by simpa using hx,r⟩
section
variable{X:Cx}{LB:List (Addr × Obj)}{σ:St}{H:Hp}{s s':Shared}
theorem Inv.kept'(I:Inv X LB σ H s)(k:∀ b u,s.heap.get? b=some u->s'.heap.get? b=some u)(ho:s'.os=s.os)(hg:AllBare s'.gens):Inv X LB σ H s':=
 I.call' (ch:=[]) ho (Un.kept k) (I.hok.kept k) hg fun b z=>absurd z (by simp)
theorem Inv.walked{l:Addr}{o:Obj}(I:Inv X LB σ H s)(hm:Moved [s.heap.objs.size] (fun a b=>b=a) {s with heap:=s.heap.push o} s'):Inv X LB σ H s':=by
 refine I.kept' (fun b u e=>hm.heap b u (fun z=>?_) (Mh _ e)) hm.os (by rw[show s'.gens=s.gens from hm.gens];exact I.bare);have:b=s.heap.objs.size:=by simpa using z
 exact absurd (Mm e) (by rw[this];exact Nt _)
def kAny:List V->Hp->VK->Prop
 | [.ref p],H,Q=>bnd (unL (H p)) fun ys=>∃ bs:List Bool,ys=bs.map V.bl/\Q (.bl (bs.any id)) H
 | _,_,_=>False
theorem DB(bs:List Bool):(List.range bs.length).any (fun i=>bs.getD i false)=bs.any id:=by
 rw[Mn,NX,NX];constructor
 . rintro⟨i,hi,h⟩;have hi':i<bs.length:=LZ.mp hi;exact⟨bs[i],Mp hi',by simpa [List.getD,hi'] using h⟩
 . rintro⟨b,hb,h⟩;obtain⟨i,hi,e⟩:=Nm.mp hb;refine⟨i,LZ.mpr hi,?_⟩;have h':b=true:=h;rw[List.getD,LN hi,e];exact h'
theorem qV(hc:X.calm=true):CallR X (.builtin "any") kAny:=by
 intro LB s σ H xs us Q I r h;unfold kAny at h
 split at h
 . rename_i p
   obtain⟨ys,e,bs,rfl,q⟩:=a8 h;obtain⟨u,rfl,ru⟩:=cU r;cases ru;obtain⟨LF,rv,pl,hz⟩:=I.list (qR e);have hl:=rv.length;rw[LM] at hl
   have hlt:p<s.heap.objs.size:=by
    obtain⟨o,h1,_⟩:=pl.isList;exact Mm h1
   refine call_any_walkS (Oe pl.isList ?_);refine⟨s.heap.objs.size,_,_,_,LF.toArray.size,_,_,fun i=>bs.getD i false,rfl,(Walks.list (A:=X.A.in1) (I.ok.hd hc) s.heap.objs.size p (ML hlt) LF.toArray).toS,⟨⟨_,MH _ rfl,rfl,rfl⟩,pl.isList.push _⟩,?_,fun s' hm=>?_⟩
   . intro i v s1 Q1 E1 hP hQ;have hv:LF[i]? =some v:=by simpa using hP
     obtain⟨x,hx,rx⟩:=rv.get' hv;obtain⟨b,hb,rfl⟩:∃ b,bs[i]? =some b/\V.bl b=x:=by simpa using hx
     cases rx;refine No ?_;have e3:bs.getD i false=b:=by simp[List.getD,hb]
     rw[← e3];exact hQ
   . refine⟨.bl _,H,I.walked (l:=p) hm,?_,q⟩;have e2:LF.toArray.size=bs.length:=by rw[Mi];exact hl.symm
     rw[e2,DB];rfl
 . exact h.elim
def iU(K:Frag):V->List V->Hp->VK->Prop
 | .ref p,[y],H,Q=>∃(ds:List PyData) (d:PyData) (j:Nat),DV K H (.ref p) (.list ds)/\DV K H y d/\PyData.canLayAll0 ds=true/\PyData.canLay0 d=true/\min (PyData.depthAll ds) d.depth<=62/\
   j<=1000/\(∃ e,ds[j]? =some e/\PyData.eqv e d=true)/\(∀ m e,m<j->ds[m]? =some e->PyData.eqv e d=false)/\Q (.int j) H
 | _,_,_,_=>False
theorem iH(hu:X.A.units+64<cLine):MtR X "list.index" (iU X.K):=by
 intro LB s σ H x vs v us Q I rx rv h;unfold iU at h
 split at h
 . rename_i p y
   obtain⟨ds,d,j,hp,hy,hl,hd,hdep,hj,⟨e,ej,et⟩,hno,q⟩:=h;cases rx;obtain⟨u,rfl,ru⟩:=cU rv;obtain⟨as,rc⟩:=hp.reads I rfl;obtain⟨bs,rx⟩:=hy.reads I ru
   cases rc with
   | @list _ o LF n _ _ h1 h2 h3 h4=>
    obtain⟨oc,od,oda,osl⟩:=o;dsimp only at h2 h3;subst h2 h3;have hmap:=SeqAt.readsAll_map ds _ _ hl h4
    have at_:∀(m:Nat) (hm:m<LF.size),ds[m]? =some (SeqAt.readOf s.heap LF[m]):=fun m hm=>by
     rw[← hmap,LW,PC,O7 hm];rfl
    have hjs:j<LF.size:=by
     have:=(LP.mp ej).1;rw[← hmap,LM,N1] at this;exact this
    refine NN F.slot_list_index ⟨_,h1,rfl⟩ F.entry_list_index (F.args_list_index_2 _ _) (SeqAt.list_indexAt p LF n od osl u (fun y=>PyData.eqv (SeqAt.readOf s.heap y) d) j hjs (by omega) ?_ ?_) ⟨h1,SeqAt.items_eqAt h4 rx hl hd ?_,⟨.int j,H,I.tok _,⟨_,rfl⟩,q⟩⟩
    . have:=at_ j hjs;rw[ej] at this;cases this;exact et
    . intro m hm hlt;exact hno m _ hlt (at_ m hm)
    . omega
 . exact h.elim
theorem G6{h:Heap}{a b:Addr}{o u:Obj}{c d:String}(ha:h.get? a=some o)(hb:h.get? b=some u)(hc:o.cls=.type c)(hd:u.cls=.type d)(ne:c≠d):a≠b:=by
 rintro rfl;rw[ha] at hb;cases hb;rw[hc] at hd;cases hd;exact ne rfl
end
open Builtin Builtin.Str
theorem xc:∀{ts:List Str} {us:List Value},Vals (ts.map V.str) us->∃ l:List (Str × Tok),us=strValues l/\l.map (·.1)=ts
 | [],_,.nil=>⟨[],rfl,rfl⟩
 | t::ts,_,.cons r rs=>by
  obtain⟨l,rfl,e⟩:=xc (ts:=ts) rs;obtain⟨u,rfl⟩:=r;exact⟨(t,u)::l,rfl,by rw[MB,e]⟩
theorem yg:∀(l:List (Str × Tok)),Vals ((l.map (·.1)).map V.str) (strValues l)
 | []=>.nil
 | (t,u)::l=>.cons ⟨u,rfl⟩ (yg l)
section
variable{X:Cx}
def kFind:V->List V->Hp->VK->Prop
 | .str x,[.str y],H,Q=>Q (.int (Txt.find x y)) H
 | _,_,_,_=>False
def vk:V->List V->Hp->VK->Prop
 | .str x,[.str y],H,Q=>(y.length==0)=false/\x.length<=sizeLine/\(Txt.split x y).length<=sizeLine/\∀ l,H l=none->Q (.ref l) (upd H l (.lst ((Txt.split x y).map V.str)))
 | _,_,_,_=>False
theorem DC:MtR X "str.split" vk:=by
 intro LB s σ H x vs v us Q I rx rv h;unfold vk at h
 split at h
 . rename_i x y
   obtain⟨t,rfl⟩:=rx;obtain⟨u,rfl,ru⟩:=cU rv;obtain⟨t2,rfl⟩:=ru;obtain⟨hy,hx,hn,q⟩:=h
   have fin:∀(l:List (Str × Tok)) (k:Nat),l.map (·.1)=Txt.split x y->EP X LB σ Q (.ref s.heap.objs.size) {s with heap:=s.heap.push {cls:=.type "list",data:=.seq (strValues l).toArray},toks:=k}:=fun l k e=>by
    refine⟨.ref s.heap.objs.size,_,I.lnew (t':=k) (ys:=(Txt.split x y).map V.str) (LF:=strValues l) ?_ (by rw[LM];exact hn),rfl,q _ I.fresh⟩;rw[← e];exact yg l
   cases h1:(decide (x.length<y.length)||decide (strKind x<strKind y))
   . cases hf:(occurrences x y 0 x.length (x.length+1)).isEmpty
     . have e3:Txt.split x y=partsBetween x (occurrences x y 0 x.length (x.length+1)) y.length:=(L4 (ON h1)).trans (L4 (ON hf));refine NN Pi (Ou _ _ _) O9 (OY _ _) (meets_str_split_sep x y t t2 h1 hy hf hx (by rw[← e3];exact hn)) ?_;show wants _ _ _ {s with toks:=_,heap:=s.heap.push {cls:=.type "list",data:=.seq (strsFrom s.toks (partsBetween x (occurrences x y 0 x.length (x.length+1)) y.length)).toArray}};rw[strsFrom_eq];exact fin (numbered s.toks _) _ ((numbered_texts _ _).trans e3.symm)
     . exact NN Pi (Ou _ _ _) O9 (OY _ _) (meets_str_split_not_found x y t t2 h1 hy hf)
        (fin [(x,t)] s.toks ((L4 (ON h1)).trans (Md hf)).symm)
   . exact NN Pi (Ou _ _ _) O9 (OY _ _) (meets_str_split_cannot_occur x y t t2 h1)
      (fin [(x,t)] s.toks (Md h1).symm)
 . exact h.elim
def j3:V->Option Int->Option Int->Hp->VK->Prop
 | .ref p,lo,hi,H,Q=>cSl (.ref p) lo hi H Q
 | .str z,lo,hi,H,Q=>z.length<=sizeLine/\Q (.str (Txt.slice z lo hi)) H
 | _,_,_,_,_=>False
theorem ly:SlR X j3:=by
 intro LB s σ H x v vl vu lo hi sl Q I rx hs pl pu h
 cases x with
 | ref p=>exact Ix LB s σ H _ v vl vu lo hi sl Q I rx hs pl pu h
 | str z=>
  obtain⟨hz,q⟩:=(show z.length<=sizeLine/\Q (.str (Txt.slice z lo hi)) H from h);obtain⟨t,rfl⟩:=rx;have fin:∀ t' k,EP X LB σ Q (.str (Txt.slice z lo hi) t') {s with toks:=k}:=fun t' k=>⟨.str _,H,I.tok k,⟨t',rfl⟩,q⟩;refine⟨"str",_,F.slot_str_getitem.lookup,Ou _ _ _,?_⟩
  cases pl with
  | none=>
   cases pu with
   | none=>exact NI (l:=none) (u:=none) (st:=none) hs rfl (OI ⟨L8 (Pq z _ _) hz,fin⟩)
   | int j tj=>exact NI (l:=none) (u:=some (j,tj)) (st:=none) hs rfl (OI ⟨L8 (Pq z _ _) hz,fin⟩)
  | int i ti=>
   cases pu with
   | none=>exact NI (l:=some (i,ti)) (u:=none) (st:=none) hs rfl (OI ⟨L8 (Pq z _ _) hz,fin⟩)
   | int j tj=>exact NI (l:=some (i,ti)) (u:=some (j,tj)) (st:=none) hs rfl (OI ⟨L8 (Pq z _ _) hz,fin⟩)
 | _=>exact False.elim h
def Its(x:Str):It:=⟨fun i _=>i<x.cps.size,fun i H v H'=>H'=H/\∃ c,x.cps[i]? =some c/\v=.str ⟨#[c]⟩,fun i _=>x.cps.size<=i⟩
theorem zL {P:Program} {w:World} {K:Frag} {tg:Expr} {x:Str} {t:Tok} (it:Addr) (ty:String) (hty:["enumerate","zip","dict_itemiterator","dict_reverseitemiterator","odict_iterator","itertools.zip_longest","itertools.pairwise"].contains ty=false)
  (W:∀ A:Around,A.handled=none->Walks P w A it [it] [it] x.cps.size (SignAt x) (fun i h=>h.IsStrIter it ty x t i))
  (slf:∀(A:Around) (i:Nat) (s:Shared) (Q:Value->Shared->Prop) (E:Value->Shared->Prop),s.heap.IsStrIter it ty x t i->Q (.ref it) s->wpAny (model P w) A (pyIter (.ref it)) Q E s):
  Turn P w K tg (Its x) [it] it (fun i h=>i<=x.cps.size/\h.IsStrIter it ty x t i) where
 mem:=by simp
 obj:=fun i h st b hb=>by
  have e:b=it:=by simpa using hb
  subst e;obtain⟨_,o,e,c,d⟩:=st;exact⟨o,e,fun v z=>by rw[d] at z;cases z⟩
 keep:=fun i h h' st k=>by
  obtain⟨hi,o,e,c,d⟩:=st;exact⟨hi,o,k it (by simp) o e,c,d⟩
 item:=by
  intro X hP hw hK hc i LB s σ H E I hf st hg;subst hP hw hK;obtain⟨f0,f1,f2,f3,f4,f5⟩:=hf it (by simp);have hlt:i<x.cps.size:=hg;refine(W X.A (I.ok.hd hc)).item i s _ _ hlt st.2 fun v h' tk hv st' kk=>?_;obtain⟨c,u,hcu,rfl⟩:=hv;have I1:Inv X LB σ H {s with heap:=h',toks:=tk}:=I.turned (fun b o hb e=>kk b o (by simpa using hb) e) f0 f1 f3 f4 f5;obtain⟨o,e,c',d⟩:=id st';exact⟨_,rfl,zr (s:={s with heap:=h',toks:=tk}) e c' d hty ⟨.str ⟨#[c]⟩,H,I1,⟨u,rfl⟩,⟨rfl,c,hcu,rfl⟩,⟨hlt,st'⟩,fun b hb=>(hf b hb).1⟩⟩
 done:=by
  intro X hP hw hK hc i LB s σ H E I hf st hg;subst hP hw hK;obtain⟨f0,f1,f2,f3,f4,f5⟩:=hf it (by simp);have hle:x.cps.size<=i:=hg;have e:i=x.cps.size:=Nat.le_antisymm st.1 hle;subst e;exact(W X.A (I.ok.hd hc)).done s _ _ st.2 fun h' tk kk=>⟨rfl,I.turned (fun b o hb e=>kk b o (by simpa using hb) e) f0 f1 f3 f4 f5⟩
 self:=fun A i s Q E st h=>slf A i s Q E st.2 h
def iStr(tl:TE):TI:=fun σ H R=>tl σ H fun x H1=>∃ z,x=.str z/\R (Its z) H1
theorem G7{tg l:Expr}{tl:TE}(hl:PE X l tl):PI X tg l (iStr tl):=by
 intro LB s σ H R I h;refine thn (hl LB s σ H _ I h) fun v s1 ⟨x,H1,I1,r1,q1⟩=>?_;obtain⟨z,rfl,q⟩:=q1;obtain⟨t,rfl⟩:=r1
 have fin:∀ b∈[s1.heap.objs.size],FpOk X LB H1 b:=fun b hb=>by
  have e:b=s1.heap.objs.size:=by simpa using hb
  subst e;exact I1.fpOk (Mj _) (I1.hok.fresh (Mj _))
 cases ha:z.cps.all (· < 128)
 . refine wpAny_pyIter_wide ha ⟨s1.heap.objs.size,[s1.heap.objs.size],_,Its z,H1,rfl,I1.kept (t':=s1.toks) fun b o e=>Mh _ e,zL (t:=t) _ "str_iterator" (by decide) (fun A' hA=>Walks.strWide hA _ z t) (fun A i s Q E st hq=>wpAny_pyIter_striter_wide st hq),⟨MV _,_,MH _ rfl,rfl,rfl⟩,fin,q⟩
 . refine wpAny_pyIter_ascii ha ⟨s1.heap.objs.size,[s1.heap.objs.size],_,Its z,H1,rfl,I1.kept (t':=s1.toks) fun b o e=>Mh _ e,zL (t:=t) _ "str_ascii_iterator" (by decide) (fun A' hA=>Walks.strAscii hA _ z t) (fun A i s Q E st hq=>wpAny_pyIter_striter_ascii st hq),⟨MV _,_,MH _ rfl,rfl,rfl⟩,fin,q⟩
theorem A5 {prog:Program} {w:World} {A:Around} {E:Value->Shared->Prop} {s:Shared} {l:Addr} {items:Array Value} {k:Int} {t:Tok} {v:Value} {Q:Unit->Shared->Prop} (hl:s.heap.IsList l items)
  (h0:0<=k) (hfit:k<2^63) (hn:k<items.size)
  (hQ:Q () {s with heap:=s.heap.update l (Obj.mapSeq (·.setIfInBounds k.toNat v))}):
  wpAny (model prog w) A (setItem (.ref l) (.int k t) v) Q E s:=by
 obtain⟨o,ho,hc,ne,hd⟩:=id hl;unfold setItem
 try with_reducible refine Pc ?_
 first | refine MA (MO ?_) | skip
 refine MA (wpAny_sequenceKey hl.typeIs (by decide) ?_)
 refine MA (wpAny_callSpecial?_slot (name:=Str.ofString "__setitem__") hl.typeIs slot_list_setitem
  (wpAny_call_entry slot_list_setitem hl.typeIs entry_list_setitem ?_ (args_list_setitem _ _ _)))
 show wpAny _ _ (Builtin.List.listSubscript? (.int k t) >>= _) _ _ s;refine MA (wpAny_listSubscript_int (fitsIndex_of h0 hfit) ?_)
 clear hfit
 obtain⟨j,rfl⟩:=NJ h0;have hj:j<items.size:=by omega
 have hx':items[j]? =some items[j]:=O7 hj;show wpAny _ _ ((seqItemAt l j >>= fun r=>pure (r.map (j,·))) >>= _) _ _ s;refine MA (MA (wpAny_seqItemAt ho hd (MO ?_)));rw[hx'];show wpAny _ _ (setSeqItemAt l j v >>= _) _ _ s;refine MA (wpAny_setSeqItemAt ho hd ?_)
 first
  | exact MA (MO (MO ⟨.none,rfl,MO hQ⟩))
  | exact MO ⟨.none,rfl,MO hQ⟩
theorem zM:∀{xs:List V} {us:List Value} {x:V} {u:Value} (i:Nat),Vals xs us->RelV x u->Vals (xs.set i x) (us.set i u)
 | _,_,_,_,_,.nil,_=>.nil
 | _,_,_,_,0,.cons _ t,r=>.cons r t
 | _,_,_,_,i+1,.cons q t,r=>.cons q (zM i t r)
def cPut:TSet
 | .ref p,y,v,H,Q=>(match unD (H p) with
  | some _=>∃ H',DPut H p y v H'/\Q H'
  | none=>match y with
   | .int i=>bnd (unM (H p)) fun xs=>0<=i/\i<xs.length/\Q (upd H p (.lst (xs.set i.toNat v)))
   | _=>False)
 | _,_,_,_,_=>False
theorem Ia(hu:X.A.units+64<cLine):PSet X cPut:=by
 intro LB s σ H o i v ov iv u Q I ro ri rv h
 cases o with
 | ref p=>
  cases ro;unfold cPut at h;dsimp only at h
  split at h
  . obtain⟨H',g,q⟩:=h;exact Dt (M3 (N4 (by decide:1<=64) _) hu) I g ri rv fun s' I'=>⟨H',I',q⟩
  . split at h
    . rename_i i
      obtain⟨xs,e,h0,h1,q⟩:=a8 h;obtain⟨t,rfl⟩:=ri;have hH:=gN e;obtain⟨z,LF,n,r,hl,eo⟩:=I.lstM hH;have hs:s.heap.IsList p LF.toArray:=⟨_,eo,rfl,n,rfl⟩;have hz:LF.length<=sizeLine:=by rw[← hl];exact z
      refine A5 hs h0 ?_ (by rw[Mi,← hl];exact h1) ⟨_,I.lset (t':=s.toks) (ys:=xs.set i.toNat v) (its':=LF.set i.toNat u) hH eo (by simp) (zM _ r rv) (by rw[List.length_set];exact z),q⟩;have:(sizeLine:Int)<2^63:=by decide
      omega
    . exact h.elim
 | _=>exact False.elim h
end
section
variable{K:Frag}{g:TG}{tb:TS}{D:Ends}{σ:St}{H:Hp}{tl:TE}{ix:List (Option Nat)}{tt:TT}{te ta:TE}{k:Nat}{Q:VK}
theorem iV{r:V->Option Int->Option Int->Hp->VK->Prop}{a b:TO}:tSl r te a b σ H Q=te σ H fun x H1=>a σ H1 fun l H2=>b σ H2 fun u H3=>r x l u H3 Q:=rfl
theorem db{R:Option Int->Hp->Prop}:tPart te σ H R=te σ H fun x H1=>∃ i,x=.int i/\R (some i) H1:=rfl
theorem bL{R:Option Int->Hp->Prop}:eI σ H R=R none H:=rfl
theorem dc{to ti:TE}{t:TSet}{v:V}{R:St->Hp->Prop}:gSub to ti t v σ H R=to σ H fun o H1=>ti σ H1 fun i H2=>t o i v H2 fun H3=>R σ H3:=rfl
theorem iW{r:V->Hp->VK->Prop}:tUn r te σ H Q=te σ H fun x H1=>r x H1 Q:=rfl
theorem de:tFor (iStr tl) g tb D σ H=tl σ H fun x H1=>∃ z,x=.str z/\LoopR (Its z) g tb D σ H1:=rfl
theorem cb:tComp ix (iStr tl) g tt te σ H Q=tl σ H fun x H1=>∃ z,x=.str z/\CompR (Its z) g tt te (fun l H'=>Q (.ref l) H') (subσ ix σ) H1:=rfl
theorem bM:sComp k ix (iStr tl) g tt te D σ H=tl σ H fun x H1=>∃ z,x=.str z/\CompR (Its z) g tt te (fun l H'=>D.nx (σ.set k (some (.ref l))) H') (subσ ix σ) H1:=rfl
theorem FA{x:Str}:tyV K "str" (.str x) H:=rfl
theorem fO{i j:Str}:cEq K (.str i) (.str j) H Q=Q (.bl (decide (i=j))) H:=rfl
theorem fP{i j:Str}:cNe K (.str i) (.str j) H Q=Q (.bl (!decide (i=j))) H:=rfl
theorem df{z:Str}:kLen [.str z] H Q=(z.length<=sizeLine/\Q (.int z.length) H):=rfl
theorem dg{i j:Str}:cAdd (.str i) (.str j) H Q=(i.length+j.length<=sizeLine/\Q (.str (i++j)) H):=rfl
theorem Ib{z:Str}{i:Int}:cIx (.str z) (.int i) H Q=(z.length<=sizeLine/\bnd (atI z.cps.toList i) fun c=>Q (.str ⟨#[c]⟩) H):=rfl
theorem dh{x y:Str}:kFind (.str x) [.str y] H Q=Q (.int (Txt.find x y)) H:=rfl
theorem FV{x y:Str}:vk (.str x) [.str y] H Q=((y.length==0)=false/\x.length<=sizeLine/\(Txt.split x y).length<=sizeLine/\∀ l,H l=none->Q (.ref l) (upd H l (.lst ((Txt.split x y).map V.str)))):=rfl
theorem Ic{p:Addr}{i:Int}{v:V}{xs:List V}{R:Hp->Prop}(hp:H p=some (.lst xs))(h0:0<=i)(h1:i<xs.length)(h:R (upd H p (.lst (xs.set i.toNat v)))):cPut (.ref p) (.int i) v H R:=by
 unfold cPut;dsimp only;rw[hp];exact⟨h0,h1,h⟩
theorem pK{p:Addr}{lo hi:Option Int}{xs:List V}(hp:H p=some (.lst xs))(h:∀ l,H l=none->Q (.ref l) (upd H l (.lst (cutV xs lo hi)))):j3 (.ref p) lo hi H Q:=by
 show bnd (unL (H p)) _;rw[hp];exact h
end
def cBitI(g:Int->Int->Int):R2
 | .int i,.int j,H,Q=>Q (.int (g i j)) H
 | _,_,_,_=>False
def cShr:R2
 | .int i,.int j,H,Q=>0<=j/\Q (.int (i/2^j.toNat)) H
 | _,_,_,_=>False
abbrev cOr:R2:=cBitI Builtin.bitOr
section
variable{X:Cx}
theorem EY{o:Operator}{g:Int->Int->Int}(h0:OpR X (binaryOp o) (rI0 fun i j=>.int (g i j))):OpR X (binaryOp o) (cBitI g):=by
 intro LB s σ H x y v u Q I rx ry h;unfold cBitI at h
 split at h
 . exact h0 LB s σ H _ _ v u Q I rx ry ⟨_,_,rfl,rfl,h⟩
 . exact h.elim
theorem G8:OpR X (binaryOp .BitOr) cOr:=EY HP
theorem FW:OpR X (binaryOp .RShift) cShr:=by
 intro LB s σ H x y v u Q I rx ry h;unfold cShr at h
 split at h
 . exact GQ LB s σ H _ _ v u Q I rx ry ⟨_,_,rfl,rfl,h.1,h.2⟩
 . exact h.elim
end
section
variable{H:Hp}{Q:VK}{i j:Int}
theorem fW{g:Int->Int->Int}:cBitI g (.int i) (.int j) H Q=Q (.int (g i j)) H:=rfl
theorem iX:cShr (.int i) (.int j) H Q=(0<=j/\Q (.int (i/2^j.toNat)) H):=rfl
end
section
variable{X:Cx}
def kInt:List V->Hp->VK->Prop
 | [.int i],H,Q=>Q (.int i) H
 | [.bl k],H,Q=>Q (.int (if k then 1 else 0)) H
 | _,_,_=>False
def oA:V->List V->Hp->VK->Prop
 | .int i,[],H,Q=>Q (.int (Builtin.Int.intBits i:Nat)) H
 | _,_,_,_=>False
theorem vm:MtR X "int.bit_length" oA:=by
 intro LB s σ H x vs v us Q I rx rv h;unfold oA at h
 split at h
 . obtain⟨t,rfl⟩:=rx;cases rv;exact call_int_bit_length ⟨.int _,H,I.tok _,⟨_,rfl⟩,h⟩
 . exact h.elim
def cRepL:R2
 | .ref l,.int k,H,Q=>bnd (unM (H l)) fun xs=> -(2^63)<=k/\k<2^63/\xs.length*k.toNat<=sizeLine/\∀ p,H p=none->Q (.ref p) (upd H p (.lst (List.replicate k.toNat xs).flatten))
 | _,_,_,_=>False
theorem EZ:OpR X (binaryOp .Mult) cRepL:=by
 intro LB s σ H x y v u Q I rx ry h;unfold cRepL at h
 split at h
 . obtain⟨xs,e,h1,h2,h3,q⟩:=a8 h;exact GX LB s σ H _ _ v u Q I rx ry ⟨_,_,xs,rfl,rfl,gN e,h1,h2,h3,q⟩
 . exact h.elim
def kAll:List V->Hp->VK->Prop
 | [.ref p],H,Q=>bnd (unL (H p)) fun ys=>∃ bs:List Bool,ys=bs.map V.bl/\Q (.bl (bs.all id)) H
 | _,_,_=>False
theorem DD(bs:List Bool):(List.range bs.length).all (fun i=>bs.getD i false)=bs.all id:=by
 rw[Mn,L3,L3];constructor
 . intro h b hb;obtain⟨i,hi,e⟩:=Nm.mp hb;have:=h i (LZ.mpr hi);rw[List.getD,LN hi,e] at this;exact this
 . intro h i hi;have hi':i<bs.length:=LZ.mp hi;have:=h bs[i] (Mp hi')
   simpa [List.getD,hi'] using this
theorem iY:bootBuiltins "all"=some (.builtin "all"):=by decide+kernel
theorem zN:bootBuiltins "sum"=some (.builtin "sum"):=by decide+kernel
theorem di(hc:X.calm=true):CallR X (.builtin "all") kAll:=by
 intro LB s σ H xs us Q I r h;unfold kAll at h
 split at h
 . rename_i p
   obtain⟨ys,e,bs,rfl,q⟩:=a8 h;obtain⟨u,rfl,ru⟩:=cU r;cases ru;obtain⟨LF,rv,pl,hz⟩:=I.list (qR e);have hl:=rv.length;rw[LM] at hl
   have hlt:p<s.heap.objs.size:=by
    obtain⟨o,h1,_⟩:=pl.isList;exact Mm h1
   refine call_all_walkS (Oe pl.isList ?_);refine⟨s.heap.objs.size,_,_,_,LF.toArray.size,_,_,fun i=>bs.getD i false,rfl,(Walks.list (A:=X.A.in1) (I.ok.hd hc) s.heap.objs.size p (ML hlt) LF.toArray).toS,⟨⟨_,MH _ rfl,rfl,rfl⟩,pl.isList.push _⟩,?_,fun s' hm=>?_⟩
   . intro i v s1 Q1 E1 hP hQ;have hv:LF[i]? =some v:=by simpa using hP
     obtain⟨x,hx,rx⟩:=rv.get' hv;obtain⟨b,hb,rfl⟩:∃ b,bs[i]? =some b/\V.bl b=x:=by simpa using hx
     cases rx;refine No ?_;have e3:bs.getD i false=b:=by simp[List.getD,hb]
     rw[← e3];exact hQ
   . refine⟨.bl _,H,I.walked (l:=p) hm,?_,q⟩;have e2:LF.toArray.size=bs.length:=by rw[Mi];exact hl.symm
     rw[e2,DD];rfl
 . exact h.elim
def kSum:List V->Hp->VK->Prop
 | [.ref p],H,Q=>bnd (unL (H p)) fun ys=>∃ ns:List Int,ys=ns.map V.int/\(∀ x∈ns,0<=x/\x<=1000000)/\ns.length<=1000000/\Q (.int ns.sum) H
 | _,_,_=>False
theorem DE:∀(ns:List Int),(∀ x∈ns,0<=x/\x<=1000000)->0<=ns.sum/\ns.sum<=1000000*ns.length
 | [],_=>by simp
 | n::r,h=>by
  have ih:=DE r fun x hx=>h x (L5 _ hx);have h1:=h n Ma;rw[List.sum_cons,Mx];omega
theorem qW(hc:X.calm=true):CallR X (.builtin "sum") kSum:=by
 intro LB s σ H xs us Q I r h;unfold kSum at h
 split at h
 . rename_i p
   obtain⟨ys,e,ns,rfl,hb,hn,q⟩:=a8 h;obtain⟨u,rfl,ru⟩:=cU r;cases ru;obtain⟨LF,rv,pl,hz⟩:=I.list (qR e);have hl:=rv.length;rw[LM] at hl
   have hlt:p<s.heap.objs.size:=by
    obtain⟨o,h1,_⟩:=pl.isList;exact Mm h1
   have e2:LF.toArray.size=ns.length:=by rw[Mi];exact hl.symm
   refine call_sum_walkS (Oe pl.isList ?_);refine⟨s.heap.objs.size,_,_,_,LF.toArray.size,_,_,fun i=>ns.getD i 0,rfl,(Walks.list (A:=X.A.in1) (I.ok.hd hc) s.heap.objs.size p (ML hlt) LF.toArray).toS,⟨⟨_,MH _ rfl,rfl,rfl⟩,pl.isList.push _⟩,?_,?_,?_,fun s' t' hm=>?_⟩
   . intro b hb';show b < (s.heap.push _).objs.size;rw[NH];simp only[L6,Nv,Ph] at hb';rcases hb' with rfl | rfl
     . exact Os _
     . exact Np hlt
   . intro i v hP;have hv:LF[i]? =some v:=by simpa using hP
     obtain⟨x,hx,rx⟩:=rv.get' hv;obtain⟨b,hb',rfl⟩:∃ b,ns[i]? =some b/\V.int b=x:=by simpa using hx
     obtain⟨t,rfl⟩:=rx;exact⟨t,by simp[List.getD,hb']⟩
   . intro j hj;rw[e2] at hj;refine⟨?_,?_⟩
     . have:=hb ns[j] (Mp hj);have e3:ns.getD j 0=ns[j]:=by simp[List.getD,hj]
       show InLong (ns.getD j 0);rw[e3];exact⟨by omega,by omega⟩
     . rw[preSum_getD];have h1:=DE (ns.take (j+1)) fun x hx=>hb x (List.mem_of_mem_take hx);have h2:(ns.take (j+1)).length<=ns.length:=by rw[M0];omega
       exact⟨by omega,by omega⟩
   . refine⟨.int ns.sum,H,I.walked (l:=p) hm,⟨t',?_⟩,q⟩;rw[e2,preSum_getD,M6]
 . exact h.elim
def Itd(hi:Int)(n:Nat):It:=⟨fun i _=>i<n,fun i H x H'=>H'=H/\x=.int (hi-i),fun i _=>n<=i⟩
def iRngD(ta:TA):TI:=fun σ H R=>ta σ H fun vs H1=>∃ i j:Int,vs=[.int i,.int j,.int (-1)]/\(-(2^60)<=i/\i<2^60/\ -(2^60)<=j/\j<2^60)/\R (Itd i (i-j).toNat) H1
end
section
variable{K:Frag}{g:TG}{tb:TS}{D:Ends}{σ:St}{H:Hp}{ta:TA}{Q:VK}
theorem fX{k:Bool}:kInt [.bl k] H Q=Q (.int (if k then 1 else 0)) H:=rfl
theorem fY{i:Int}:kInt [.int i] H Q=Q (.int i) H:=rfl
theorem cD{i:Int}:oA (.int i) [] H Q=Q (.int (Builtin.Int.intBits i:Nat)) H:=rfl
theorem lz{p:Addr}{bs:List Bool}(hp:H p=some (.lst (bs.map V.bl)))(h:Q (.bl (bs.all id)) H):kAll [.ref p] H Q:=by
 show bnd (unL (H p)) _;rw[hp];exact aZ (a:=bs.map V.bl) rfl ⟨bs,rfl,h⟩
theorem Cm{p:Addr}{ns:List Int}(hp:H p=some (.lst (ns.map V.int)))(hb:∀ x∈ns,0<=x/\x<=1000000)(hn:ns.length<=1000000)(h:Q (.int ns.sum) H):kSum [.ref p] H Q:=by
 show bnd (unL (H p)) _;rw[hp];exact aZ (a:=ns.map V.int) rfl ⟨ns,rfl,hb,hn,h⟩
theorem G9{p:Addr}{xs:List V}{k:Int}(hp:H p=some (.lst xs))(h0:0<=k)(h1:k<=1000)(hn:xs.length<=1)(h:∀ l,H l=none->Q (.ref l) (upd H l (.lst (List.replicate k.toNat xs).flatten))):cRepL (.ref p) (.int k) H Q:=by
 show bnd (unM (H p)) _;rw[hp];refine aZ (a:=xs) rfl ⟨by omega,by omega,?_,h⟩;refine MK (aE (L8 (OE _ hn) ?_));omega
theorem dG:tFor (iRngD ta) g tb D σ H=ta σ H fun vs H1=>∃ i j:Int,vs=[.int i,.int j,.int (-1)]/\(-(2^60)<=i/\i<2^60/\ -(2^60)<=j/\j<2^60)/\LoopR (Itd i (i-j).toNat) g tb D σ H1:=rfl
end
section
variable{X:Cx}
def Ite(K:Frag)(a:Addr):It:=
 ⟨fun i H=>∃ xs x,SqL K H a xs/\xs[i]? =some x,
  fun i H v H'=>∃ T x,v=.ref T/\H T=none/\H'=upd H T (.tup [.int i,x])/\∀ xs,SqL K H a xs->xs[i]? =some x,
  fun i H=>∃ xs,SqL K H a xs/\xs.length<=i⟩
def ESt(a e it:Addr)(i:Nat)(h:Heap):Prop:=(∃ old,IsEnum h e it i old)/\h.IsListIter it a i
theorem DF{P:Program}{w:World}{K:Frag}{es:List Expr}{x1:Nat}{pos:Pos}(a e it:Addr):
  Turn P w K (.Tuple es x1 pos) (Ite K a) [e,it] e (ESt a e it) where
 mem:=by simp
 obj:=fun i h st c hc=>by
  obtain⟨⟨old,he⟩,⟨o1,e1,c1,f1⟩⟩:=st;simp only[L6,Nv,Ph] at hc;rcases hc with rfl | rfl
  . exact⟨_,he,fun v z=>by have z':Data.fields _=Data.cell v:=z;cases z'⟩
  . exact⟨_,e1,fun v z=>by rw[f1] at z;cases z⟩
 keep:=fun i h h' st k=>by
  obtain⟨⟨old,he⟩,h1⟩:=st;exact⟨⟨old,k e (by simp) _ he⟩,h1.at fun o q=>k it (by simp) o q⟩
 item:=by
  intro X hP hw hK hc i LB s σ H E I hf st hg;subst hP hw hK;obtain⟨xs,x,hq1,hx⟩:=hg;obtain⟨its1,rv1,p1,hz1⟩:=I.list hq1;obtain⟨u1,hu1,ru1⟩:=rv1.get hx;obtain⟨⟨old,he⟩,⟨o1,e1,c1,f1⟩⟩:=id st;have hne:e≠it:=G6 he e1 rfl c1 (by decide);refine wpAny_pyNext_enum_item he ⟨o1,e1,c1,f1⟩ p1.isList (x:=u1) (by simpa using hu1) hne fun h' a1 a2 a3 a4 hk=>?_;refine⟨_,rfl,wpAny_letOwnedTupleGo_enum a1 fun h2 hz2 sb=>?_⟩;have hT:H s.heap.objs.size=none:=I.fresh;have lt:∀{c o},s.heap.get? c=some o->c≠s.heap.objs.size:=fun e=>ML (Mm e)
  have kp:∀ c o,c∉[e,it]->s.heap.get? c=some o->h2.get? c=some o:=fun c o hc q=>by
   simp only[L6,Nv,Ph,not_or] at hc;exact sb.extBut _ _ hc.1 (hk c o hc.1 hc.2 q)
  have hTe:s.heap.objs.size≠e:=(lt he).symm;have gT:h2.get? s.heap.objs.size=some {cls:=.type "tuple",data:=.seq #[.int i s.toks,u1]}:=sb.extBut _ _ hTe a3;have nH:∀ c∈[e,it],H c=none:=fun c hc=>(hf c hc).1;refine⟨.ref s.heap.objs.size,upd H s.heap.objs.size (.tup [.int i,x]),I.call' (s':={s with heap:=h2,toks:=s.toks+1}) (ch:=[e,it]) rfl ⟨fun c o e n _ hx=>kp c o hx e,fun c o e n _ hx=>⟨o.slots,kp c o hx e⟩,fun c o e n _=>by rw[ak (lt e)];exact n,fun c o e hx=>⟨o,kp c o hx e⟩,fun c xs e=>by rw[ak (aA e hT)];exact e,fun c o u e=>by rw[ak (aA e hT)];exact e,fun c ps e=>⟨#[],by rw[ak (aA e hT),e];simp⟩⟩ ?_ I.bare ?_,rfl,⟨_,x,rfl,hT,rfl,fun zs hz'=>by rw[I.list_inj hz' hq1];exact hx⟩,?_,?_⟩
  . intro c ob e;by_cases hb:c=s.heap.objs.size
    . subst hb;rw[ag] at e;cases e;exact⟨by show(2:Nat)<=sizeLine;exact MK (aE (by decide)),[.int i s.toks,u1],.cons ⟨_,rfl⟩ (.cons ru1 .nil),⟨_,gT,rfl,_,rfl⟩⟩
    . rw[ak hb] at e;refine(I.hok c ob e).stay (fun d w' hd g=>kp d w' ?_ g) (fun d g=>by rw[ak (aA g hT)];exact g) fun d xs g=>by rw[ak (aA g hT)];exact g
      intro hm;rcases hd with rfl | hd
      . rw[nH _ hm] at e;cases e
      . rw[nH _ hm] at hd;cases hd
  . intro c hc;obtain⟨f0,f1,f2,f3,f4,f5⟩:=hf c hc;exact⟨f3,f1,f4,f5⟩
  . exact⟨⟨_,hz2⟩,a2.extBut sb.extBut hne.symm⟩
  . intro c hc
    obtain⟨o,q⟩:∃ o,s.heap.get? c=some o:=by
     simp only[L6,Nv,Ph] at hc;rcases hc with rfl | rfl
     . exact⟨_,he⟩
     . exact⟨_,e1⟩
    rw[ak (lt q)];exact(hf c hc).1
 done:=by
  intro X hP hw hK hc i LB s σ H E I hf st hg;subst hP hw hK;obtain⟨xs,hq1,hx⟩:=hg;obtain⟨its1,rv1,p1,hz1⟩:=I.list hq1;have hl1:=rv1.length;obtain⟨⟨old,he⟩,⟨o1,e1,c1,f1⟩⟩:=id st;have hend:its1.toArray[i]? =none:=by simp;omega
  obtain⟨f0,f1',f2,f3,f4,f5⟩:=hf it (by simp);exact wpAny_pyNext_enum_end (I.ok.hd hc) he ⟨o1,e1,c1,f1⟩ p1.isList hend fun h' eb=>⟨rfl,I.turned (t':=s.toks) (fun b o hb e=>eb b o hb e) f0 f1' f3 f4 f5⟩
 self:=fun _ _ _ _ _ st h=>by
  obtain⟨⟨old,he⟩,_⟩:=st;exact wpAny_pyIter_enum he h
def iEnum(K:Frag)(ta:TA):TI:=fun σ H R=>ta σ H fun vs H1=>∃ a,vs=[.ref a]/\(∃ xs,SqL K H1 a xs)/\R (Ite K a) H1
theorem zO:bootBuiltins "enumerate"=some (.type "enumerate"):=by decide+kernel
theorem xf{es:List Expr}{x1:Nat}{tpos:Pos}{e1:Expr}{ta:TA}{p pos:Pos}(hg:Gl X "enumerate")(hm:X.mg "enumerate"=none)(ha:PA X [e1] ta)(hs:starEach [e1] X.env=[(false,eval e1 X.env)]:=by rfl):
  PI X (.Tuple es x1 tpos) (.Call (.Name "enumerate" p) [e1] [] pos) (iEnum X.K ta):=by
 intro LB s σ H R I h;refine Call_ (gM I hg hm zO (MU (thn (ha pos LB s σ H _ I h) fun us s1 ⟨vs,H1,I1,r1,q1⟩=>?_) hs rfl));obtain⟨a,rfl,⟨xs,hq1⟩,q⟩:=q1;obtain⟨u1,rfl,ru1⟩:=cU r1;cases ru1;obtain⟨its1,rv1,p1,hz1⟩:=I1.list hq1;refine call_enumerate_list p1.isList fun h' a1 a2 a3 hk=>?_;refine wpAny_pyIter_enum a1 ?_;have I2:Inv X LB σ H1 {s1 with heap:=h',toks:=s1.toks}:=I1.kept hk;refine⟨s1.heap.objs.size+1,[s1.heap.objs.size+1,s1.heap.objs.size],ESt a (s1.heap.objs.size+1) s1.heap.objs.size,Ite X.K a,H1,rfl,I2,DF a (s1.heap.objs.size+1) s1.heap.objs.size,⟨⟨_,a1⟩,a2⟩,fun c hc=>?_,q⟩
 have hge:s1.heap.objs.size<=c:=by
  simp only[L6,Nv,Ph] at hc;rcases hc with rfl | rfl <;> omega
 exact I1.fpOk hge (I1.hok.fresh hge)
end
section
variable{K:Frag}{g:TG}{tb:TS}{D:Ends}{σ:St}{H:Hp}{ta:TA}{Q:VK}{ix:List (Option Nat)}{tt:TT}{te:TE}{k:Nat}
theorem f6:tFor (iEnum K ta) g tb D σ H=ta σ H fun vs H1=>∃ a,vs=[.ref a]/\(∃ xs,SqL K H1 a xs)/\LoopR (Ite K a) g tb D σ H1:=rfl
theorem dH:tComp ix (iEnum K ta) g tt te σ H Q=ta σ H fun vs H1=>∃ a,vs=[.ref a]/\(∃ xs,SqL K H1 a xs)/\CompR (Ite K a) g tt te (fun l H'=>Q (.ref l) H') (subσ ix σ) H1:=rfl
theorem cE:sComp k ix (iEnum K ta) g tt te D σ H=ta σ H fun vs H1=>∃ a,vs=[.ref a]/\(∃ xs,SqL K H1 a xs)/\CompR (Ite K a) g tt te (fun l H'=>D.nx (σ.set k (some (.ref l))) H') (subσ ix σ) H1:=rfl
theorem DG {a:Addr} {xs:List V} {fin:Addr->Hp->Prop} {σ0:St} {H1:Hp} (Pv:Addr->Nat->St->Hp->Prop) (h0:∀ l,H1 l=none->Pv l 0 σ0 (upd H1 l (.lst []))) (hq:∀ l i σ H,H1 l=none->i<=xs.length->Pv l i σ H->SqL K H a xs)
  (hs:∀ l i x T σ H,H1 l=none->xs[i]? =some x->Pv l i σ H->H T=none->g (.ref T) σ (upd H T (.tup [.int i,x])) fun σ2 H3=>tt σ2 H3 fun b H4=>if b=true then te σ2 H4 fun y H5=>∃ ys,H5 l=some (.lst ys)/\ys.length<sizeLine/\Pv l (i+1) σ2 (upd H5 l (.lst (ys++[y]))) else Pv l (i+1) σ2 H4)
  (hd:∀ l σ H,H1 l=none->Pv l xs.length σ H->fin l H):CompR (Ite K a) g tt te fin σ0 H1:=by
 intro l hl0;refine⟨fun i m σ H=>m=xs.length-i/\i<=xs.length/\Pv l i σ H,⟨xs.length,by simp,MV _,h0 l hl0⟩,?_⟩;rintro i m σ H ⟨rfl,hi,p⟩;have q:=hq l i σ H hl0 hi p;by_cases hlt:i<xs.length
 . refine .inr ⟨⟨xs,xs[i],q,by simp[hlt]⟩,Pv l (i+1),fun σ' H' p'=>⟨xs.length - (i+1),by omega,rfl,hlt,p'⟩,fun v H' y=>?_⟩;obtain⟨T,x,rfl,hT,rfl,e⟩:=y;exact hs l i x T σ _ hl0 (e xs q) p hT
 . have e:i=xs.length:=by omega
   subst e;exact .inl ⟨⟨xs,q,Mj _⟩,hd l σ H hl0 p⟩
theorem pL {a:Addr} {xs:List V} {fin:Addr->Hp->Prop} {σ0:St} {H1:Hp} {k1 k2:Nat} (b:Nat->Bool) (f:Nat->V) (hn:xs.length<=900) (hne:k1≠k2) (hq:SqL K H1 a xs)
  (ht:∀(i:Nat) x H R,xs[i]? =some x->Same H1 H->(∀ H',Same H H'->R (b i) H')->tt ((σ0.set k1 (some (.int (i:Int)))).set k2 (some x)) H R)
  (he:∀(i:Nat) x H Q,xs[i]? =some x->b i=true->Same H1 H->(∀ H',Same H H'->Q (f i) H')->te ((σ0.set k1 (some (.int (i:Int)))).set k2 (some x)) H Q)
  (hd:∀ l H,H1 l=none->Same H1 H->H l=some (.lst (((List.range xs.length).filter b).map f))->fin l H):
  CompR (Ite K a) (gTup K 2 (gCons (gName k1) (gCons (gName k2) gNil))) tt te fin σ0 H1:=by
 refine DG (xs:=xs) (fun l i σ H=>(σ=σ0\/∃ c1 c2,σ=(σ0.set k1 c1).set k2 c2)/\Same H1 H/\H l=some (.lst (((List.range i).filter b).map f))) (fun l hl=>⟨.inl rfl,fun b u e=>by rw[ak (aA e hl)];exact e,by rw[ag];rfl⟩) (fun l i σ H _ _ p=>p.2.1.seq hq) ?_ (fun l σ H hl p=>hd l H hl p.2.1 p.2.2);rintro l i x T σ H hl hx ⟨hσ,s1,el⟩ hT;have hi:i<xs.length:=(LP.mp hx).1;have sT:Same H (upd H T (.tup [.int i,x])):=fun b u e=>by rw[ak (aA e hT)];exact e
 refine⟨T,_,rfl,PM ag,rfl,_,_,rfl,_,_,rfl,rfl,?_⟩
 have e:(σ.set k1 (some (.int i))).set k2 (some x)=(σ0.set k1 (some (.int i))).set k2 (some x):=by
  rcases hσ with rfl | ⟨c1,c2,rfl⟩
  . rfl
  . rw[List.set_comm _ _ (PH hne),Nr,Nr,List.set_comm _ _ hne]
 show tt ((σ.set k1 (some (.int i))).set k2 (some x)) _ _;rw[e];refine ht i x _ _ hx (s1.trans sT) fun H2 s2=>?_;have el2:=s2 _ _ (sT _ _ el);have s12:=(s1.trans sT).trans s2;have own:∀{H3:Hp} {o:HO},Same H1 H3->Same H1 (upd H3 l o):=fun s b u e=>by rw[ak (aA e hl)];exact s b u e
 have LJ:∀ i,i<=900->(((List.range i).filter b).map f).length<sizeLine:=fun i hi=>by
  rw[LM];refine aE (L8 (L9 b _) ?_);rw[MS];omega
 cases hb:b i with
 | false=>
  rw[L4 LY];refine⟨.inr ⟨_,_,rfl⟩,s12,?_⟩;rw[MM,MG,MI,hb]
  simpa using el2
 | true=>
  rw[Md rfl];refine he i x H2 _ hx hb s12 fun H3 s3=>⟨_,s3 _ _ el2,LJ i (by omega),.inr ⟨_,_,rfl⟩,own (s12.trans s3),?_⟩;rw[ag,MM,MG,MI,hb];simp
end
def rngL(i j:Int):List Int:=(List.range (j-i).toNat).map fun(k:Nat)=>i+(k:Int)
theorem j4(i j:Int):(rngL i j).length=(j-i).toNat:=by unfold rngL;simp
theorem tR:∀{xs:List V} {us:List Value},xs.length=us.length->(∀(i:Nat) x u,xs[i]? =some x->us[i]? =some u->RelV x u)->Vals xs us
 | [],[],_,_=>.nil
 | [],_::_,h,_=>by simp at h
 | _::_,[],h,_=>by simp at h
 | x::xs,u::us,h,f=>.cons (f 0 x u rfl rfl) (tR (by simpa using h) fun i y e h1 h2=>f (i+1) y e (by simpa using h1) (by simpa using h2))
theorem E2{i j:Int}{acc:Array Value}(h:ItemsOf (fun k v=>∃ t,v=.int (i+k*1) t) acc (j-i).toNat):Vals ((rngL i j).map V.int) acc.toList:=by
 refine tR (by rw[LM,j4,N1];exact h.1.symm) fun k x u hx hu=>?_;obtain⟨t,rfl⟩:=h.2 k u (by simpa using hu);unfold rngL at hx;rw[Mv,LW] at hx;by_cases hk:k < (j-i).toNat
 . rw[M7 hk] at hx;cases hx;exact⟨t,by rw[Int.mul_one]⟩
 . rw[Mz (by simpa using hk)] at hx;cases hx
section
variable{X:Cx}
def kE(ta:TA):TE:=fun σ H Q=>ta σ H fun vs H1=>∃ j:Int,vs=[.int j]/\ -(2^60)<=j/\j<=1000/\∀ l,H1 l=none->Q (.ref l) (upd H1 l (.lst ((rngL 0 j).map V.int)))
def DH(ta:TA):TE:=fun σ H Q=>ta σ H fun vs H1=>∃ i j:Int,vs=[.int i,.int j]/\(0<=i/\i<=1000/\ -(2^60)<=j/\j<=1000)/\∀ l,H1 l=none->Q (.ref l) (upd H1 l (.lst ((rngL i j).map V.int)))
theorem E3 {LB:List (Addr × Obj)} {σ:St} {H1:Hp} {s1:Shared} {Q:VK} {i j:Int} {t u v:Tok} {tk:Nat} {A:Around} {E:Value->Shared->Prop} (hh:A.handled=none) (I1:Inv X LB σ H1 s1) (h1:0<=i) (h2:i<=1000) (h3: -(2^60)<=j) (h4:j<=1000)
  (q:∀ l,H1 l=none->Q (.ref l) (upd H1 l (.lst ((rngL i j).map V.int)))):
  wpAny (model X.prog X.w) A (call (.type "list") [.ref s1.heap.objs.size]) (EP X LB σ Q) E {s1 with heap:=s1.heap.push {cls:=.type "range",data:=.fields #[.int i t,.int j u,.int 1 v]},toks:=tk}:=by
 have I2:Inv X LB σ H1 {s1 with heap:=s1.heap.push {cls:=.type "range",data:=.fields #[.int i t,.int j u,.int 1 v]},toks:=tk}:=I1.kept fun b o e=>Mh _ e;refine call_list_range (n:=(j-i).toNat) hh (IsRange.new ..) (small_one (by omega) (by omega) (by omega) (by omega)) (by rw[rangeSize_one];split <;> omega) (by omega) fun h' tk' acc' c' old hS' hacc=>?_;have LJ:((rngL i j).map V.int).length<=sizeLine:=by rw[LM,j4];exact MK (aE (by omega))
 exact⟨.ref _,_,I2.laid (t':=tk') (o:=.lst ((rngL i j).map V.int)) old (Mj _) ⟨LJ,acc'.toList,c',E2 hacc,hS'⟩,rfl,q _ (I2.hok.fresh (Mj _))⟩
theorem nL {a:Expr} {ta:TA} {p p2 pos pos2:Pos} (hc:X.calm=true) (hgl:Gl X "list") (hgr:Gl X "range") (hl:X.mg "list"=none) (hr:X.mg "range"=none) (ha:PA X [a] ta)
  (hs1:starEach [.Call (.Name "range" p2) [a] [] pos2] X.env=[(false,eval (.Call (.Name "range" p2) [a] [] pos2) X.env)]:=by rfl) (hs:starEach [a] X.env=[(false,eval a X.env)]:=by rfl):
  PE X (.Call (.Name "list" p) [.Call (.Name "range" p2) [a] [] pos2] [] pos) (kE ta):=by
 intro LB s σ H Q I h;refine Nb (gM I hgl hl dF ?_ (by decide) (by decide));refine MU ?_ hs1 rfl;rw[hs1];show wpAny _ _ (spliced [(false,eval (.Call (.Name "range" p2) [a] [] pos2) X.env)]) _ _ s;refine Ob ?_;refine Call_ (gM I hgr hr boot_range (MU (thn (ha pos2 LB s σ H _ I h) fun us s1 ⟨vs,H1,I1,r1,q1⟩=>?_) hs rfl));obtain⟨j,e,q1,q2,q⟩:=q1;subst e
 cases r1 with
 | cons r rr=>
  cases rr;obtain⟨t,rfl⟩:=r;refine call_range_1 ?_;refine Of ?_;exact E3 (I.ok.hd hc) I1 (by omega) (by omega) q1 q2 q
end
section
variable{σ:St}{H:Hp}{Q:VK}{ta:TA}
theorem dI:kE ta σ H Q=ta σ H fun vs H1=>∃ j:Int,vs=[.int j]/\ -(2^60)<=j/\j<=1000/\∀ l,H1 l=none->Q (.ref l) (upd H1 l (.lst ((rngL 0 j).map V.int))):=rfl
theorem dJ:DH ta σ H Q=ta σ H fun vs H1=>∃ i j:Int,vs=[.int i,.int j]/\(0<=i/\i<=1000/\ -(2^60)<=j/\j<=1000)/\∀ l,H1 l=none->Q (.ref l) (upd H1 l (.lst ((rngL i j).map V.int))):=rfl
end
end L2
namespace L2
def besL(h w c:Int):List Int:=(if 0<c/w then [c-w] else [])++(if 0<c%w then [c-1] else [])++(if c%w<w-1 then [c+1] else [])++(if c/w<h-1 then [c+w] else [])
inductive RC(h w:Int)(cs:List Int)(st:Int):Int->Prop
 | start:st∈cs->RC h w cs st st
 | step {x y:Int}:RC h w cs st x->y∈besL h w x->y∈cs->RC h w cs st y
variable{h w x:Int}{cs:List Int}
theorem RC.mem{st:Int}(r:RC h w cs st x):x∈cs:=by cases r <;> assumption
theorem RC.st{st:Int}(r:RC h w cs st x):st∈cs:=by
 induction r with
 | start h=>exact h
 | step _ _ _ ih=>exact ih
theorem gr:∀{xs ys:List Int},xs.Nodup->(∀ x∈xs,x∈ys)->xs.length<=ys.length
 | [],_,_,_=>MV _
 | x::xs,ys,nd,h=>by
  have hx:=h x Ma;have nd':=MX.mp nd
  have ih:=gr (xs:=xs) (ys:=ys.erase x) nd'.2 fun y hy=>by
   have ne:y≠x:=fun e=>nd'.1 (e ▸ hy);exact(List.mem_erase_of_ne ne).mpr (h y (L5 _ hy))
  rw[List.length_erase_of_mem hx] at ih;have:0<ys.length:=NO hx;simp only[Mx];omega
structure BI(h w:Int)(cs:List Int)(st:Int)(fs:List Int)(pl:Nat):Prop where
 nd:fs.Nodup
 rc:∀ x∈fs,RC h w cs st x
 hst:st∈fs
 le:pl<=fs.length
 cl:∀(i:Nat) (x y:Int),i<pl->fs[i]? =some x->y∈besL h w x->y∈cs->y∈fs
variable{pl:Nat}
theorem BI.len{st:Int}{fs:List Int}(b:BI h w cs st fs pl):fs.length<=cs.length:=gr b.nd fun x hx=>(b.rc x hx).mem
theorem BI.start{st:Int}(hs:st∈cs):BI h w cs st [st] 0:=
 ⟨by simp,fun x hx=>by rw[L0.mp hx];exact .start hs,by simp,MV _,fun i x y hi=>absurd hi (Nat.not_lt_zero _)⟩
theorem BI.done{st:Int}{fs:List Int}(b:BI h w cs st fs pl)(e:¬ pl<fs.length)(x:Int):x∈fs↔RC h w cs st x:=by
 refine⟨b.rc x,fun r=>?_⟩
 induction r with
 | start _=>exact b.hst
 | step r hy hc ih=>
  obtain⟨i,hi⟩:=OF ih;have hlt:i<fs.length:=(LP.mp hi).1;exact b.cl i _ _ (by omega) hi hy hc
def addC(cs fs:List Int)(y:Int):List Int:=if y∈cs/\¬ y∈fs then fs++[y] else fs
structure BJ(h w:Int)(cs:List Int)(st:Int)(f0:List Int)(pl:Nat)(bs:List Int)(fs:List Int):Prop where
 nd:fs.Nodup
 rc:∀ x∈fs,RC h w cs st x
 pre:f0 <+:fs
 al:∀ y∈bs,y∈cs->y∈fs
theorem BJ.zero{st:Int}{fs:List Int}(b:BI h w cs st fs pl):BJ h w cs st fs pl [] fs:=⟨b.nd,b.rc,List.prefix_refl _,fun y hy=>nomatch hy⟩
theorem BJ.more{st:Int}{f0 fs bs:List Int}{y:Int}(j:BJ h w cs st f0 pl bs fs)(hx:RC h w cs st x)(hy:y∈besL h w x):BJ h w cs st f0 pl (bs++[y]) (addC cs fs y):=by
 unfold addC
 split
 . rename_i hc
   refine⟨?_,fun z hz=>?_,j.pre.trans (List.prefix_append _ _),fun z hz hzc=>?_⟩
   . refine NU.mpr ⟨j.nd,by simp,fun a ha b hb=>?_⟩;rw[L0.mp hb];intro e;exact hc.2 (e ▸ ha)
   . rcases Ml.mp hz with hz | hz
     . exact j.rc z hz
     . rw[L0.mp hz];exact .step hx hy hc.1
   . rcases Ml.mp hz with hz | hz
     . exact OC _ (j.al z hz hzc)
     . rw[L0.mp hz];simp
 . rename_i hc
   refine⟨j.nd,j.rc,j.pre,fun z hz hzc=>?_⟩;rcases Ml.mp hz with hz | hz
   . exact j.al z hz hzc
   . rw[L0.mp hz] at hzc ⊢;exact Decidable.byContradiction fun n=>hc ⟨hzc,n⟩
theorem BJ.done{st:Int}{f0 fs:List Int}(b:BI h w cs st f0 pl)(hx:f0[pl]? =some x)(j:BJ h w cs st f0 pl (besL h w x) fs):BI h w cs st fs (pl+1):=by
 have hlt:pl<f0.length:=(LP.mp hx).1;have hle:=j.pre.length_le
 have get:∀ i,i<f0.length->fs[i]? =f0[i]? :=fun i hi=>by
  obtain⟨t,e⟩:=j.pre;rw[← e,Mr hi]
 refine⟨j.nd,j.rc,j.pre.subset b.hst,by omega,fun i z y hi hz hy hc=>?_⟩;rw[get i (by omega)] at hz;by_cases e:i<pl
 . exact j.pre.subset (b.cl i z y e hz hy hc)
 . have:i=pl:=by omega
   subst this;rw[hx] at hz;cases hz;exact j.al y hy hc
theorem DI{rs fs:List Int}(p:rs.Perm fs)(s:rs.Pairwise (· <=·))(nd:fs.Nodup):rs.Pairwise (· < ·):=by
 have nd':rs.Nodup:=p.nodup_iff.mpr nd;refine(s.and nd').imp ?_;intro a b h;have:=h.1;have:=h.2;omega
theorem vn:∀{xs ys:List Int},xs.Pairwise (· < ·)->ys.Pairwise (· < ·)->(∀ z,z∈xs↔z∈ys)->xs=ys
 | [],[],_,_,_=>rfl
 | [],y::ys,_,_,h=>absurd ((h y).mpr Ma) (fun q=>nomatch q)
 | x::xs,[],_,_,h=>absurd ((h x).mp Ma) (fun q=>nomatch q)
 | x::xs,y::ys,hx,hy,h=>by
  have hx':=M4.mp hx;have hy':=M4.mp hy
  have e:x=y:=by
   rcases L6.mp ((h x).mp Ma) with e | m1
   . exact e
   . rcases L6.mp ((h y).mpr Ma) with e | m2
     . exact e.symm
     . have:=hy'.1 x m1;have:=hx'.1 y m2;omega
  subst e;refine congrArg (x::·) (vn hx'.2 hy'.2 fun z=>⟨fun m=>?_,fun m=>?_⟩)
  . rcases L6.mp ((h z).mp (L5 _ m)) with e | q
    . have:=hx'.1 z m;omega
    . exact q
  . rcases L6.mp ((h z).mpr (L5 _ m)) with e | q
    . have:=hy'.1 z m;omega
    . exact q
theorem A6{c:Int}(w0:0<w):(besL h w c).Pairwise (· < ·):=by
 have m0:=MC c (PQ w0);have m1:=Mu c w0;unfold besL
 split <;> split <;> split <;> split <;> simp <;> omega
theorem RC.trans{a b c:Int}(r:RC h w cs a b)(q:RC h w cs b c):RC h w cs a c:=by
 induction q with
 | start _=>exact r
 | step _ hy hc ih=>exact .step ih hy hc
theorem FX{y:Int}:y∈besL h w x↔(0<x/w/\y=x-w)\/(0<x%w/\y=x-1)\/(x%w<w-1/\y=x+1)\/(x/w<h-1/\y=x+w):=by
 unfold besL;simp only[Ml];constructor
 . rintro(((q | q) | q) | q)
   . split at q
     . simp at q;exact .inl ⟨by assumption,q⟩
     . cases q
   . split at q
     . simp at q;exact .inr (.inl ⟨by assumption,q⟩)
     . cases q
   . split at q
     . simp at q;exact .inr (.inr (.inl ⟨by assumption,q⟩))
     . cases q
   . split at q
     . simp at q;exact .inr (.inr (.inr ⟨by assumption,q⟩))
     . cases q
 . rintro(⟨q,rfl⟩ | ⟨q,rfl⟩ | ⟨q,rfl⟩ | ⟨q,rfl⟩)
   . rw[Md q];simp
   . rw[Md q];simp
   . rw[Md q];simp
   . rw[Md q];simp
theorem E4{y:Int}(w0:0<w)(x0:0<=x)(x1:x<h*w)(m:y∈besL h w x):x∈besL h w y:=by
 have m0:=MC x (PQ w0);have m1:=Mu x w0;have e:=NS x w;have q0:0<=x/w:=Int.ediv_nonneg x0 (Oi w0)
 have q1:x/w<h:=by
  refine Op w0 ?_;exact x1
 rw[FX] at m ⊢;generalize x/w=q at*;generalize x%w=r at*;rcases m with ⟨c,rfl⟩ | ⟨c,rfl⟩ | ⟨c,rfl⟩ | ⟨c,rfl⟩
 . have u:=(NV (a:=x-w) (q:=q-1) (r:=r) w0).mpr ⟨by rw[Int.mul_sub];omega,m0,m1⟩;exact .inr (.inr (.inr ⟨by rw[u.1];omega,by omega⟩))
 . have u:=(NV (a:=x-1) (q:=q) (r:=r-1) w0).mpr ⟨by omega,by omega,by omega⟩;exact .inr (.inr (.inl ⟨by rw[u.2];omega,by omega⟩))
 . have u:=(NV (a:=x+1) (q:=q) (r:=r+1) w0).mpr ⟨by omega,by omega,by omega⟩;exact .inr (.inl ⟨by rw[u.2];omega,by omega⟩)
 . have u:=(NV (a:=x+w) (q:=q+1) (r:=r) w0).mpr ⟨by rw[Int.mul_add];omega,m0,m1⟩;exact .inl ⟨by rw[u.1];omega,by omega⟩
theorem RC.symm{a b:Int}(w0:0<w)(hcs:∀ x∈cs,0<=x/\x<h*w)(r:RC h w cs a b):RC h w cs b a:=by
 induction r with
 | start m=>exact .start m
 | step r hy hc ih=>
  have hx:=r.mem;exact RC.trans (.step (.start hc) (E4 w0 (hcs _ hx).1 (hcs _ hx).2 hy) hx) ih
end L2
namespace L2
open PySem PySem.Spec PyProof.Rows
def wk9(t:String):Lean.MacroM Lean.Syntax:=do
 let x<-(t.splitOn " ").toArray.mapM fun s=>`(Lean.Parser.Tactic.simpLemma|$(Lean.mkIdent s.toName):term)
 `(tactic|(first|simp only[$x,*]|dsimp only|skip))
def ws1:String:="aD cz bI a7 cV cW w_c gy cR cX cA cY w_b w_not fu iR cZ c5 fv dS cB iS c6 fw dU hJ fz cC c7 c9 da b9 ca bO bJ bK bv fA fC fD fE fF fG fH fI fJ fK fL fN iV db bL dc iW de cb bM fO fP df dg dh List.getElem?_cons_zero List.getElem?_cons_succ Option.some.injEq exists_eq_left' exists_eq_left List.set_cons_zero List.set_cons_succ bC V.int.injEq V.bl.injEq V.ref.injEq V.str.injEq List.nil_append List.cons_append"
local macro_rules|`(tactic|walk_at "w")=>wk9 ws1
local macro_rules|`(tactic|symm)=>`(tactic|walk_at "w")
theorem aQ{n:Nat}(h:n<=1000):n<=sizeLine:=MK (aE h)
theorem lnR{n:Nat}(h:Nat.ble n 1000=true):n<=sizeLine:=aQ (MQ h)
def IsFl(H:Hp)(a:Addr)(h w g:Int):Prop:=H a=some (.tup [.int h,.int w,.int g])
variable{H:Hp}{p:Addr}
theorem Same.laid{H':Hp}{o:HO}(s:Same H H')(h:H' p=none):Same H (upd H' p o):=fun b u e=>by
 rw[ak (aA (s b u e) h)];exact s b u e
theorem aU{U:Addr}(O:HO)(h:H U=none):∃ z,upd H U O=z/\Same H z/\z U=some O:=⟨_,rfl,(LQ H).laid h,ag⟩
theorem Same.own{H':Hp}{o:HO}(s:Same H H')(h:H p=none):Same H (upd H' p o):=fun b u e=>by
 rw[ak (aA e h)];exact s b u e
variable{l:List Int}{i:Nat}
theorem eP{x:Int}(h:l[i]? =some x):l.getD i 0=x:=by
 rw[List.getD,h];rfl
variable{ns:List Int}
theorem pM{k:Int}(h0:0<=k)(h1:k<ns.length):atI (ns.map V.int) k=some (.int (ns.getD k.toNat 0)):=by
 have e:((k.toNat:Nat):Int)=k:=Int.toNat_of_nonneg h0;have hlt:k.toNat<ns.length:=by omega
 have:(ns.map V.int)[k.toNat]? =some (.int (ns.getD k.toNat 0)):=by
  rw[LW,LN hlt];simp[List.getD,hlt]
 have q:=dD this;rw[e] at q;exact q
theorem a9{α:Type}(l:List α):l.filter (fun _=>true)=l:=OO.mpr fun _ _=>rfl
theorem aP{y:V}(h:(l.map V.int)[i]? =some y):∃ z,l[i]? =some z/\y=.int z:=by
 rw[LW] at h
 cases e:l[i]? with
 | none=>rw[e] at h;cases h
 | some z=>rw[e] at h;cases h;exact⟨z,rfl,rfl⟩
theorem bF{l:List Addr}{y:V}(h:(l.map V.ref)[i]? =some y):∃ z,l[i]? =some z/\y=.ref z:=by
 rw[LW] at h
 cases e:l[i]? with
 | none=>rw[e] at h;cases h
 | some z=>rw[e] at h;cases h;exact⟨z,rfl,rfl⟩
theorem mP{h w:Int}(h0:1<=h)(h1:h<=6):CMul h w:=.inl ⟨by omega,by omega⟩
theorem f7{ps:List Addr}{k:Int}(h0:0<=k)(h:ps[k.toNat]? =some p):atI (ps.map V.ref) k=some (.ref p):=by
 have e:((k.toNat:Nat):Int)=k:=Int.toNat_of_nonneg h0;have q0:(ps.map V.ref)[k.toNat]? =some (.ref p):=by rw[LW,h];rfl
 have q:=dD q0;rw[e] at q;exact q
section
variable{k:Nat}{lo:Int}{n:Nat}{tt:TT}{te:TE}{fin:Addr->Hp->Prop}{σ0:St}{H1:Hp}{K:Frag}{a:Addr}
theorem lQ{n i:Nat}(b:Nat->Bool)(h:i<n)(hn:n<=900):((List.range i).filter b).length<=900:=by
 have:=L9 b (List.range i);rw[MS] at this;omega
theorem tS (b:Nat->Bool) (f:Nat->V) (hn:n<=900)
  (ht:∀ i H R,i<n->Same H1 H->(∀ H',Same H H'->R (b i) H')->tt (σ0.set k (some (.int (lo+i)))) H R)
  (he:∀ i H Q,i<n->b i=true->Same H1 H->(∀ H',Same H H'->Q (f i) H')->te (σ0.set k (some (.int (lo+i)))) H Q)
  (hd:∀ l H,H1 l=none->Same H1 H->H l=some (.lst (((List.range n).filter b).map f))->fin l H):
  CompR (Itr lo n) (gName k) tt te fin σ0 H1:=by
 refine pI (fun l i σ H=>(σ=σ0\/∃ cv,σ=σ0.set k cv)/\Same H1 H/\H l=some (.lst (((List.range i).filter b).map f))) (fun l hl=>⟨.inl rfl,(LQ H1).laid hl,by rw[ag];rfl⟩) ?_ (fun l σ H hl p=>hd l H hl p.2.1 p.2.2);rintro l i σ H hl hi ⟨hσ,s1,el⟩;rw[a7]
 have e:σ.set k (some (.int (lo+i)))=σ0.set k (some (.int (lo+i))):=by
  rcases hσ with rfl | ⟨cv,rfl⟩
  . rfl
  . exact Nr ..
 rw[e];refine ht i H _ hi s1 fun H2 s2=>?_;have el2:=s2 _ _ el
 cases hb:b i with
 | false=>
  rw[L4 LY];refine⟨.inr ⟨_,rfl⟩,s1.trans s2,?_⟩;rw[MM,MG,MI,hb]
  simpa using el2
 | true=>
  rw[Md rfl];refine he i H2 _ hi hb (s1.trans s2) fun H3 s3=>⟨_,s3 _ _ el2,by rw[LM];exact aE (L8 (lQ b hi hn) (by decide)),.inr ⟨_,rfl⟩,((s1.trans s2).trans s3).own hl,?_⟩;rw[ag,MM,MG,MI,hb];simp
theorem bN {xs:List V} (b:Nat->Bool) (f:Nat->V) (hn:xs.length<=900) (hq:SqL K H1 a xs)
  (ht:∀ i x H R,xs[i]? =some x->Same H1 H->(∀ H',Same H H'->R (b i) H')->tt (σ0.set k (some x)) H R)
  (he:∀ i x H Q,xs[i]? =some x->b i=true->Same H1 H->(∀ H',Same H H'->Q (f i) H')->te (σ0.set k (some x)) H Q)
  (hd:∀ l H,H1 l=none->Same H1 H->H l=some (.lst (((List.range xs.length).filter b).map f))->fin l H):
  CompR (Itl K a) (gName k) tt te fin σ0 H1:=by
 refine qU (xs:=xs) (fun l i σ H=>(σ=σ0\/∃ cv,σ=σ0.set k cv)/\Same H1 H/\H l=some (.lst (((List.range i).filter b).map f))) (fun l hl=>⟨.inl rfl,(LQ H1).laid hl,by rw[ag];rfl⟩) (fun l i σ H _ _ p=>p.2.1.seq hq) ?_ (fun l σ H hl p=>hd l H hl p.2.1 p.2.2);rintro l i x σ H hl hx ⟨hσ,s1,el⟩;have hi:i<xs.length:=(LP.mp hx).1;rw[a7]
 have e:σ.set k (some x)=σ0.set k (some x):=by
  rcases hσ with rfl | ⟨cv,rfl⟩
  . rfl
  . exact Nr ..
 rw[e];refine ht i x H _ hx s1 fun H2 s2=>?_;have el2:=s2 _ _ el
 cases hb:b i with
 | false=>
  rw[L4 LY];refine⟨.inr ⟨_,rfl⟩,s1.trans s2,?_⟩;rw[MM,MG,MI,hb]
  simpa using el2
 | true=>
  rw[Md rfl];refine he i x H2 _ hx hb (s1.trans s2) fun H3 s3=>⟨_,s3 _ _ el2,by rw[LM];exact aE (L8 (lQ b hi hn) (by decide)),.inr ⟨_,rfl⟩,((s1.trans s2).trans s3).own hl,?_⟩;rw[ag,MM,MG,MI,hb];simp
theorem A7 (b:Nat->Bool) (f:Nat->Int) (hn:n<=900)
  (ht:∀ i H R,i<n->Same H1 H->(∀ H',Same H H'->R (b i) H')->tt (σ0.set k (some (.int (lo+i)))) H R)
  (he:∀ i H Q,i<n->b i=true->Same H1 H->(∀ H',Same H H'->Q (.int (f i)) H')->te (σ0.set k (some (.int (lo+i)))) H Q)
  (hd:∀ l H,H1 l=none->Same H1 H->H l=some (.lst ((((List.range n).filter b).map f).map V.int))->fin l H):
  CompR (Itr lo n) (gName k) tt te fin σ0 H1:=
 tS b (fun i=>.int (f i)) hn ht he fun l H hl s1 el=>hd l H hl s1 (by rw[Mv];exact el)
theorem DJ(b:Int->Bool)(f:Int->Int)(xs:List Int):((List.range xs.length).filter fun i=>b (xs.getD i 0)).map (fun i=>V.int (f (xs.getD i 0)))=((xs.filter b).map f).map V.int:=by
 have e:xs=(List.range xs.length).map fun i=>xs.getD i 0:=by
  refine NC fun i=>?_;rw[LW];by_cases h:i<xs.length
  . rw[M7 h,LN h];simp[List.getD,h]
  . rw[Mz (by omega),Mz (by simpa using h)];rfl
 conv=>rhs;rw[e]
 rw[Oa,Mv,Mv];rfl
theorem bf {xs:List Int} (b:Int->Bool) (f:Int->Int) (hn:xs.length<=900) (hq:SqL K H1 a (xs.map V.int))
  (ht:∀ x H R,x∈xs->Same H1 H->(∀ H',Same H H'->R (b x) H')->tt (σ0.set k (some (.int x))) H R)
  (he:∀ x H Q,x∈xs->b x=true->Same H1 H->(∀ H',Same H H'->Q (.int (f x)) H')->te (σ0.set k (some (.int x))) H Q)
  (hd:∀ l H,H1 l=none->Same H1 H->H l=some (.lst (((xs.filter b).map f).map V.int))->fin l H):
  CompR (Itl K a) (gName k) tt te fin σ0 H1:=by
 refine bN (xs:=xs.map V.int) (fun i=>b (xs.getD i 0)) (fun i=>.int (f (xs.getD i 0))) (by rw[LM];exact hn) hq ?_ ?_ ?_
 . intro i x H R hx s1 h;obtain⟨z,hz,rfl⟩:=aP hx;rw[eP hz] at h;exact ht z H R (LV hz) s1 h
 . intro i x H Q hx hb s1 h;obtain⟨z,hz,rfl⟩:=aP hx;rw[eP hz] at h hb;exact he z H Q (LV hz) hb s1 h
 . intro l H hl s1 el;refine hd l H hl s1 ?_;rw[LM] at el;rw[el,DJ]
structure NewAt(H1 H:Hp)(l:Addr)(as:List Addr)(os:List HO):Prop where
 len:as.length=os.length
 nd:as.Nodup
 nl:l∉as
 fr:∀ a∈as,H1 a=none
 at_:∀(j:Nat) (a:Addr) (o:HO),as[j]? =some a->os[j]? =some o->H a=some o
theorem NewAt.nil{H1 H:Hp}{l:Addr}:NewAt H1 H l [] [] where
 len:=rfl
 nd:=Oj
 nl:=by simp
 fr:=fun a h=>nomatch h
 at_:=fun j a o h=>by simp at h
theorem NewAt.same{H1 H H':Hp}{l:Addr}{as:List Addr}{os:List HO}(x:NewAt H1 H l as os)(s:Same H H'):NewAt H1 H' l as os:=
 ⟨x.len,x.nd,x.nl,x.fr,fun j a o h1 h2=>s _ _ (x.at_ j a o h1 h2)⟩
theorem NewAt.mem{H1 H:Hp}{l:Addr}{as:List Addr}{os:List HO}(x:NewAt H1 H l as os){a:Addr}(h:a∈as):∃ o,H a=some o:=by
 obtain⟨j,hj,e⟩:=Nm.mp h;have hj2:j<os.length:=by rw[← x.len];exact hj
 exact⟨os[j],x.at_ j a os[j] (by rw[LN hj,e]) (LN hj2)⟩
theorem NewAt.more{H1 H H2:Hp}{l p:Addr}{as:List Addr}{os:List HO}{o u:HO}(x:NewAt H1 H l as os)(s1:Same H1 H)(s:Same H H2)(hp:H p=none)(e:H2 p=some o)(hl:H l=some u)(o':HO):NewAt H1 (upd H2 l o') l (as++[p]) (os++[o]):=by
 have npl:p≠l:=fun z=>by rw[z,hl] at hp;cases hp
 refine⟨by simp[x.len],?_,?_,?_,?_⟩
 . refine NU.mpr ⟨x.nd,by simp,fun a ha b hb z=>?_⟩;rw[L0.mp hb] at z;obtain⟨o2,e2⟩:=x.mem ha;rw[z,hp] at e2;cases e2
 . intro hm;rcases Ml.mp hm with hm | hm
   . exact x.nl hm
   . exact npl (L0.mp hm).symm
 . intro a ha;rcases Ml.mp ha with ha | ha
   . exact x.fr a ha
   . rw[L0.mp ha]
     cases q:H1 p with
     | none=>rfl
     | some v=>rw[s1 _ _ q] at hp;cases hp
 . intro j a o2 h1 h2;have LJ:=x.len;by_cases hj:j<as.length
   . rw[Mr hj] at h1;rw[Mr (by omega)] at h2;have nal:a≠l:=fun z=>x.nl (z ▸ LV h1);rw[ak nal];exact s _ _ (x.at_ j a o2 h1 h2)
   . rw[MD (by omega)] at h1;rw[MD (by omega)] at h2
     have e0:j-as.length=0:=by
      have:=(LP.mp h1).1;simp at this;omega
     rw[e0] at h1;rw[show j-os.length=0 by omega] at h2;simp at h1 h2;subst h1 h2;rw[ak npl];exact e
theorem nM (b:Nat->Bool) (o:Nat->HO) (hn:n<=900)
  (ht:∀ i H R,i<n->Same H1 H->(∀ H',Same H H'->R (b i) H')->tt (σ0.set k (some (.int (lo+i)))) H R)
  (he:∀ i H Q,i<n->b i=true->Same H1 H->(∀ a H',Same H H'->H a=none->H' a=some (o i)->Q (.ref a) H')->te (σ0.set k (some (.int (lo+i)))) H Q)
  (hd:∀ l as H,H1 l=none->Same H1 H->H l=some (.lst (as.map V.ref))->NewAt H1 H l as (((List.range n).filter b).map o)->fin l H):
  CompR (Itr lo n) (gName k) tt te fin σ0 H1:=by
 refine pI (fun l i σ H=>(σ=σ0\/∃ cv,σ=σ0.set k cv)/\Same H1 H/\∃ as:List Addr,H l=some (.lst (as.map V.ref))/\NewAt H1 H l as (((List.range i).filter b).map o)) (fun l hl=>⟨.inl rfl,(LQ H1).laid hl,[],by rw[ag];rfl,NewAt.nil⟩) ?_ (fun l σ H hl ⟨_,s1,as,el,x⟩=>hd l as H hl s1 el x);rintro l i σ H hl hi ⟨hσ,s1,as,el,x⟩;rw[a7]
 have e:σ.set k (some (.int (lo+i)))=σ0.set k (some (.int (lo+i))):=by
  rcases hσ with rfl | ⟨cv,rfl⟩
  . rfl
  . exact Nr ..
 rw[e];refine ht i H _ hi s1 fun H2 s2=>?_;have el2:=s2 _ _ el;have x2:=x.same s2;have s12:=s1.trans s2
 cases hb:b i with
 | false=>
  rw[L4 LY];refine⟨.inr ⟨_,rfl⟩,s12,as,el2,?_⟩;rw[MM,MG,MI,hb]
  simpa using x2
 | true=>
  rw[Md rfl];refine he i H2 _ hi hb s12 fun p H3 s3 hp ep=>⟨_,s3 _ _ el2,?_,.inr ⟨_,rfl⟩,(s12.trans s3).own hl,as++[p],?_,?_⟩
  . rw[LM,x2.len,LM];exact aE (L8 (lQ b hi hn) (by decide))
  . rw[ag];simp
  . have y:=x2.more s12 s3 hp ep el2 (.lst (as.map V.ref++[V.ref p]));rw[MM,MG,MI,hb]
    simpa using y
theorem pN {xs:List V} (b:Nat->Bool) (o:Nat->HO) (hn:xs.length<=900) (hq:SqL K H1 a xs)
  (ht:∀ i x H R,xs[i]? =some x->Same H1 H->(∀ H',Same H H'->R (b i) H')->tt (σ0.set k (some x)) H R)
  (he:∀ i x H Q,xs[i]? =some x->b i=true->Same H1 H->(∀ a H',Same H H'->H a=none->H' a=some (o i)->Q (.ref a) H')->te (σ0.set k (some x)) H Q)
  (hd:∀ l as H,H1 l=none->Same H1 H->H l=some (.lst (as.map V.ref))->NewAt H1 H l as (((List.range xs.length).filter b).map o)->fin l H):
  CompR (Itl K a) (gName k) tt te fin σ0 H1:=by
 refine qU (xs:=xs) (fun l i σ H=>(σ=σ0\/∃ cv,σ=σ0.set k cv)/\Same H1 H/\∃ as:List Addr,H l=some (.lst (as.map V.ref))/\NewAt H1 H l as (((List.range i).filter b).map o)) (fun l hl=>⟨.inl rfl,(LQ H1).laid hl,[],by rw[ag];rfl,NewAt.nil⟩) (fun l i σ H _ _ p=>p.2.1.seq hq) ?_ (fun l σ H hl ⟨_,s1,as,el,x⟩=>hd l as H hl s1 el x);rintro l i y σ H hl hy ⟨hσ,s1,as,el,x⟩;have hi:i<xs.length:=(LP.mp hy).1;rw[a7]
 have e:σ.set k (some y)=σ0.set k (some y):=by
  rcases hσ with rfl | ⟨cv,rfl⟩
  . rfl
  . exact Nr ..
 rw[e];refine ht i y H _ hy s1 fun H2 s2=>?_;have el2:=s2 _ _ el;have x2:=x.same s2;have s12:=s1.trans s2
 cases hb:b i with
 | false=>
  rw[L4 LY];refine⟨.inr ⟨_,rfl⟩,s12,as,el2,?_⟩;rw[MM,MG,MI,hb]
  simpa using x2
 | true=>
  rw[Md rfl];refine he i y H2 _ hy hb s12 fun p H3 s3 hp ep=>⟨_,s3 _ _ el2,?_,.inr ⟨_,rfl⟩,(s12.trans s3).own hl,as++[p],?_,?_⟩
  . rw[LM,x2.len,LM];exact aE (L8 (lQ b hi hn) (by decide))
  . rw[ag];simp
  . have z:=x2.more s12 s3 hp ep el2 (.lst (as.map V.ref++[V.ref p]));rw[MM,MG,MI,hb]
    simpa using z
end
theorem DVs.of_get{K:Frag}{H:Hp}:∀{xs:List V} {ds:List PyData},xs.length=ds.length->(∀(i:Nat) x d,xs[i]? =some x->ds[i]? =some d->DV K H x d)->DVs K H xs ds
 | [],[],_,_=>.nil
 | [],_::_,h,_=>by simp at h
 | _::_,[],h,_=>by simp at h
 | x::xs,d::ds,h,f=>.cons (f 0 x d rfl rfl) (DVs.of_get (by simpa using h) fun i y e h1 h2=>f (i+1) y e (by simpa using h1) (by simpa using h2))
theorem xg:∀{ds:List PyData},(∀ d∈ds,PyData.canLay0 d=true)->PyData.canLayAll0 ds=true
 | [],_=>rfl
 | d::r,h=>by rw[PyData.canLayAll0,h d Ma,xg fun e he=>h e (L5 _ he)];rfl
theorem qX{n:Nat}:∀{ds:List PyData},(∀ d∈ds,PyData.depth d<=n)->PyData.depthAll ds<=n
 | [],_=>MV _
 | d::r,h=>by rw[PyData.depthAll];exact Nat.max_le.mpr ⟨h d Ma,qX fun e he=>h e (L5 _ he)⟩
theorem sS{α:Type}[DecidableEq α](g:α->PyData)(hg:∀ a b,PyData.eqv (g a) (g b)=decide (a=b)):∀ xs ys:List α,PyData.eqvAll (xs.map g) (ys.map g)=decide (xs=ys)
 | [],[]=>rfl
 | [],_::_=>rfl
 | _::_,[]=>rfl
 | x::xs,y::ys=>by
  rw[MB,MB,PyData.eqvAll,hg,sS g hg xs ys,Mn];simp
structure IsLL(H:Hp)(l:Addr)(as:List Addr)(LH:List (List Int)):Prop where
 top:H l=some (.lst (as.map V.ref))
 len:as.length=LH.length
 at_:∀(j:Nat) (a:Addr) (xs:List Int),as[j]? =some a->LH[j]? =some xs->H a=some (.lst (xs.map V.int))
theorem IsLL.same{H':Hp}{l:Addr}{as:List Addr}{LH:List (List Int)}(x:IsLL H l as LH)(s:Same H H'):IsLL H' l as LH:=
 ⟨s _ _ x.top,x.len,fun j a xs h1 h2=>s _ _ (x.at_ j a xs h1 h2)⟩
def lA(K:Frag):Sp:=fun vs H Q _=>∃(a:Addr) (h w g c:Int),vs=[.ref a,.int c]/\IsFl H a h w g/\0<w/\w<100/\∀ p,H p=none->Q (.ref p) (upd H p (.tup [.int (c/w),.int (c%w)]))
def pO(K:Frag):TS:=
 (tSeq (tAsg (tOp cIx (tVar 0) (tC (.int 1))) (gName 2))
  (tRet (tTup (tCons (tOp cDiv (tVar 1) (tVar 2)) (tCons (tOp cMod (tVar 1) (tVar 2)) tNil)))))
abbrev eD9(Q:VK):Ends:={nx:=fun _ H'=>Q .non H',rt:=Q}
variable{K:Frag}{vs:List V}
theorem Cn{Q:VK}{E:XK}(h:lA K vs H Q E):pO K (eD9 Q) (start ["floor","cell","wide"] vs) H:=by
 obtain⟨a,h,w,g,c,rfl,ha,w0,w1,k⟩:=h;show pO K _ [some (.ref a),some (.int c),none] H;unfold pO;symm;rw[hX ha];refine aZ (a:=V.int w) rfl ?_;symm;refine⟨⟨w0,by omega⟩,w0,lnR rfl,k⟩
theorem uk(h w c:Int):(besL h w c).length<=4:=by
 unfold besL;simp only[Mt]
 split <;> split <;> split <;> split <;> simp
def dO(K:Frag):Sp:=fun vs H Q _=>∃(a:Addr) (h w g c:Int),vs=[.ref a,.int c]/\IsFl H a h w g/\0<w/\w<100/\∀ l H',Same H H'->H l=none->H' l=some (.lst ((besL h w c).map V.int))->Q (.ref l) H'
def qY(K:Frag):TS:=
 (tSeq (tAsg (tOp cIx (tVar 0) (tC (.int 0))) (gName 2))
  (tSeq (tAsg (tOp cIx (tVar 0) (tC (.int 1))) (gName 3))
  (tSeq (tAsg (tCall (lA K) [] E0 (tCons (tVar 0) (tCons (tVar 1) tNil))) (gName 4))
  (tSeq (tAsg (tLst tNil) (gName 5))
  (tSeq (tIfS (tTest (tOp (cCmp fun i j=>decide (j<i)) (tOp cIx (tVar 4) (tC (.int 0))) (tC (.int 0)))) (tDrop (tBM K "list" bD (tVar 5) (tCons (tOp cSub (tVar 1) (tVar 3)) tNil))) tNext)
  (tSeq (tIfS (tTest (tOp (cCmp fun i j=>decide (j<i)) (tOp cIx (tVar 4) (tC (.int 1))) (tC (.int 0)))) (tDrop (tBM K "list" bD (tVar 5) (tCons (tOp cSub (tVar 1) (tC (.int 1))) tNil))) tNext)
  (tSeq (tIfS (tTest (tOp (cCmp fun i j=>decide (i<j)) (tOp cIx (tVar 4) (tC (.int 1))) (tOp cSub (tVar 3) (tC (.int 1))))) (tDrop (tBM K "list" bD (tVar 5) (tCons (tOp cAdd (tVar 1) (tC (.int 1))) tNil))) tNext)
  (tSeq (tIfS (tTest (tOp (cCmp fun i j=>decide (i<j)) (tOp cIx (tVar 4) (tC (.int 0))) (tOp cSub (tVar 2) (tC (.int 1))))) (tDrop (tBM K "list" bD (tVar 5) (tCons (tOp cAdd (tVar 1) (tVar 3)) tNil))) tNext)
  (tRet (tVar 5))))))))))
theorem vo {D:Ends} {σ:St} {t:TT} {e:TE} {b:Bool} {v:Int} {l:Addr} (hσ:σ[i]? =some (some (.ref l))) (ht:∀ R,R b H->t σ H R) (hl:H l=some (.lst (ns.map V.int))) (hn:ns.length<=900)
  (he:∀ Q,Q (.int v) H->e σ H Q) (k:∀ H',(H' l=some (.lst ((ns++if b=true then [v] else []).map V.int)))->(∀ c,c≠l->H' c=H c)->D.nx σ H'):
  tIfS t (tDrop (tBM K "list" bD (tVar i) (tCons e tNil))) tNext D σ H:=by
 rw[ax];refine ht _ ?_
 cases b with
 | false=>
  refine iteF ?_;rw[cz];exact k H (by simpa using hl) fun _ _=>rfl
 | true=>
  refine iteT ?_;rw[cA,hJ,HZ];refine⟨_,hσ,bd hl,?_⟩;rw[cB];refine he _ ?_;rw[dS,dW hl];refine⟨by rw[LM];exact aE (by omega),k _ ?_ fun c hc=>ak hc⟩;rw[ag];simp
theorem DK{Q:VK}{E:XK}(h:dO K vs H Q E):qY K (eD9 Q) (start ["floor","cell","high","wide","spot","found"] vs) H:=by
 obtain⟨a,h,w,g,c,rfl,ha,w0,w1,k⟩:=h;show qY K _ [some (.ref a),some (.int c),none,none,none,none] H;unfold qY;symm;rw[hX ha];refine aZ (a:=V.int h) rfl ?_;symm;rw[hX ha];refine aZ (a:=V.int w) rfl ?_;symm;refine⟨a,h,w,g,c,rfl,ha,w0,w1,fun p hp=>?_⟩;symm;refine⟨aQ (by decide),fun l hl=>?_⟩;have npl:p≠l:=fun e=>by rw[e,ag] at hl;cases hl
 have hl0:H l=none:=by rw[ak npl.symm] at hl;exact hl
 have hpS:∀ H':Hp,(∀ d,d≠l->H' d=upd H p (.tup [.int (c/w),.int (c%w)]) d)->H' p=some (.tup [.int (c/w),.int (c%w)]):=fun H' e=>by rw[e p npl,ag]
 refine vo (ns:=[]) (l:=l) (i:=5) (b:=decide (0<c/w)) (v:=c-w) rfl (fun R q=>?_) ag (by decide) (fun Q q=>?_) fun H1 e1 f1=>?_
 . symm;rw[hX (hpS _ fun d hd=>ak hd)];refine aZ rfl ?_;symm;exact q
 . symm;exact q
 symm;refine vo (l:=l) (i:=5) (b:=decide (0<c%w)) (v:=c-1) rfl (fun R q=>?_) e1 (by simp;split <;> simp) (fun Q q=>?_) fun H2 e2 f2=>?_
 . symm;rw[hX (hpS _ fun d hd=>by rw[f1 d hd,ak hd])];refine aZ rfl ?_;symm;exact q
 . symm;exact q
 symm;refine vo (l:=l) (i:=5) (b:=decide (c%w<w-1)) (v:=c+1) rfl (fun R q=>?_) e2 (by simp;split <;> split <;> simp) (fun Q q=>?_) fun H3 e3 f3=>?_
 . symm;rw[hX (hpS _ fun d hd=>by rw[f2 d hd,f1 d hd,ak hd])];refine aZ rfl ?_;symm;exact q
 . symm;exact q
 symm;refine vo (l:=l) (i:=5) (b:=decide (c/w<h-1)) (v:=c+w) rfl (fun R q=>?_) e3 (by simp;split <;> split <;> split <;> simp) (fun Q q=>?_) fun H4 e4 f4=>?_
 . symm;rw[hX (hpS _ fun d hd=>by rw[f3 d hd,f2 d hd,f1 d hd,ak hd])];refine aZ rfl ?_;symm;exact q
 . symm;exact q
 symm;refine k l H4 (fun b o e=>?_) hl0 ?_
 . have nb:b≠l:=aA e hl0;have nbp:b≠p:=aA e hp;rw[f4 b nb,f3 b nb,f2 b nb,f1 b nb,ak nb,ak nbp];exact e
 . rw[e4];unfold besL;simp[LO]
structure FlOk(h w g:Int):Prop where
 h0:1<=h
 h1:h<=6
 w0:1<=w
 w1:w<=6
 m:h*w<=16
 g0:1<=g
 g1:g<=6
section
variable{K:Frag}{H:Hp}{Q:VK}
theorem zP{p:Addr}{xs:List V}(hp:H p=some (.lst xs))(h:Q (.bl true) H):kIsi [.ref p,.ty "list"] H Q:=by
 refine⟨by decide,aZ (a:="list") (by unfold lP;dsimp only;rw[hp]) ?_⟩;rw[show isTy "list" "list"=true by decide];exact h
theorem zQ{p:Addr}{xs:List V}(hp:H p=some (.tup xs))(h:Q (.bl true) H):kIsi [.ref p,.ty "tuple"] H Q:=by
 refine⟨by decide,aZ (a:="tuple") (by unfold lP;dsimp only;rw[hp]) ?_⟩;rw[show isTy "tuple" "tuple"=true by decide];exact h
theorem E5{p q:Addr}{xs ys:List V}(hp:H p=some (.lst xs))(hq:H q=some (.lst ys))(hn:xs.length+ys.length<=1000)(h:Q .non (upd H p (.lst (xs++ys)))):lK (.ref p) [.ref q] H Q:=by
 show bnd (unM (H p)) _;rw[hp];show bnd (unM (H q)) _;rw[hq];exact⟨MK (aE hn),h⟩
theorem Ha{n:Nat}{t:TGs}{σ:St}{k:St->Hp->Prop}{p:Addr}{xs:List V}(hp:H p=some (.tup xs))(hn:xs.length=n)(h:t xs σ H k):gTup K n t (.ref p) σ H k:=⟨p,xs,rfl,PM hp,hn,h⟩
theorem E6{i j:Nat}{x y:V}{σ:St}{k:St->Hp->Prop}:gCons (gName i) (gCons (gName j) gNil) [x,y] σ H k=k ((σ.set i (some x)).set j (some y)) H:=by
 refine propext ⟨?_,fun h=>⟨x,[y],rfl,y,[],rfl,rfl,h⟩⟩;rintro⟨v,r,e,v2,r2,e2,e3,h⟩;cases e;cases e2;exact h
end
end L2
namespace L2
open PySem PySem.Builtin PySem.Builtin.Str
def tx(l:List Nat):Str:=⟨l.toArray⟩
theorem vp(l:List Nat):(tx l).cps.toList=l:=by simp[tx]
theorem Id(x:Str):tx x.cps.toList=x:=by cases x;simp[tx]
theorem DL{a b:List Nat}(h:tx a=tx b):a=b:=by rw[← vp a,h,vp]
theorem f8(l:List Nat):(tx l).length=l.length:=by simp[tx,Str.length]
theorem vq(a b:List Nat):tx a++tx b=tx (a++b):=by
 refine Str.ext' ?_;rw[Str.cps_append];simp[tx]
theorem bg(a b:List Nat):decide (tx a=tx b)=decide (a=b):=by
 by_cases h:a=b
 . subst h;simp
 . have:¬ tx a=tx b:=fun e=>h (DL e);rw[LR h,LR this]
def catL(c:Nat):List (List Nat)->List Nat
 | []=>[]
 | [x]=>x
 | x::y::r=>x++c::catL c (y::r)
theorem xh(c:Nat):∀ ts:List (List Nat),Str.join (tx [c]) (ts.map tx)=tx (catL c ts)
 | []=>rfl
 | [x]=>rfl
 | x::y::r=>by
  show tx x++tx [c]++Str.join (tx [c]) ((y::r).map tx)=_;rw[xh c (y::r),vq,vq];show tx _=tx (x++c::catL c (y::r));rw[NB];rfl
theorem E7(sep:Str)(ts:List Str):Txt.join sep ts=Str.join sep ts:=StrLaws.glued_eq_join sep ts
theorem BN{c:Nat}:∀{a b x y:List Nat},c∉a->c∉b->a++c::x=b++c::y->a=b/\x=y
 | [],[],_,_,_,_,h=>⟨rfl,by simpa using h⟩
 | [],b::bs,_,_,_,hb,h=>by
  simp at h;exact absurd (L6.mpr (.inl h.1)) hb
 | a::as,[],_,_,ha,_,h=>by
  simp at h;exact absurd (L6.mpr (.inl h.1.symm)) ha
 | a::as,b::bs,x,y,ha,hb,h=>by
  simp at h;have:=BN (fun z=>ha (L5 _ z)) (fun z=>hb (L5 _ z)) h.2;exact⟨by rw[h.1,this.1],this.2⟩
theorem zR{c:Nat}:∀{x:List Nat} {r:List (List Nat)} {y:List Nat},c∈catL c (x::y::r):=by
 intro x r y;show c∈x++c::_;simp
theorem zS{c:Nat}:∀{xs ys:List (List Nat)},xs≠[]->ys≠[]->(∀ x∈xs,c∉x)->(∀ y∈ys,c∉y)->catL c xs=catL c ys->xs=ys
 | [],_,h,_,_,_,_=>absurd rfl h
 | _,[],_,h,_,_,_=>absurd rfl h
 | [x],[y],_,_,_,_,h=>by
  have h':x=y:=h;rw[h']
 | [x],y::z::r,_,_,hx,_,h=>by
  have h':x=catL c (y::z::r):=h;exact absurd (h' ▸ zR) (hx x Ma)
 | x::z::r,[y],_,_,_,hy,h=>by
  have h':catL c (x::z::r)=y:=h;exact absurd (h' ▸ zR) (hy y Ma)
 | x::z::r,y::u::s,_,_,hx,hy,h=>by
  obtain⟨e1,e2⟩:=BN (hx x Ma) (hy y Ma) (show x++c::catL c (z::r)=y++c::catL c (u::s) from h);rw[e1,zS (by simp) (by simp) (fun w hw=>hx w (L5 _ hw)) (fun w hw=>hy w (L5 _ hw)) e2]
theorem E8(x y:Str):Txt.split x y≠[]:=by
 intro h;unfold Txt.split at h
 split at h
 . cases h
 . split at h
   . cases h
   . rw[StrLaws.partsBetween_eq] at h;obtain⟨p,r,e⟩:=StrLaws.partsFrom_ne x y.length 0 (occurrences x y 0 x.length (x.length+1));rw[e] at h;cases h
theorem E9{c:Nat}{LC:List (List Nat)}(hne:LC≠[])(hf:∀ r∈LC,c∉r):Txt.split (tx (catL c LC)) (tx [c])=LC.map tx:=by
 have h1:=StrLaws.join_split (tx (catL c LC)) (tx [c]);have h2:∀ p∈Txt.split (tx (catL c LC)) (tx [c]),c∉p.cps.toList:=StrLaws.split_free _ c;have h3:=E8 (tx (catL c LC)) (tx [c]);generalize Txt.split (tx (catL c LC)) (tx [c])=S at*
 have e:S=(S.map (·.cps.toList)).map tx:=by
  rw[Mv]
  conv=>lhs;rw[← List.map_id S]
  exact OP fun x _=>(Id x).symm
 rw[e,xh] at h1;have h4:=DL h1;have h5:=zS (c:=c) (xs:=S.map (·.cps.toList)) (ys:=LC) (by simpa using h3) hne (fun x hx=>by obtain⟨p,hp,rfl⟩:=L1.mp hx;exact h2 p hp) hf h4;rw[e,h5]
end L2
namespace L2
end L2
namespace L2
open PySem PySem.Spec PyProof.Rows
local macro_rules|`(tactic|walk_at "w")=>wk9 ws1
local macro_rules|`(tactic|symm)=>`(tactic|walk_at "w")
section
variable{k:Nat}{tt:TT}{te:TE}{fin:Addr->Hp->Prop}{σ0:St}{H1:Hp}
theorem DM {cs:List Nat} (b:Nat->Bool) (f:Nat->V) (hn:cs.length<=900)
  (ht:∀ i c H R,cs[i]? =some c->Same H1 H->(∀ H',Same H H'->R (b i) H')->tt (σ0.set k (some (.str (tx [c])))) H R)
  (he:∀ i c H Q,cs[i]? =some c->b i=true->Same H1 H->(∀ H',Same H H'->Q (f i) H')->te (σ0.set k (some (.str (tx [c])))) H Q)
  (hd:∀ l H,H1 l=none->Same H1 H->H l=some (.lst (((List.range cs.length).filter b).map f))->fin l H):
  CompR (Its (tx cs)) (gName k) tt te fin σ0 H1:=by
 intro l hl;have hsz:(tx cs).cps.size=cs.length:=by simp[tx]
 refine⟨fun i m σ H=>m=cs.length-i/\i<=cs.length/\(σ=σ0\/∃ cv,σ=σ0.set k cv)/\Same H1 H/\H l=some (.lst (((List.range i).filter b).map f)),⟨cs.length,by simp,MV _,.inl rfl,(LQ H1).laid hl,by rw[ag];rfl⟩,?_⟩;rintro i m σ H ⟨rfl,hi,hσ,s1,el⟩;by_cases hlt:i<cs.length
 . refine .inr ⟨by show i < (tx cs).cps.size;rw[hsz];exact hlt,fun σ H=>(σ=σ0\/∃ cv,σ=σ0.set k cv)/\Same H1 H/\H l=some (.lst (((List.range (i+1)).filter b).map f)),fun σ' H' p'=>⟨cs.length - (i+1),by omega,rfl,hlt,p'⟩,?_⟩;rintro x H' ⟨rfl,c,hc,rfl⟩;have hc':cs[i]? =some c:=by simpa [tx] using hc
   show gName k (.str (tx [c])) σ H' _;rw[a7]
   have e:σ.set k (some (.str (tx [c])))=σ0.set k (some (.str (tx [c]))):=by
    rcases hσ with rfl | ⟨cv,rfl⟩
    . rfl
    . exact Nr ..
   rw[e];refine ht i c H' _ hc' s1 fun H2 s2=>?_;have el2:=s2 _ _ el
   cases hb:b i with
   | false=>
    rw[L4 LY];refine⟨.inr ⟨_,rfl⟩,s1.trans s2,?_⟩;rw[MM,MG,MI,hb]
    simpa using el2
   | true=>
    rw[Md rfl];refine he i c H2 _ hc' hb (s1.trans s2) fun H3 s3=>⟨_,s3 _ _ el2,by rw[LM];exact aE (L8 (lQ b hlt hn) (by decide)),.inr ⟨_,rfl⟩,((s1.trans s2).trans s3).own hl,?_⟩;rw[ag,MM,MG,MI,hb];simp
 . have e:i=cs.length:=by omega
   subst e;exact .inl ⟨by show(tx cs).cps.size<=_;rw[hsz];exact Mj _,hd l H hl s1 el⟩
end
theorem qj{α:Type}(xs:List Int)(g:Int->α):(List.range xs.length).map (fun i=>g (xs.getD i 0))=xs.map g:=by
 have e:xs=(List.range xs.length).map fun i=>xs.getD i 0:=by
  refine NC fun i=>?_;rw[LW];by_cases h:i<xs.length
  . rw[M7 h,LN h];simp[List.getD,h]
  . rw[Mz (by omega),Mz (by simpa using h)];rfl
 conv=>rhs;rw[e]
 rw[Mv];rfl
theorem zT{sep:Str}{ts:List Str}(h1:ts.length<=1000)(h2:∀ t∈ts,t.length<=1000)(h3:sep.length<=10):JoinOk sep ts=true:=by
 unfold JoinOk;rw[MN];refine StrLaws.joinFits (B:=1000) h2 ?_;have a1:ts.length*1000<=1000*1000:=OE _ h1;have a2:ts.length*sep.length<=1000*10:=OZ h1 h3;omega
abbrev rIsN:R2:=fun x y H Q=>y=.non/\Q (.bl (decide (x=.non))) H
abbrev rNotN:R2:=fun x y H Q=>y=.non/\Q (.bl (!decide (x=.non))) H
def kStr:List V->Hp->VK->Prop
 | [.int i],H,Q=>i.natAbs.log2<1920/\Q (.str (Str.ofString (toString i))) H
 | _,_,_=>False
section
variable{X:Cx}
theorem yh:CallR X (.type "str") kStr:=by
 intro LB s σ H xs us Q I r h;unfold kStr at h
 split at h
 . obtain⟨hi,q⟩:=h
   cases r with
   | cons r0 rr=>
    cases rr;obtain⟨t,rfl⟩:=r0;exact PySem.P.str_of_int hi ⟨.str _,H,I.tok _,⟨_,rfl⟩,q⟩
 . exact h.elim
end
section
variable{K:Frag}{H:Hp}{Q:VK}
theorem kr{x:V}:rIsN x .non H Q=Q (.bl (decide (x=.non))) H:=by simp[rIsN]
theorem gP{x:V}:rNotN x .non H Q=Q (.bl (!decide (x=.non))) H:=by simp[rNotN]
theorem iZ{i:Int}:kStr [.int i] H Q=(i.natAbs.log2<1920/\Q (.str (Str.ofString (toString i))) H):=rfl
end
structure Bt2(mg:Str->Option Value):Prop extends Bt mg where
 all_:mg "all"=none
 sum_:mg "sum"=none
 enumerate_:mg "enumerate"=none
section
variable{K:Frag}{H:Hp}{Q:VK}{D:Ends}{σ:St}{g:TG}{tb:TS}{ta:TA}{ix:List (Option Nat)}{tt:TT}{te tf:TE}{k:Nat}
theorem i3:tIf tt te tf σ H Q=tt σ H fun c H1=>if c=true then te σ H1 Q else tf σ H1 Q:=rfl
theorem cF:tComp ix (pF ta) g tt te σ H Q=ta σ H fun vs H1=>∃ i j:Int,vs=[.int i,.int j]/\(-(2^62)<=i/\i<2^62/\ -(2^62)<=j/\j<2^62)/\CompR (Itr i (j-i).toNat) g tt te (fun l H'=>Q (.ref l) H') (subσ ix σ) H1:=rfl
theorem bY:sComp k ix (pF ta) g tt te D σ H=ta σ H fun vs H1=>∃ i j:Int,vs=[.int i,.int j]/\(-(2^62)<=i/\i<2^62/\ -(2^62)<=j/\j<2^62)/\CompR (Itr i (j-i).toNat) g tt te (fun l H'=>D.nx (σ.set k (some (.ref l))) H') (subσ ix σ) H1:=rfl
theorem isiE{x:V}{n t:String}{b:Bool}(hx:lP H x=some t)(hn:lJ n=true)(hb:isTy t n=b):kIsi [x,.ty n] H Q=Q (.bl b) H:=by
 subst hb;show(lJ n=true/\bnd (lP H x) fun t=>Q (.bl (isTy t n)) H)=_;rw[hx];simp only[hn,true_and,bC]
theorem cG{i:Int}:kIsi [.int i,.ty "int"] H Q=Q (.bl true) H:=isiE (t:="int") rfl (by decide) (by decide)
theorem cH{i:Int}:kIsi [.int i,.ty "bool"] H Q=Q (.bl false) H:=isiE (t:="int") rfl (by decide) (by decide)
theorem cI{i:Int}:kIsi [.int i,.ty "str"] H Q=Q (.bl false) H:=isiE (t:="int") rfl (by decide) (by decide)
theorem cJ{i:Bool}:kIsi [.bl i,.ty "bool"] H Q=Q (.bl true) H:=isiE (t:="bool") rfl (by decide) (by decide)
theorem cK{i:Bool}:kIsi [.bl i,.ty "int"] H Q=Q (.bl true) H:=isiE (t:="bool") rfl (by decide) (by decide)
theorem cL{i:Str}:kIsi [.str i,.ty "str"] H Q=Q (.bl true) H:=isiE (t:="str") rfl (by decide) (by decide)
theorem cM{i:Bool}:kIsi [.bl i,.ty "str"] H Q=Q (.bl false) H:=isiE (t:="bool") rfl (by decide) (by decide)
theorem f9{A B:Prop}:(if true=true then A else B)=A:=Md rfl
theorem ga{A B:Prop}:(if false=true then A else B)=B:=L4 LY
theorem gb{i:Int}:rU (fun i=>.int (-i)) (.int i) H Q=Q (.int (-i)) H:=by
 refine propext ⟨?_,fun h=>⟨i,rfl,h⟩⟩;rintro⟨j,e,h⟩;cases e;exact h
theorem ixT{p:Addr}{i:Int}{xs:List V}{v:V}(h:H p=some (.tup xs))(e:atI xs i=some v)(q:Q v H):cIx (.ref p) (.int i) H Q:=by
 rw[hX h];exact aZ e q
theorem ixL{p:Addr}{i:Int}{xs:List V}{v:V}(h:H p=some (.lst xs))(e:atI xs i=some v)(q:Q v H):cIx (.ref p) (.int i) H Q:=by
 rw[Cl h];exact aZ e q
theorem ixI{p:Addr}{i:Int}{ns:List Int}(h:H p=some (.lst (ns.map V.int)))(h0:0<=i)(h1:i<ns.length)(q:Q (.int (ns.getD i.toNat 0)) H):cIx (.ref p) (.int i) H Q:=ixL h (pM h0 h1) q
end
def cMulB:R2
 | .int i,.int j,H,Q=>IntMulOk i j/\Q (.int (i*j)) H
 | _,_,_,_=>False
end L2
namespace Att
open PySem PySem.W PySem.Calls PyProof.Rows
end Att
namespace L2
open PySem PySem.Spec PyProof.Rows
section
variable{K:Frag}{H:Hp}{Q:VK}{D:Ends}{σ:St}
theorem IB{i j:Int}:cMulB (.int i) (.int j) H Q=(IntMulOk i j/\Q (.int (i*j)) H):=rfl
theorem kt{i j:Int}:cPow (.int i) (.int j) H Q=(CPow i j/\Q (.int (i^j.toNat)) H):=rfl
theorem xi{ix:List (Option Nat)}{tl:TE}{g:TG}{tt:TT}{te:TE}:tComp ix (iTup K tl) g tt te σ H Q=tl σ H fun x H1=>∃ a,x=.ref a/\(∃ xs,SqT K H1 a xs)/\CompR (Itt K a) g tt te (fun l H'=>Q (.ref l) H') (subσ ix σ) H1:=rfl
theorem Co{p:Addr}{bs:List Bool}(hp:H p=some (.lst (bs.map V.bl)))(h:Q (.bl (bs.any id)) H):kAny [.ref p] H Q:=by
 show bnd (unL (H p)) _;rw[hp];exact aZ (a:=bs.map V.bl) rfl ⟨bs,rfl,h⟩
theorem lR{p q:Addr}{xs ys:List V}(hp:H p=some (.lst xs))(hq:H q=some (.lst ys))(hn:xs.length+ys.length<=1000)(h:∀ r,H r=none->Q (.ref r) (upd H r (.lst (xs++ys)))):cAdd (.ref p) (.ref q) H Q:=by
 show bnd (unM (H p)) _;rw[hp];refine aZ (a:=xs) rfl ?_;rw[hq];exact aZ (a:=ys) rfl ⟨MK (aE hn),h⟩
theorem zU {g:TG} {tt:TT} {te:TE} {a:Addr} {xs:List V} {fin:Addr->Hp->Prop} {σ0:St} {H1:Hp} (Pv:Addr->Nat->St->Hp->Prop) (h0:∀ l,H1 l=none->Pv l 0 σ0 (upd H1 l (.lst []))) (hq:∀ l i σ H,H1 l=none->i<=xs.length->Pv l i σ H->SqT K H a xs)
  (hs:∀ l i x σ H,H1 l=none->xs[i]? =some x->Pv l i σ H->g x σ H fun σ2 H3=>tt σ2 H3 fun b H4=>if b=true then te σ2 H4 fun y H5=>∃ ys,H5 l=some (.lst ys)/\ys.length<sizeLine/\Pv l (i+1) σ2 (upd H5 l (.lst (ys++[y]))) else Pv l (i+1) σ2 H4)
  (hd:∀ l σ H,H1 l=none->Pv l xs.length σ H->fin l H):CompR (Itt K a) g tt te fin σ0 H1:=by
 intro l hl0;refine⟨fun i m σ H=>m=xs.length-i/\i<=xs.length/\Pv l i σ H,⟨xs.length,by simp,MV _,h0 l hl0⟩,?_⟩;rintro i m σ H ⟨rfl,hi,p⟩;have q:=hq l i σ H hl0 hi p;by_cases hlt:i<xs.length
 . refine .inr ⟨⟨xs,xs[i],q,by simp[hlt]⟩,Pv l (i+1),fun σ' H' p'=>⟨xs.length - (i+1),by omega,rfl,hlt,p'⟩,fun x H' y=>?_⟩;obtain⟨e,y⟩:=y;subst e;exact hs l i x σ _ hl0 (y xs q) p
 . have e:i=xs.length:=by omega
   subst e;exact .inl ⟨⟨xs,q,Mj _⟩,hd l σ H hl0 p⟩
end
inductive RK where
 | Rule | Unlike | Sum | Rising | Seen | Count | Joined | NoSquare | Ring
 deriving DecidableEq
structure RCl (ι:Type) where
 A:ι->Addr
 ok:ι->Bool
section
variable{ι:Type}
def tFldK(c:RCl ι)(ta:TE)(f:Str):TE:=fun σ H Q=>ta σ H fun x H1=>∃ a k dx fs v,x=.ref a/\c.ok k=true/\H1 a=some (.ins (c.A k) dx fs)/\fs.lookup f=some v/\Q v H1
def sFldK(c:RCl ι)(ta tv:TE)(f:Str):TS:=fun D σ H=>tv σ H fun y H1=>ta σ H1 fun x H2=>∃ a k dx fs,x=.ref a/\c.ok k=true/\H2 a=some (.ins (c.A k) dx fs)/\fs.length<1000/\
 D.nx σ (upd H2 a (.ins (c.A k) dx (putF f y fs)))
def aF(c:RCl ι)(okm:ι->Bool)(m:Str)(sp:ι->Sp)(ta:TE)(t:TA):TE:=fun σ H Q=>ta σ H fun x H1=>∃ a k dx fs,x=.ref a/\okm k=true/\H1 a=some (.ins (c.A k) dx fs)/\fs.lookup m=none/\
 t σ H1 fun vs H2=>sp k (x::vs) H2 Q E0
structure FldK(K:Frag)(c:RCl ι)(f:Str):Prop where
 ex:∀ k,c.ok k=true->Cls K (c.A k)/\NoAttr K (c.A k) f
structure MCal(P:Program)(w:World)(K:Frag)(mg:Str->Option Value)(base:Heap)(c:RCl ι)(okm:ι->Bool)(k:Nat)(m:Str)(ps:List Str)(sp:ι->Sp):Prop where
 ex:∀ i,okm i=true->∃(f:Addr) (fd:FuncData),Cls K (c.A i)/\Meth K (c.A i) m f/\FnOk P w K mg base CX0 k f fd ps (sp i)/\Binds K fd ps []
structure KCal(P:Program)(w:World)(K:Frag)(mg:Str->Option Value)(base:Heap)(k:Nat)(x:Str)(C:Addr)(ps:List Str)(sp:Sp):Prop where
 ex:∃(f:Addr) (fd:FuncData),Mk K C f/\FnOk P w K mg base CX0 k f fd ps sp/\mg x=some (.ref C)/\Binds K fd ps []
end
section
variable{ι:Type}{X:Cx}{c:RCl ι}{o e value:Expr}{es:List Expr}{f x m:Str}{p pos pos' apos:Pos}{ta tv:TE}{t:TA}{okm:ι->Bool}{k n:Nat}{ps:List Str}{sp:ι->Sp}{sp1:Sp}{C:Addr}
theorem bz(he:PE X e ta)(F:FldK X.K c f)(hb:attributeBase e f X.env (eval e X.env)=eval e X.env:=by rfl):PE X (.Attribute e f pos) (tFldK c ta f):=by
 intro LB s σ H Q I h;refine FL hb (thn (he LB s σ H _ I h) fun u s1 ⟨x,H1,I1,rx,a,k,dx,fs,v,ex,hk,ea,l,q⟩=>?_);subst ex;obtain rfl:u=Value.ref a:=rx;obtain⟨cl,na⟩:=F.ex k hk;exact Cf I1 ea cl na l fun u' s2 I2 ru=>⟨v,H1,I2,ru,q⟩
theorem iI(ha:PE X o ta)(hv:PE X value tv)(F:FldK X.K c f)(hs:swapsWith value (some (.Attribute o f pos')) pos.line X.env=pure false:=by rfl):PS X (.Assign [.Attribute o f pos'] value pos) (sFldK c ta tv f):=by
 intro LB s σ H D I h;refine plainObj_wpAny_Assign_Attribute (thn (hv LB s σ H _ I h) fun u s1 ⟨y,H1,I1,ry,q⟩=>thn (ha LB s1 σ H1 _ I1 q) fun ov s2 ⟨x,H2,I2,rx,a,k,dx,fs,ex,hk,ea,l,q2⟩=>?_) hs;subst ex;obtain rfl:ov=Value.ref a:=rx;obtain⟨cl,na⟩:=F.ex k hk;exact Cg I2 ea cl na l ry fun s3 I3=>⟨σ,_,I3,q2⟩
theorem ce {pl:Sem Bool} (M:MCal X.prog X.w X.K X.mg X.base c okm k m ps sp) (hr:Room n X.A) (hk:k<=n) (he:PE X o ta) (ha:PA X (e::es) t)
  (hst:starEach (e::es) X.env=(false,eval e X.env)::starEach es X.env:=by rfl) (hpl:(backTo pos (starEach es X.env)).any (·.1)=false:=by rfl)
  (ht:eval (.Call (.Attribute o m apos) (e::es) [] pos) X.env=(do
   let ov ← eval o X.env
   standAt apos.atName
   let (f,first) ← holding [ov] (getMethod ov m pl)
   callWith pos f first (backTo pos (starEach (e::es) X.env)) (backToKw pos (keywordEach [] X.env))):=by rfl):
  PE X (.Call (.Attribute o m apos) (e::es) [] pos) (aF c okm m sp ta t):=by
 intro LB s σ H Q I h;refine PD (pl:=pl) (thn (he LB s σ H _ I h) fun u s1 ⟨x,H1,I1,rx,a,i,dx,fs,ex,hi,ea,l,q⟩=>?_) ht;subst ex;obtain rfl:u=Value.ref a:=rx;obtain⟨f,fd,cl,hm,F,hb⟩:=M.ex i hi;refine u6 I1 ea cl hm l ?_;refine OX (first:=[.ref a]) (h₀:=X.base) I.ok.mod.kin hm.kp (thn (ha pos LB s1 σ H1 _ I1 q) fun us s2 ⟨vs,H2,I2,r,q2⟩=>⟨I2.kIn,?_⟩) hst hpl;exact u7 (us:=.ref a::us) (vs:=.ref a::vs) F (hr.mono hk) hb .nil u9 I2 (.cons rfl r) (by rw[Pu];exact q2)
theorem aI {pl:Sem Bool} (M:MCal X.prog X.w X.K X.mg X.base c okm k m ps sp) (hr:Room n X.A) (hk:k<=n) (he:PE X o ta)
  (ht:eval (.Call (.Attribute o m apos) [] [] pos) X.env=(do
   let ov ← eval o X.env
   standAt apos.atName
   let (f,first) ← holding [ov] (getMethod ov m pl)
   callWith pos f first (backTo pos (starEach [] X.env)) (backToKw pos (keywordEach [] X.env))):=by rfl):
  PE X (.Call (.Attribute o m apos) [] [] pos) (aF c okm m sp ta tNil):=by
 intro LB s σ H Q I h;refine PD (pl:=pl) (thn (he LB s σ H _ I h) fun u s1 ⟨x,H1,I1,rx,a,i,dx,fs,ex,hi,ea,l,q⟩=>?_) ht;subst ex;obtain rfl:u=Value.ref a:=rx;obtain⟨f,fd,cl,hm,F,hb⟩:=M.ex i hi;refine u6 I1 ea cl hm l ?_;exact PySem.W.callWith_K0 (first:=[.ref a]) I1.kIn hm.kp (u7 (us:=[.ref a]) (vs:=[.ref a]) F (hr.mono hk) hb .nil u9 I1 (.cons rfl .nil) q)
theorem lB (M:KCal X.prog X.w X.K X.mg X.base k x C ps sp1) (hr:Room n X.A) (hk:k+1<=n) (hg:Gl X x) (ha:PA X (e::es) t)
  (hdb:(x==("__debug__":Str))=false:=by decide) (he:starEach (e::es) X.env=(false,eval e X.env)::starEach es X.env:=by rfl) (hpl:(backTo pos (starEach es X.env)).any (·.1)=false:=by rfl):
  PE X (.Call (.Name x p) (e::es) [] pos) (tMake C sp1 [] E0 t):=by
 obtain⟨f,fd,mk,F,hm,hb⟩:=M.ex;exact FN mk F (hr.mono hk) hg hm hb .nil u9 ha hdb he hpl
end
def i4(K:Frag):List V->Hp->VK->Prop
 | [.ref p],H,Q=>bnd (unM (H p)) fun ys=>∀ l,H l=none->Q (.ref l) (upd H l (.tup ys))
 | _,_,_=>False
def tInG(ws:List Str)(neg:Bool)(te:TE):TE:=fun σ H Q=>te σ H fun x H1=>∃ z,x=.str z/\Q (.bl (if neg then !decide (z∈ws) else decide (z∈ws))) H1
structure GTup(K:Frag)(mg:Str->Option Value)(x:Str)(ws:List Str):Prop where
 ex:∃(p:Addr) (o:Obj) (LF:Array Value) (n:Nat),mg x=some (.ref p)/\K.lookup p=some o/\o.cls=.type "tuple"/\o.data=.seq LF n/\LF.size<=sizeLine/\Vals (ws.map V.str) LF.toList
theorem gc:∀ ns:List Str,(ns.map V.str).all flatV=true
 | []=>rfl
 | n::r=>by rw[MB,OB,gc r];rfl
theorem h9(i:Str):∀ ns:List Str,inV (.str i) (ns.map V.str)=decide (i∈ns)
 | []=>by simp[inV]
 | n::r=>by
  have ih:=h9 i r;unfold inV at ih ⊢;rw[MB,NR,ih];show((n==i)||decide (i∈r))=decide (i∈n::r);rw[Mn,Px,NE,LO,LO,L6];exact⟨fun h=>h.elim (fun e=>.inl e.symm) .inr,fun h=>h.elim (fun e=>.inl e.symm) .inr⟩
section
variable{X:Cx}{a:Expr}{ta:TE}{pos p:Pos}{x:Str}{ws:List Str}
theorem nN:CallR X (.type "tuple") (i4 X.K):=by
 intro LB s σ H xs us Q I r h;unfold i4 at h
 split at h
 . obtain⟨ys,e,q⟩:=a8 h;exact yM LB s σ H _ us Q I r ⟨_,ys,rfl,.inl ⟨Mc (gN e),q⟩⟩
 . exact h.elim
theorem Hc{ws:List Str}{q:Addr}(hq:∃(o:Obj) (LF:Array Value) (n:Nat),X.K.lookup q=some o/\o.cls=.type "tuple"/\o.data=.seq LF n/\LF.size<=sizeLine/\Vals (ws.map V.str) LF.toList):
  OpR X (compareOp .In) (fun x y H Q=>∃ z,x=.str z/\y=.ref q/\Q (.bl (decide (z∈ws))) H):=by
 intro LB s σ H x y v u Q I rx ry h;obtain⟨z,rfl,rfl,h⟩:=h;refine mN LB s σ H _ _ v u Q I rx ry ⟨q,ws.map V.str,rfl,.inr (.inr hq),rfl,gc ws,?_⟩;rw[h9];exact h
theorem FY{ws:List Str}{q:Addr}(hq:∃(o:Obj) (LF:Array Value) (n:Nat),X.K.lookup q=some o/\o.cls=.type "tuple"/\o.data=.seq LF n/\LF.size<=sizeLine/\Vals (ws.map V.str) LF.toList):
  OpR X (compareOp .NotIn) (fun x y H Q=>∃ z,x=.str z/\y=.ref q/\Q (.bl (!decide (z∈ws))) H):=by
 intro LB s σ H x y v u Q I rx ry h;obtain⟨z,rfl,rfl,h⟩:=h;refine qN LB s σ H _ _ v u Q I rx ry ⟨q,ws.map V.str,rfl,.inr (.inr hq),rfl,gc ws,?_⟩;rw[h9];exact h
end
section
variable{ι:Type}{c:RCl ι}{ta tv:TE}{t:TA}{f m:Str}{σ:St}{H:Hp}{Q:VK}{D:Ends}{okm:ι->Bool}{sp:ι->Sp}{sp1:Sp}{C:Addr}{K:Frag}
theorem gQ:tMake C sp1 [] E0 t σ H Q=t σ H fun vs H1=>∀ x dx,H1 x=none->H1 dx=none->dx≠x->sp1 (.ref x::(vs++[])) (upd (upd H1 dx (.own x)) x (.ins C dx [])) (fun v H2=>v=.non/\Q (.ref x) H2) E0:=rfl
theorem ku{ws:List Str}{neg:Bool}{te:TE}:tInG ws neg te σ H Q=te σ H fun x H1=>∃ z,x=.str z/\Q (.bl (if neg then !decide (z∈ws) else decide (z∈ws))) H1:=rfl
theorem BO{p:Addr}{xs:List V}(hp:H p=some (.lst xs))(h:∀ l,H l=none->Q (.ref l) (upd H l (.tup xs))):i4 K [.ref p] H Q:=by
 unfold i4;dsimp only;rw[hp];exact h
end
def cntD(ns:List Int):Nat:=(firstMet (fun i=>ns.getD i 0) ns.length).length
def sU(te:TE):TE:=fun σ H Q=>te σ H fun x H1=>∃ p ns,x=.ref p/\H1 p=some (.lst (ns.map V.int))/\ns.length<=900/\Q (.int (cntD ns:Nat)) H1
theorem dr{te:TE}{σ:St}{H:Hp}{Q:VK}:sU te σ H Q=te σ H fun x H1=>∃ p ns,x=.ref p/\H1 p=some (.lst (ns.map V.int))/\ns.length<=900/\Q (.int (cntD ns:Nat)) H1:=rfl
theorem FZ:bootBuiltins "set"=some (.type "set"):=by decide+kernel
theorem yj {X:Cx} {e:Expr} {te:TE} {p p2 pos pos2:Pos} (hc:X.calm=true) (hgl:Gl X "len") (hgs:Gl X "set") (hl:X.mg "len"=none) (hs:X.mg "set"=none) (he:PE X e te)
  (hs1:starEach [.Call (.Name "set" p2) [e] [] pos2] X.env=[(false,eval (.Call (.Name "set" p2) [e] [] pos2) X.env)]:=by rfl) (hs2:starEach [e] X.env=[(false,eval e X.env)]:=by rfl):
  PE X (.Call (.Name "len" p) [.Call (.Name "set" p2) [e] [] pos2] [] pos) (sU te):=by
 intro LB s σ H Q I h;refine Nb (gM I hgl hl aO ?_ (by decide) (by decide));refine Ot ?_ hs1 rfl;rw[hs1];show wpAny _ _ (spliced [(false,eval (.Call (.Name "set" p2) [e] [] pos2) X.env)]) _ _ s;refine Ob ?_;refine Nb (gM I hgs hs FZ ?_ (by decide) (by decide));refine MU ?_ hs2 rfl;rw[hs2];show wpAny _ _ (spliced [(false,eval e X.env)]) _ _ s;refine Ob (thn (he LB s σ H _ I h) fun u s1 ⟨x,H1,I1,r1,q1⟩=>?_);refine Of ?_;obtain⟨l,ns,rfl,hys,hn,q⟩:=q1;cases r1;obtain⟨LF,n,rv,ho,hz⟩:=I1.lst hys;have hL:s1.heap.IsList l LF.toArray:=⟨_,ho,rfl,n,rfl⟩;have hI:IntsAre LF ns:=u8 rv;have LJ:=rv.length;rw[LM] at LJ;refine call_set_list (ns:=ns) (I.ok.hd hc) hL (by simpa using hI) (by rw[Mi,← LJ];exact M3 (Nat.succ_le_succ hn) (by decide)) fun h' tk hS old=>?_;refine Of ?_;obtain⟨o,es,ep,t,h1,h2,h3,h4,h5,h6,h7,h8⟩:=hS;have hb:(firstMet (fun i=>ns.getD i 0) LF.toArray.size).length<=900:=L8 (firstMet_length_le _ _) (by rw[Mi,← LJ];exact hn);refine call_len_set h1 h2 h3 h7 (by omega) ?_;have I2:Inv X LB σ H1 {s1 with heap:=h',toks:=tk}:=I1.kept fun b o' e=>old b o' (Mm e) e;refine⟨.int _,H1,I2.tok _,⟨_,rfl⟩,?_⟩;rw[h8,Mi,← LJ];exact q
def oB:V->List V->Hp->VK->Prop
 | .str sep,[.ref p],H,Q=>bnd (unS (H p)) fun ys=>∃ ts:List Str,ys=ts.map V.str/\JoinOk sep ts=true/\Q (.str (Txt.join sep ts)) H
 | _,_,_,_=>False
theorem DN{X:Cx}:MtR X "str.join" oB:=by
 intro LB s σ H x vs v us Q I rx rv h;unfold oB at h
 split at h
 . rename_i sep p
   obtain⟨ys,e,ts,rfl,hok,q⟩:=a8 h;rcases oy (K:=X.K) e with hq | hq
   . obtain⟨t,rfl⟩:=rx;obtain⟨u,rfl,ru⟩:=cU rv;cases ru;obtain⟨LF,rvv,pl,hz⟩:=I.list hq;obtain⟨l,rfl,hl⟩:=xc rvv;exact SC.join pl.isList hl hok fun t' k=>⟨.str _,H,I.tok k,⟨t',rfl⟩,q⟩
   . obtain⟨t,rfl⟩:=rx;obtain⟨u,rfl,ru⟩:=cU rv;cases ru;obtain⟨LF,rvv,pl,hz⟩:=I.tuple hq;obtain⟨l,rfl,hl⟩:=xc rvv;subst hl;obtain⟨o,h1,h2,n,h3⟩:=pl;have hok':=hok;unfold JoinOk at hok';rw[MN] at hok';exact NN F.slot_str_join (Ou _ _ _) F.entry_str_join (F.args_str_join_2 _ _) (meets_str_join_tuple sep t p l hok') ⟨⟨o,n,h1,h2,h3⟩,post_join l ⟨joinFit_length hok',fun t' k=>⟨.str _,H,I.tok k,⟨t',rfl⟩,q⟩⟩⟩
 . exact h.elim
section
variable{X:Cx}{e:Expr}{te:TE}{p2 p3 p4 pos:Pos}{z0:Nat}
def vt:V->List V->Hp->VK->Prop
 | .ref l,[.int i],H,Q=>bnd (unM (H l)) fun xs=>0<=i/\i<xs.length/\bnd (xs[i.toNat]?) fun y=>Q y (upd H l (.lst (xs.eraseIdx i.toNat)))
 | _,_,_,_=>False
theorem seqIx{i:Int}{n:Nat}(h0:0<=i)(h1:i<n):seqIndex? i n=some i.toNat:=by
 obtain⟨k,rfl⟩:=NJ h0;have hk:k<n:=by omega
 unfold seqIndex?;have hn:¬ ((k:Int)<0):=by omega
 simp[hk,hn]
theorem DO:MtR X "list.pop" vt:=by
 intro LB s σ H x vs v us Q I rx rv h;unfold vt at h
 split at h
 . obtain⟨xs,e,h0,h1,h⟩:=a8 h;obtain⟨y,ey,q⟩:=a8 h;have hz:xs.length<=sizeLine:=(I.lstM (gN e)).1;have hs:(sizeLine:Int)<2^63:=by decide
   exact EU LB s σ H _ _ v us Q I rx rv ⟨_,xs,_,_,y,rfl,rfl,gN e,by omega,by omega,seqIx h0 h1,ey,q⟩
 . exact h.elim
def tRevL(te:TE):TE:=fun σ H Q=>te σ H fun x H1=>∃ p xs,x=.ref p/\H1 p=some (.lst xs)/\∀ l,H1 l=none->Q (.ref l) (upd H1 l (.lst xs.reverse))
end
section
variable{σ:St}{H:Hp}{Q:VK}{te:TE}
theorem kx{i j:Int}{H:Hp}{Q:VK}:kMax [.int i,.int j] H Q=Q (.int (if j>i then j else i)) H:=rfl
theorem gR:tRevL te σ H Q=te σ H fun x H1=>∃ p xs,x=.ref p/\H1 p=some (.lst xs)/\∀ l,H1 l=none->Q (.ref l) (upd H1 l (.lst xs.reverse)):=rfl
theorem F0{l:Addr}{i:Int}{xs:List V}{y:V}(hl:H l=some (.lst xs))(h0:0<=i)(h1:i<xs.length)(ey:xs[i.toNat]? =some y)(q:Q y (upd H l (.lst (xs.eraseIdx i.toNat)))):vt (.ref l) [.int i] H Q:=by
 show bnd (unM (H l)) _;rw[hl];exact aZ (a:=xs) rfl ⟨h0,h1,aZ ey q⟩
end
theorem Cp:typeLookup (.type "str") (Str.ofString "__int__")=pure none:=by rw[Py,Oq];kernel_rfl
theorem zV:typeLookup (.type "str") (Str.ofString "__index__")=pure none:=by rw[Py,Oq];kernel_rfl
theorem zW:typeLookup (.type "str") (Str.ofString "__trunc__")=pure none:=by rw[Py,Oq];kernel_rfl
def numC(n:Nat):List Nat:=if n<10 then [48+n] else [48+n/10,48+n%10]
variable{n:Nat}
theorem DP(h:n<100):((tx (numC n)).cps.all fun x=>decide (x<128))=true:=by
 have t:((List.range 100).all fun n=>(tx (numC n)).cps.all fun x=>decide (x<128))=true:=by decide+kernel
 exact L3.mp t n (LZ.mpr h)
theorem DQ{α:Type}{M:Model}{A:Around}{E:Value->Shared->Prop}{s:Shared}{Q:α->Shared->Prop}{m m':Sem α}(e:m=m')(h:wpAny M A m' Q E s):wpAny M A m Q E s:=e ▸ h
theorem gis(n:Nat)(hn:n<100)(u:Tok):Gives (Builtin.«int.__new__» ⟨[.type "int",.str (tx (numC n)) u],[]⟩) (.int n):=
 .of_wp fun M A E s Q h=>by
  obtain⟨hp,g,d,tk,os⟩:=s;have f1:=PySem.F.conv_sub_int;have f2:=PySem.F.madeHere_int;have f3:=Cp;have f4:=zV;have f5:=zW
  iterate 44 (any_goals (first | assumption | wp_step))
  refine MA (wpAny_of_eq (a:=some (tx (numC n))) rfl ?_);refine wpAny_of_eq (a:=some (numC n)) ?e1 ?_
  case e1=>
   show(pure (some (if ((tx (numC n)).cps.all fun x=>decide (x<128))=true then(tx (numC n)).cps.toList else _)):Sem _)=_;rw[Md (DP hn),vp]
  refine DQ (m':=mkInt (n:Int)) ?e2 ?_
  case e2=>
   clear h f1 f2 f3 f4 f5
   match n,hn with | 0,_=>kernel_rfl | 1,_=>kernel_rfl | 2,_=>kernel_rfl | 3,_=>kernel_rfl | 4,_=>kernel_rfl | 5,_=>kernel_rfl | 6,_=>kernel_rfl | 7,_=>kernel_rfl | 8,_=>kernel_rfl | 9,_=>kernel_rfl | 10,_=>kernel_rfl | 11,_=>kernel_rfl | 12,_=>kernel_rfl | 13,_=>kernel_rfl | 14,_=>kernel_rfl | 15,_=>kernel_rfl | 16,_=>kernel_rfl | 17,_=>kernel_rfl | 18,_=>kernel_rfl | 19,_=>kernel_rfl | 20,_=>kernel_rfl | 21,_=>kernel_rfl | 22,_=>kernel_rfl | 23,_=>kernel_rfl | 24,_=>kernel_rfl | 25,_=>kernel_rfl | 26,_=>kernel_rfl | 27,_=>kernel_rfl | 28,_=>kernel_rfl | 29,_=>kernel_rfl | 30,_=>kernel_rfl | 31,_=>kernel_rfl | 32,_=>kernel_rfl | 33,_=>kernel_rfl | 34,_=>kernel_rfl | 35,_=>kernel_rfl | 36,_=>kernel_rfl | 37,_=>kernel_rfl | 38,_=>kernel_rfl | 39,_=>kernel_rfl | 40,_=>kernel_rfl | 41,_=>kernel_rfl | 42,_=>kernel_rfl | 43,_=>kernel_rfl | 44,_=>kernel_rfl | 45,_=>kernel_rfl | 46,_=>kernel_rfl | 47,_=>kernel_rfl | 48,_=>kernel_rfl | 49,_=>kernel_rfl | 50,_=>kernel_rfl | 51,_=>kernel_rfl | 52,_=>kernel_rfl | 53,_=>kernel_rfl | 54,_=>kernel_rfl | 55,_=>kernel_rfl | 56,_=>kernel_rfl | 57,_=>kernel_rfl | 58,_=>kernel_rfl | 59,_=>kernel_rfl | 60,_=>kernel_rfl | 61,_=>kernel_rfl | 62,_=>kernel_rfl | 63,_=>kernel_rfl | 64,_=>kernel_rfl | 65,_=>kernel_rfl | 66,_=>kernel_rfl | 67,_=>kernel_rfl | 68,_=>kernel_rfl | 69,_=>kernel_rfl | 70,_=>kernel_rfl | 71,_=>kernel_rfl | 72,_=>kernel_rfl | 73,_=>kernel_rfl | 74,_=>kernel_rfl | 75,_=>kernel_rfl | 76,_=>kernel_rfl | 77,_=>kernel_rfl | 78,_=>kernel_rfl | 79,_=>kernel_rfl | 80,_=>kernel_rfl | 81,_=>kernel_rfl | 82,_=>kernel_rfl | 83,_=>kernel_rfl | 84,_=>kernel_rfl | 85,_=>kernel_rfl | 86,_=>kernel_rfl | 87,_=>kernel_rfl | 88,_=>kernel_rfl | 89,_=>kernel_rfl | 90,_=>kernel_rfl | 91,_=>kernel_rfl | 92,_=>kernel_rfl | 93,_=>kernel_rfl | 94,_=>kernel_rfl | 95,_=>kernel_rfl | 96,_=>kernel_rfl | 97,_=>kernel_rfl | 98,_=>kernel_rfl | 99,_=>kernel_rfl | (m+100),hm=>exact absurd hm (by omega)
  repeat (any_goals (first | assumption | wp_step))
  all_goals first | exact⟨_,rfl,h⟩ | skip
def pP:List V->Hp->VK->Prop
 | [.int i],H,Q=>Q (.int i) H
 | [.bl k],H,Q=>Q (.int (if k then 1 else 0)) H
 | [.str z],H,Q=>∃ n:Nat,n<100/\z=tx (numC n)/\Q (.int n) H
 | _,_,_=>False
theorem vv{X:Cx}:CallR X (.type "int") pP:=by
 intro LB s σ H xs us Q I r h;unfold pP at h
 split at h
 . exact xY LB s σ H _ us Q I r (.inl ⟨_,rfl,h⟩)
 . exact xY LB s σ H _ us Q I r (.inr ⟨_,rfl,h⟩)
 . obtain⟨n,hn,rfl,q⟩:=h;obtain⟨u,rfl,ru⟩:=cU r;obtain⟨t,rfl⟩:=ru;exact call_int_1 (gis n hn t).meets (show(Made.int (n:Int)).post _ s from⟨rfl,⟨.int n,H,I.tok _,⟨_,rfl⟩,q⟩⟩)
 . exact h.elim
theorem eQ{k:Bool}{H:Hp}{Q:VK}:pP [.bl k] H Q=Q (.int (if k then 1 else 0)) H:=rfl
theorem eX{i:Int}{H:Hp}{Q:VK}:pP [.int i] H Q=Q (.int i) H:=rfl
theorem BP(h:n<100):Str.ofString (toString (n:Int))=tx (numC n):=by
 have t:((List.range 100).all fun(n:Nat)=>decide (Str.ofString (toString (n:Int))=tx (numC n)))=true:=by decide+kernel
 simpa using L3.mp t n (LZ.mpr h)
theorem ul(h:n<100):32∉numC n:=by
 have t:((List.range 100).all fun(n:Nat)=>decide (32∉numC n))=true:=by decide+kernel
 simpa using L3.mp t n (LZ.mpr h)
theorem Hd(h:n<100):numC n≠[]:=by unfold numC;split <;> simp
theorem sV:(numC n).length<=2:=by unfold numC;split <;> simp
theorem Fa(h:n<100):((numC n).head? =some 48->n=0)/\numC 0=[48]:=by
 have t:((List.range 100).all fun(n:Nat)=>decide ((numC n).head? =some 48->n=0))=true:=by decide+kernel
 exact⟨LX (L3.mp t n (LZ.mpr h)),rfl⟩
theorem BQ(h:n<100):∀ c∈numC n,48<=c/\c<=57:=by
 have t:((List.range 100).all fun(n:Nat)=>(numC n).all fun c=>decide (48<=c/\c<=57))=true:=by decide+kernel
 intro c hc
 simpa using L3.mp (L3.mp t n (LZ.mpr h)) c hc
local macro_rules|`(tactic|walk_at "w")=>wk9 ws1
local macro_rules|`(tactic|symm)=>`(tactic|walk_at "w")
def bR(K:Frag):Sp:=fun vs H Q _=>∃(a:Addr) (h w g:Int),vs=[.ref a]/\IsFl H a h w g/\1<=h/\h<=6/\Q (.int (h*w)) H
def kL(K:Frag):TS:=
 (tRet (tOp cMul (tOp cIx (tVar 0) (tC (.int 0))) (tOp cIx (tVar 0) (tC (.int 1)))))
variable{K:Frag}{vs:List V}{H:Hp}{Q:VK}{E:XK}
theorem yN(h:bR K vs H Q E):kL K (eD9 Q) (start ["floor"] vs) H:=by
 obtain⟨a,h,w,g,rfl,ha,h0,h1,q⟩:=h;show kL K _ [some (.ref a)] H;unfold kL;symm;rw[hX ha];refine aZ (a:=V.int h) rfl ?_;symm;rw[hX ha];refine aZ (a:=V.int w) rfl ?_;symm;exact⟨mP h0 h1,q⟩
def cornB(h w c:Int):Bool:=decide (c/w<h-1)&&decide (c%w<w-1)
def lS(K:Frag):Sp:=fun vs H Q _=>∃(a:Addr) (h w g c:Int),vs=[.ref a,.int c]/\IsFl H a h w g/\0<w/\w<100/\∀ H',Same H H'->Q (.bl (cornB h w c)) H'
def lT(K:Frag):TS:=
 (tSeq (tAsg (tCall (lA K) [] E0 (tCons (tVar 0) (tCons (tVar 1) tNil))) (gName 2))
  (tRet (tAndV (tOp (cCmp fun i j=>decide (i<j)) (tOp cIx (tVar 2) (tC (.int 0))) (tOp cSub (tOp cIx (tVar 0) (tC (.int 0))) (tC (.int 1)))) (tOp (cCmp fun i j=>decide (i<j)) (tOp cIx (tVar 2) (tC (.int 1))) (tOp cSub (tOp cIx (tVar 0) (tC (.int 1))) (tC (.int 1)))))))
theorem zX(h:lS K vs H Q E):lT K (eD9 Q) (start ["floor","cell","spot"] vs) H:=by
 obtain⟨a,h,w,g,c,rfl,ha,w0,w1,k⟩:=h;show lT K _ [some (.ref a),some (.int c),none] H;unfold lT;symm;refine⟨a,h,w,g,c,rfl,ha,w0,w1,fun p hp=>?_⟩;have s1:Same H (upd H p (.tup [.int (c/w),.int (c%w)])):=(LQ H).laid hp;have k1:=k _ s1;have ha1:=s1 _ _ ha;have hp1:(upd H p (.tup [.int (c/w),.int (c%w)])) p=some (.tup [.int (c/w),.int (c%w)]):=ag;generalize upd H p (.tup [.int (c/w),.int (c%w)])=H1 at*;symm;rw[hX hp1];refine aZ (a:=V.int (c/w)) rfl ?_;symm;rw[hX ha1];refine aZ (a:=V.int h) rfl ?_;symm;unfold cornB at k1
 cases hb:decide (c/w<h-1) with
 | false=>
  rw[hb,Mb] at k1;exact iteF k1
 | true=>
  rw[hb,Mf] at k1;refine iteT ?_;rw[hX hp1];refine aZ (a:=V.int (c%w)) rfl ?_;symm;rw[hX ha1];refine aZ (a:=V.int w) rfl ?_;symm;exact k1
def sqL(w c:Int):List Int:=[c,c+1,c+w,c+w+1]
def lU(K:Frag):Sp:=fun vs H Q _=>∃(a:Addr) (h w g c:Int),vs=[.ref a,.int c]/\IsFl H a h w g/\∀ p,H p=none->Q (.ref p) (upd H p (.lst ((sqL w c).map V.int)))
def lV(K:Frag):TS:=
 (tSeq (tAsg (tOp cAdd (tVar 1) (tOp cIx (tVar 0) (tC (.int 1)))) (gName 2))
  (tRet (tLst (tCons (tVar 1) (tCons (tOp cAdd (tVar 1) (tC (.int 1))) (tCons (tVar 2) (tCons (tOp cAdd (tVar 2) (tC (.int 1))) tNil)))))))
theorem zY(h:lU K vs H Q E):lV K (eD9 Q) (start ["floor","corner","below"] vs) H:=by
 obtain⟨a,h,w,g,c,rfl,ha,k⟩:=h;show lV K _ [some (.ref a),some (.int c),none] H;unfold lV;symm;rw[hX ha];refine aZ (a:=V.int w) rfl ?_;symm;exact⟨lnR rfl,k⟩
def squL(h w:Int):List (List Int):=((List.range (h*w).toNat).filter fun(i:Nat)=>cornB h w i).map fun(i:Nat)=>sqL w i
def i5(K:Frag):Sp:=fun vs H Q _=>∃(a:Addr) (h w g:Int),vs=[.ref a]/\IsFl H a h w g/\FlOk h w g/\
 ∀ l as H',Same H H'->H l=none->IsLL H' l as (squL h w)->as.Nodup->l∉as->(∀ a∈as,H a=none)->Q (.ref l) H'
def pQ(K:Frag):TS:=
 (tRet (tComp [none,none,some 0] (dP (tCons (tCall (bR K) [] E0 (tCons (tVar 0) tNil)) tNil)) (gName 1) (tB (tCall (lS K) [] E0 (tCons (tVar 2) (tCons (tVar 1) tNil)))) (tCall (lU K) [] E0 (tCons (tVar 2) (tCons (tVar 1) tNil)))))
theorem NewAt.ll{H1:Hp}{l:Addr}{as:List Addr}{LH:List (List Int)}(x:NewAt H1 H l as (LH.map fun xs=>.lst (xs.map V.int)))(e:H l=some (.lst (as.map V.ref))):IsLL H l as LH:=
 ⟨e,by rw[x.len,LM],fun j a xs h1 h2=>x.at_ j a _ h1 (by rw[LW,h2];rfl)⟩
theorem Cq(h:i5 K vs H Q E):pQ K (eD9 Q) (start ["floor"] vs) H:=by
 obtain⟨a,h,w,g,rfl,ha,F,k⟩:=h;obtain⟨h0,h1,w0,w1,m16,g0,g1⟩:=F;have mpos:0<=h*w:=NK (by omega) (by omega);show pQ K _ [some (.ref a)] H;unfold pQ;symm;refine⟨a,h,w,g,rfl,ha,h0,h1,?_⟩;symm;refine⟨h*w,rfl,by omega,by omega,?_⟩;refine nM (fun(i:Nat)=>cornB h w i) (fun(i:Nat)=>.lst ((sqL w i).map V.int)) (by omega) ?_ ?_ ?_
 . intro i H1 R hi s1 k1;show tB _ [none,some (.int (0+(i:Int))),some (.ref a)] H1 R;symm;rw[Nl];exact⟨a,h,w,g,_,rfl,s1 _ _ ha,by omega,by omega,fun H2 s2=>⟨_,rfl,k1 H2 s2⟩⟩
 . intro i H1 Q1 hi hb s1 k1;show tCall _ _ _ _ [none,some (.int (0+(i:Int))),some (.ref a)] H1 Q1;symm;rw[Nl];exact⟨a,h,w,g,_,rfl,s1 _ _ ha,fun p hp=>k1 p _ ((LQ H1).laid hp) hp ag⟩
 . intro l as H2 hl s2 el x
   have x':NewAt H H2 l as ((squL h w).map fun xs=>.lst (xs.map V.int)):=by
    unfold squL;rw[Mv];exact x
   exact k l as H2 s2 hl (x'.ll el) x.nd x.nl x.fr
def ws4:String:="aD gQ ku dr gR eQ eX kx kr gP kt if_true if_false Bool.false_eq_true decide_true decide_false dI dJ i3 cF bY dG f6 dH cE fX fY cD iX cG cH cJ cK cL cM cI f9 ga gb fW iZ Bool.not_true Bool.not_false aD "++ws1
local macro_rules|`(tactic|walk_at "w")=>wk9 ws4
def nmC:RK->List Nat
 | .Rule=>[]
 | .Unlike=>[117,110,108,105,107,101]
 | .Sum=>[115,117,109]
 | .Rising=>[114,105,115,105,110,103]
 | .Seen=>[115,101,101,110]
 | .Count=>[99,111,117,110,116]
 | .Joined=>[106,111,105,110,101,100]
 | .NoSquare=>[110,111,115,113,117,97,114,101]
 | .Ring=>[114,105,110,103]
def gt:List Str:=[tx [115,117,109],tx [115,101,101,110],tx [99,111,117,110,116]]
def gd:List Str:=[tx [99,111,117,110,116],tx [106,111,105,110,101,100],tx [110,111,115,113,117,97,114,101],tx [114,105,110,103]]
def fQ:List Str:=[tx [106,111,105,110,101,100],tx [110,111,115,113,117,97,114,101],tx [114,105,110,103]]
def rFs(p W C:Addr)(n m:Int):List (Str × V):=[("floor",.ref p),("words",.ref W),("cells",.ref C),("amount",.int n),("mark",.int m)]
structure IsRule(H:Hp)(c:RCl RK)(k:RK)(r p:Addr)(ws:List (List Nat))(cs:List Int)(n m:Int):Prop where
 ok:c.ok k=true
 ex:∃ dx W C,H r=some (.ins (c.A k) dx (rFs p W C n m))/\H W=some (.tup ((ws.map tx).map V.str))/\H C=some (.tup (cs.map V.int))
variable{H:Hp}{c:RCl RK}{p:Addr}{cs:List Int}
theorem IsRule.same{H':Hp}{k:RK}{r:Addr}{ws:List (List Nat)}{n m:Int}(x:IsRule H c k r p ws cs n m)(s:Same H H'):IsRule H' c k r p ws cs n m:=by
 obtain⟨dx,W,C,h1,h2,h3⟩:=x.ex;exact⟨x.ok,dx,W,C,s _ _ h1,s _ _ h2,s _ _ h3⟩
section
variable{ι:Type}{c:RCl ι}{σ:St}{H:Hp}{Q:VK}{i:Nat}{r dx:Addr}{k:ι}{fs:List (Str × V)}{f m:Str}{v:V}{okm:ι->Bool}{sp:ι->Sp}{t:TA}{D:Ends}{tv:TE}{y:V}{H1:Hp}
theorem fldE(hσ:σ[i]? =some (some (.ref r)))(ok:c.ok k=true)(hr:H r=some (.ins (c.A k) dx fs))(hl:fs.lookup f=some v)(q:Q v H):tFldK c (tVar i) f σ H Q:=pE hσ ⟨r,k,dx,fs,v,rfl,ok,hr,hl,q⟩
theorem methE(hσ:σ[i]? =some (some (.ref r)))(ok:okm k=true)(hr:H r=some (.ins (c.A k) dx fs))(hl:fs.lookup m=none)(q:t σ H fun vs H2=>sp k (.ref r::vs) H2 Q E0):aF c okm m sp (tVar i) t σ H Q:=pE hσ ⟨r,k,dx,fs,rfl,ok,hr,hl,q⟩
theorem sfldV{j:Nat}{x:V}(hj:σ[j]? =some (some x))(hσ:σ[i]? =some (some (.ref r)))(ok:c.ok k=true)(hr:H r=some (.ins (c.A k) dx fs))(hn:fs.length<1000)(q:D.nx σ (upd H r (.ins (c.A k) dx (putF f x fs)))):sFldK c (tVar i) (tVar j) f D σ H:=
 pE hj (pE hσ ⟨r,k,dx,fs,rfl,ok,hr,hn,q⟩)
theorem sfldT {K:Frag} {j:Nat} {p:Addr} {xs:List V} (hj:σ[j]? =some (some (.ref p))) (hp:H p=some (.lst xs)) (hσ:σ[i]? =some (some (.ref r))) (ok:c.ok k=true) (hr:H r=some (.ins (c.A k) dx fs)) (hn:fs.length<1000)
  (q:∀ l,H l=none->D.nx σ (upd (upd H l (.tup xs)) r (.ins (c.A k) dx (putF f (.ref l) fs)))):sFldK c (tVar i) (tCB (i4 K) (tCons (tVar j) tNil)) f D σ H:=by
 unfold sFldK;symm;refine pE hj (BO hp fun l hl=>?_);exact pE hσ ⟨r,k,dx,fs,rfl,ok,by rw[ak (aA hr hl)];exact hr,hn,q l hl⟩
end
variable{Q:VK}
theorem F1{xs:List V}(hp:H p=some (.tup xs))(h:∀ l,H l=none->Q (.ref l) (upd H l (.lst xs))):kList [.ref p] H Q:=by
 unfold kList;dsimp only;rw[hp];exact h
theorem F2{sep:Str}{ts:List Str}(hp:H p=some (.lst (ts.map V.str)))(hok:JoinOk sep ts=true)(h:Q (.str (Txt.join sep ts)) H):oB (.str sep) [.ref p] H Q:=by
 unfold oB;dsimp only;rw[hp];exact⟨ts,rfl,hok,h⟩
variable{K:Frag}
theorem yn {a:Addr} {k:Nat} {tt:TT} {te:TE} {fin:Addr->Hp->Prop} {σ0:St} {H1:Hp} {xs:List Int} (b:Int->Bool) (f:Int->Int) (hn:xs.length<=900) (hq:H1 a=some (.tup (xs.map V.int)))
  (ht:∀ x H R,x∈xs->Same H1 H->(∀ H',Same H H'->R (b x) H')->tt (σ0.set k (some (.int x))) H R)
  (he:∀ x H Q,x∈xs->b x=true->Same H1 H->(∀ H',Same H H'->Q (.int (f x)) H')->te (σ0.set k (some (.int x))) H Q)
  (hd:∀ l H,H1 l=none->Same H1 H->H l=some (.lst (((xs.filter b).map f).map V.int))->fin l H):CompR (Itt K a) (gName k) tt te fin σ0 H1:=by
 refine zU (xs:=xs.map V.int) (fun l i σ H=>(σ=σ0\/∃ cv,σ=σ0.set k cv)/\Same H1 H/\H l=some (.lst ((((xs.take i).filter b).map f).map V.int))) (fun l hl=>⟨.inl rfl,(LQ H1).laid hl,by rw[ag];rfl⟩) (fun l i σ H _ _ p=>PM (p.2.1 _ _ hq)) ?_ (fun l σ H hl p=>hd l H hl p.2.1 (by have:=p.2.2;rw[LM,M6] at this;exact this));rintro l i x σ H hl hx ⟨hσ,s1,el⟩;obtain⟨z,hz,rfl⟩:=aP hx;have hi:i<xs.length:=(LP.mp hz).1;have et:xs.take (i+1)=xs.take i++[z]:=by rw[O0,hz];rfl
 rw[a7]
 have e:σ.set k (some (.int z))=σ0.set k (some (.int z)):=by
  rcases hσ with rfl | ⟨cv,rfl⟩
  . rfl
  . exact Nr ..
 rw[e];refine ht z H _ (LV hz) s1 fun H2 s2=>?_;have el2:=s2 _ _ el
 have LJ:((((xs.take i).filter b).map f).map V.int).length<sizeLine:=by
  rw[LM,LM];refine aE (L8 (L9 b _) ?_);rw[M0];omega
 cases hb:b z with
 | false=>
  rw[L4 LY];refine⟨.inr ⟨_,rfl⟩,s1.trans s2,?_⟩;rw[et,MG,MI,hb]
  simpa using el2
 | true=>
  rw[Md rfl];refine he z H2 _ (LV hz) hb (s1.trans s2) fun H3 s3=>⟨_,s3 _ _ el2,LJ,.inr ⟨_,rfl⟩,((s1.trans s2).trans s3).own hl,?_⟩;rw[ag,et,MG,MI,hb];simp
def xj(K:Frag)(c:RCl RK)(k:RK):Sp:=fun vs H Q _=>∃(r p:Addr) (w:List Nat) (ws:List (List Nat)) (cs:List Int) (n m:Int),vs=[.ref r]/\IsRule H c k r p (w::ws) cs n m/\Q (.str (tx w)) H
def dX(K:Frag)(c:RCl RK)(k:RK):Sp:=fun vs H Q _=>∃(r p:Addr) (ws:List (List Nat)) (cs:List Int) (n m:Int),vs=[.ref r]/\IsRule H c k r p ws cs n m/\∀ l,H l=none->Q (.ref l) (upd H l (.lst (cs.map V.int)))
def iJ(K:Frag)(c:RCl RK)(k:RK):Sp:=fun vs H Q _=>∃(r p:Addr) (ws:List (List Nat)) (cs:List Int) (n m:Int),vs=[.ref r]/\IsRule H c k r p ws cs n m/\Q (.int n) H
def iK(K:Frag)(c:RCl RK)(k:RK):Sp:=fun vs H Q _=>∃(r p:Addr) (ws:List (List Nat)) (cs:List Int) (n m:Int),vs=[.ref r]/\IsRule H c k r p ws cs n m/\Q (.int m) H
def sgAt(xs cs:List Int):List Int:=cs.map fun c=>xs.getD c.toNat 0
def mkAt(xs cs:List Int)(m:Int):List Int:=cs.filter fun c=>decide (xs.getD c.toNat 0=m)
def aK(cs:List Int)(n:Nat):Prop:=cs.length<=63/\∀ c∈cs,0<=c/\c<n
def e8(K:Frag)(c:RCl RK)(k:RK):Sp:=fun vs H Q _=>∃(r p f:Addr) (ws:List (List Nat)) (cs xs:List Int) (n m:Int),vs=[.ref r,.ref f]/\IsRule H c k r p ws cs n m/\H f=some (.lst (xs.map V.int))/\aK cs xs.length/\
 ∀ l H',Same H H'->H l=none->H' l=some (.lst ((sgAt xs cs).map V.int))->Q (.ref l) H'
def iL(K:Frag)(c:RCl RK)(k:RK):Sp:=fun vs H Q _=>∃(r p f:Addr) (ws:List (List Nat)) (cs xs:List Int) (n m:Int),vs=[.ref r,.ref f]/\IsRule H c k r p ws cs n m/\H f=some (.lst (xs.map V.int))/\aK cs xs.length/\
 ∀ l H',Same H H'->H l=none->H' l=some (.lst ((mkAt xs cs m).map V.int))->Q (.ref l) H'
def risB:List Int->Bool
 | x::y::r=>decide (x<y)&&risB (y::r)
 | _=>true
def seenN(xs:List Int):Int × Int:=xs.foldl (fun a x=>if a.1<x then(x,a.2+1) else a) (0,0)
noncomputable def joinB (h w:Int) (ms:List Int):Bool:=@decide (ms=[]\/(ms.Pairwise (· < ·)/\∀ x∈ms,RC h w ms (ms.headD 0) x)) (Classical.propDecidable _)
def twoB(h w:Int)(ms:List Int)(c:Int):Bool:=decide (((besL h w c).filter fun y=>decide (y∈ms)).length=2)
noncomputable def hoB (k:RK) (h w:Int) (cs:List Int) (n m:Int) (xs:List Int):Bool:=match k with
 | .Unlike=>decide (cntD (sgAt xs cs)=(sgAt xs cs).length)
 | .Sum=>decide ((sgAt xs cs).sum=n)
 | .Rising=>risB (sgAt xs cs)
 | .Seen=>decide ((seenN (sgAt xs cs)).2=n)
 | .Count=>decide (((mkAt xs cs m).length:Int)=n)
 | .NoSquare=>!((squL h w).any fun sq=>sq.all fun c=>decide (c∈mkAt xs cs m))
 | .Joined=>joinB h w (mkAt xs cs m)
 | .Ring=>joinB h w (mkAt xs cs m)&&(mkAt xs cs m).all (twoB h w (mkAt xs cs m))
 | _=>true
def dt(K:Frag)(c:RCl RK)(k:RK):Sp:=fun vs H Q _=>∃(r p f:Addr) (ws:List (List Nat)) (cs xs:List Int) (n m h w g:Int),vs=[.ref r,.ref f]/\IsRule H c k r p ws cs n m/\IsFl H p h w g/\FlOk h w g/\H f=some (.lst (xs.map V.int))/\aK cs xs.length/\(∀ x∈xs,0<=x/\x<=1000)/\
 ∀ H',Same H H'->Q (.bl (hoB k h w cs n m xs)) H'
def i6(K:Frag)(c:RCl RK)(k:RK):Sp:=fun vs H Q _=>∃(r p C:Addr) (ws:List (List Nat)) (cs ms:List Int) (n m h w g:Int),vs=[.ref r,.ref C]/\IsRule H c k r p ws cs n m/\IsFl H p h w g/\FlOk h w g/\H C=some (.lst (ms.map V.int))/\ms.length<=63/\
 ∀ H',Same H H'->Q (.bl (joinB h w ms)) H'
def gz(K:Frag)(c:RCl RK)(k:RK):Sp:=fun vs H Q _=>∃(r p C:Addr) (ws:List (List Nat)) (cs ms:List Int) (n m h w g z:Int),vs=[.ref r,.ref C,.int z]/\IsRule H c k r p ws cs n m/\IsFl H p h w g/\FlOk h w g/\H C=some (.lst (ms.map V.int))/\ms.length<=63/\
 ∀ H',Same H H'->Q (.bl (twoB h w ms z)) H'
def aN(K:Frag)(c:RCl RK):Sp:=fun vs H Q _=>∃(k:RK) (x dx p W C:Addr) (ws:List (List Nat)) (cs:List Int) (n m:Int),vs=[.ref x,.ref p,.ref W,.ref C,.int n,.int m]/\c.ok k=true/\H x=some (.ins (c.A k) dx [])/\W≠x/\C≠x/\
 H W=some (.lst ((ws.map tx).map V.str))/\H C=some (.lst (cs.map V.int))/\∀ H',(∀ b o,b≠x->H b=some o->H' b=some o)->IsRule H' c k x p ws cs n m->Q .non H'
def ia(K:Frag)(c:RCl RK):TS:=
 (tSeq (sFldK c (tVar 0) (tVar 1) "floor")
  (tSeq (sFldK c (tVar 0) (tCB (i4 K) (tCons (tVar 2) tNil)) "words")
  (tSeq (sFldK c (tVar 0) (tCB (i4 K) (tCons (tVar 3) tNil)) "cells")
  (tSeq (sFldK c (tVar 0) (tVar 4) "amount")
  (sFldK c (tVar 0) (tVar 5) "mark")))))
variable{vs:List V}{E:XK}
theorem um(h:aN K c vs H Q E):ia K c (eD9 Q) (start ["self","floor","words","cells","amount","mark"] vs) H:=by
 obtain⟨k,x,dx,p,W,C,ws,cs,n,m,rfl,ok,hx,nW,nC,hW,hC,q⟩:=h;show ia K c _ [some (.ref x),some (.ref p),some (.ref W),some (.ref C),some (.int n),some (.int m)] H;unfold ia;symm;refine sfldV (k:=k) (j:=1) rfl rfl ok hx (by decide) ?_;symm;refine sfldT (k:=k) (j:=2) (p:=W) rfl (by rw[ak nW];exact hW) rfl ok ag (by show(1:Nat)<1000;decide) fun l1 h1=>?_;have n1:l1≠x:=fun e=>by rw[e,ag] at h1;cases h1
 have g1:H l1=none:=by rw[ak n1] at h1;exact h1
 symm;refine sfldT (k:=k) (j:=3) (p:=C) rfl (by rw[ak nC,ak (aA hC g1),ak nC];exact hC) rfl ok ag (by show(2:Nat)<1000;decide) fun l2 h2=>?_;have n2:l2≠x:=fun e=>by rw[e,ag] at h2;cases h2
 have n21:l2≠l1:=fun e=>by rw[e,ak n1,ag] at h2;cases h2
 have g2:H l2=none:=by rw[ak n2,ak n21,ak n2] at h2;exact h2
 symm;refine sfldV (k:=k) (j:=4) rfl rfl ok ag (by show(3:Nat)<1000;decide) ?_;symm;refine sfldV (k:=k) (j:=5) rfl rfl ok ag (by show(4:Nat)<1000;decide) ?_;refine q _ (fun b o hb e=>?_) ⟨ok,dx,l1,l2,by rw[ag];rfl,?_,?_⟩
 . rw[ak hb,ak hb,ak hb,ak (aA e g2),ak hb,ak (aA e g1),ak hb];exact e
 . rw[ak n1,ak n1,ak n1,ak n21.symm,ak n1,ag]
 . rw[ak n2,ak n2,ak n2,ag]
def qZ(K:Frag)(c:RCl RK):Sp:=fun vs H Q E=>∃ k,xj K c k vs H Q E
def lW(K:Frag)(c:RCl RK):TS:=
 (tRet (tOp cIx (tFldK c (tVar 0) "words") (tC (.int 0))))
theorem zZ(h:qZ K c vs H Q E):lW K c (eD9 Q) (start ["self"] vs) H:=by
 obtain⟨k,r,p,w,ws,cs,n,m,rfl,x,q⟩:=h;obtain⟨dx,W,C,h1,h2,h3⟩:=x.ex;show lW K c _ [some (.ref r)] H;unfold lW;symm;refine fldE rfl x.ok h1 (v:=.ref W) (by rfl) ?_;symm;have e0:atI (((w::ws).map tx).map V.str) 0=some (V.str (tx w)):=dD (j:=0) rfl;exact ixT h2 e0 q
def qk(K:Frag)(c:RCl RK):Sp:=fun vs H Q E=>∃ k,dX K c k vs H Q E
def kM(K:Frag)(c:RCl RK):TS:=
 (tRet (tCB kList (tCons (tFldK c (tVar 0) "cells") tNil)))
theorem yO(h:qk K c vs H Q E):kM K c (eD9 Q) (start ["self"] vs) H:=by
 obtain⟨k,r,p,ws,cs,n,m,rfl,x,q⟩:=h;obtain⟨dx,W,C,h1,h2,h3⟩:=x.ex;show kM K c _ [some (.ref r)] H;unfold kM;symm;refine fldE rfl x.ok h1 (v:=.ref C) (by rfl) ?_;symm;exact F1 h3 q
def oC(K:Frag)(c:RCl RK):Sp:=fun vs H Q E=>∃ k,iJ K c k vs H Q E
def j5(K:Frag)(c:RCl RK):TS:=
 (tRet (tFldK c (tVar 0) "amount"))
theorem xk(h:oC K c vs H Q E):j5 K c (eD9 Q) (start ["self"] vs) H:=by
 obtain⟨k,r,p,ws,cs,n,m,rfl,x,q⟩:=h;obtain⟨dx,W,C,h1,h2,h3⟩:=x.ex;show j5 K c _ [some (.ref r)] H;unfold j5;symm;exact fldE rfl x.ok h1 (v:=.int n) (by rfl) q
def q5(K:Frag)(c:RCl RK):Sp:=fun vs H Q E=>∃ k,iK K c k vs H Q E
def lX(K:Frag)(c:RCl RK):TS:=
 (tRet (tFldK c (tVar 0) "mark"))
theorem z4(h:q5 K c vs H Q E):lX K c (eD9 Q) (start ["self"] vs) H:=by
 obtain⟨k,r,p,ws,cs,n,m,rfl,x,q⟩:=h;obtain⟨dx,W,C,h1,h2,h3⟩:=x.ex;show lX K c _ [some (.ref r)] H;unfold lX;symm;exact fldE rfl x.ok h1 (v:=.int m) (by rfl) q
def lY(K:Frag)(c:RCl RK):Sp:=fun vs H Q E=>∃ k,e8 K c k vs H Q E
def ib(K:Frag)(c:RCl RK):TS:=
 (tRet (tComp [none,none,some 1] (iTup K (tFldK c (tVar 0) "cells")) (gName 1) tTrue (tOp cIx (tVar 2) (tVar 1))))
theorem uo(h:lY K c vs H Q E):ib K c (eD9 Q) (start ["self","filling"] vs) H:=by
 obtain⟨k,r,p,f,ws,cs,xs,n,m,rfl,x,hf,⟨hn,hc⟩,q⟩:=h;obtain⟨dx,W,C,h1,h2,h3⟩:=x.ex;show ib K c _ [some (.ref r),some (.ref f)] H;unfold ib;rw[cR,xi];refine fldE rfl x.ok h1 (v:=.ref C) (by rfl) ?_;refine⟨C,rfl,⟨_,PM h3⟩,?_⟩;refine yn (xs:=cs) (fun _=>true) (fun c=>xs.getD c.toNat 0) (by omega) h3 ?_ ?_ ?_
 . intro x H1 R hx s1 k1;exact k1 _ (LQ _)
 . intro z H1 Q1 hz hb s1 k1;show tOp cIx _ _ [none,some (.int z),some (.ref f)] H1 Q1;symm;have:=hc z hz;exact ixI (s1 _ _ hf) this.1 (by omega) (k1 _ (LQ _))
 . intro l H1 hl s1 el;rw[a9] at el;exact q l H1 s1 hl el
def lZ(K:Frag):Sp:=fun vs H Q _=>∃ n:Nat,vs=[.str (tx (numC n))]/\n<100/\∀ H',Same H H'->Q (.int n) H'
def l0(K:Frag):TS:=
 (tSeq (tIfS (tOr (tTest (tOp (cEq K) (tVar 0) (tC (.str (tx []))))) (tOr (tTest (tOp (cCmp fun i j=>decide (j<i)) (tCB kLen (tCons (tVar 0) tNil)) (tC (.int 9)))) (tAnd (tTest (tOp (cEq K) (tOp cIx (tVar 0) (tC (.int 0))) (tC (.str (tx [48]))))) (tTest (tOp (cNe K) (tVar 0) (tC (.str (tx [48])))))))) (tRet (tC .non)) tNext)
  (tSeq (tIfS (tNot (tB (tCB kAll (tCons (tComp [none,none] (iStr (tVar 0)) (gName 1) tTrue (tOp (cIn K false) (tVar 1) (tC (.str (tx [48,49,50,51,52,53,54,55,56,57]))))) tNil)))) (tRet (tC .non)) tNext)
  (tRet (tCB pP (tCons (tVar 0) tNil)))))
theorem He{c:Nat}(h0:48<=c)(h1:c<=57):(!(Builtin.Str.occurrences (tx [48,49,50,51,52,53,54,55,56,57]) ⟨#[c]⟩ 0 (tx [48,49,50,51,52,53,54,55,56,57]).length 1).isEmpty)=true:=by
 have t:((List.range 58).all fun c=>!decide (48<=c)||!(Builtin.Str.occurrences (tx [48,49,50,51,52,53,54,55,56,57]) ⟨#[c]⟩ 0 (tx [48,49,50,51,52,53,54,55,56,57]).length 1).isEmpty)=true:=by decide+kernel
 have:=L3.mp t c (LZ.mpr (by omega))
 simpa [h0] using this
theorem z5(h:lZ K vs H Q E):l0 K (eD9 Q) (start ["word"] vs) H:=by
 obtain⟨n,rfl,hn,q⟩:=h;have hne:=Hd hn;have hl:=sV (n:=n);show l0 K _ [some (.str (tx (numC n)))] H;unfold l0;rw[aD,ax];symm;rw[bg,LR hne];refine iteF ⟨by rw[f8];exact aQ (by omega),?_⟩;symm;rw[f8,LR (show ¬ (9:Int) < ((numC n).length:Nat) by omega)];refine iteF ?_;rw[Ib,f8,vp]
 obtain⟨c,r,ec⟩:∃ c r,numC n=c::r:=by
  cases e:numC n with
  | nil=>exact absurd e hne
  | cons c r=>exact⟨c,r,rfl⟩
 refine⟨aQ (by omega),aZ (a:=c) (by rw[ec];exact dD (j:=0) rfl) ?_⟩;symm
 have e1:decide ((⟨#[c]⟩:Str)=tx [48])=decide (c=48):=by
  have:(⟨#[c]⟩:Str)=tx [c]:=rfl;rw[this,bg];simp
 rw[e1,bg]
 have e2:(decide (c=48)=true->decide (numC n=[48])=true):=by
  intro h;rw[LO] at h;have:=(Fa hn).1 (by rw[ec,h];rfl);subst this;decide
 have goal2:tSeq (tIfS (tNot (tB (tCB kAll (tCons (tComp [none,none] (iStr (tVar 0)) (gName 1) tTrue (tOp (cIn K false) (tVar 1) (tC (.str (tx [48,49,50,51,52,53,54,55,56,57]))))) tNil)))) (tRet (tC .non)) tNext) (tRet (tCB pP (tCons (tVar 0) tNil)))
   (eD9 Q) [some (.str (tx (numC n)))] H:=by
  rw[aD,ax];symm;refine DM (cs:=numC n) (fun _=>true) (fun _=>.bl true) (by omega) ?_ ?_ ?_
  . intro i c H1 R hc s1 k1;exact k1 _ (LQ _)
  . intro i c H1 Q1 hc hb s1 k1;have hd:=BQ hn c (LV hc);show tOp (cIn K false) _ _ [none,some (.str (tx [c]))] H1 Q1;symm;have q1:=k1 _ (LQ H1);show Q1 (.bl (if false=true then _ else !(Builtin.Str.occurrences (tx [48,49,50,51,52,53,54,55,56,57]) (tx [c]) 0 (tx [48,49,50,51,52,53,54,55,56,57]).length 1).isEmpty)) H1;rw[L4 LY,show tx [c]=⟨#[c]⟩ from rfl,He hd.1 hd.2];exact q1
  . intro l H1 hl1 s1 el
    have eb:((List.range (numC n).length).filter fun _=>true).map (fun _=>V.bl true)=(List.replicate (numC n).length true).map V.bl:=by
     rw[a9,List.map_const',MS,O1]
    rw[eb] at el;refine lz el ?_
    have ea:(List.replicate (numC n).length true).all id=true:=by
     rw[L3];intro b hb;exact(O4.mp hb).2
    rw[ea];symm;exact⟨n,hn,rfl,q _ s1⟩
 cases hc:decide (c=48) with
 | false=>
  refine iteF ?_;exact goal2
 | true=>
  refine iteT ?_;rw[e2 hc];exact goal2
def dY(K:Frag):Sp:=fun vs H Q _=>∃(n:Nat) (lo hi:Int),vs=[.str (tx (numC n)),.int lo,.int hi]/\n<100/\lo<=n/\n<=hi/\∀ H',Same H H'->Q (.int n) H'
def ic(K:Frag):TS:=
 (tSeq (tAsg (tCall (lZ K) [] E0 (tCons (tVar 0) tNil)) (gName 3))
  (tSeq (tIfS (tOr (tTest (tOp rIsN (tVar 3) (tC .non))) (tOr (tTest (tOp (cCmp fun i j=>decide (i<j)) (tVar 3) (tVar 1))) (tTest (tOp (cCmp fun i j=>decide (j<i)) (tVar 3) (tVar 2))))) cw tNext)
  (tRet (tVar 3))))
theorem uq(h:dY K vs H Q E):ic K (eD9 Q) (start ["word","least","most","number"] vs) H:=by
 obtain⟨n,lo,hi,rfl,hn,h0,h1,q⟩:=h;show ic K _ [some (.str (tx (numC n))),some (.int lo),some (.int hi),none] H;unfold ic;symm;refine⟨n,rfl,hn,fun H1 s1=>?_⟩;symm;rw[ax];symm;rw[LR (show ¬ V.int n=V.non from fun e=>nomatch e)];refine iteF ?_;rw[LR (show ¬ (n:Int)<lo by omega)];refine iteF ?_;rw[LR (show ¬ hi < (n:Int) by omega)];refine iteF ?_;symm;exact q _ s1
def WOk(ws:List (List Nat)):Prop:=∀ w∈ws,∀ c∈w,c<128
variable{w:List Nat}
theorem WOk.cons{ws:List (List Nat)}(h:∀ c∈w,c<128)(hs:WOk ws):WOk (w::ws):=fun v hv=>by
 rcases L6.mp hv with rfl | hv
 . exact h
 . exact hs v hv
variable{n:Nat}
theorem xm(h:n<100):∀ c∈numC n,c<128:=fun c hc=>by have:=BQ h c hc;omega
theorem zu(h:∀ c∈w,c<128):PyData.strOk (tx w)=true:=by
 unfold PyData.strOk;simp[tx];intro c hc;have:=h c hc;omega
theorem WOk.strs{ws:List (List Nat)}(h:WOk ws):∀ x∈ws.map tx,PyData.strOk x=true:=fun x hx=>by
 obtain⟨w,hw,rfl⟩:=L1.mp hx;exact zu (h w hw)
def dj(K:Frag):Sp:=fun vs H Q _=>∃(p:Addr) (n:Nat) (ws:List (List Nat)) (lo hi:Int),vs=[.ref p,.int lo,.int hi]/\H p=some (.lst (((numC n::ws).map tx).map V.str))/\n<100/\WOk ws/\lo<=n/\n<=hi/\∀ H',Same H H'->Q (.int n) H'
def i7(K:Frag):TS:=
 (tSeq (tIfS (tTest (tOp (cEq K) (tVar 0) (tLst tNil))) cw tNext)
  (tRet (tCall (dY K) [] E0 (tCons (tOp cIx (tVar 0) (tC (.int 0))) (tCons (tVar 1) (tCons (tVar 2) tNil))))))
theorem DVs.strs{K:Frag}{H:Hp}:∀ ns:List Str,DVs K H (ns.map V.str) (ns.map PyData.str)
 | []=>.nil
 | n::r=>.cons (.str n) (DVs.strs r)
theorem ra(a b:Str):PyData.eqv (.str a) (.str b)=decide (a=b):=by
 rw[PyData.eqv];by_cases h:a=b
 . subst h;simp
 . simp[h]
theorem fc(ns:List Str)(hs:∀ x∈ns,PyData.strOk x=true):SeqAt.shaped (.list (ns.map PyData.str))=true:=by
 have h1:PyData.canLayAll0 (ns.map PyData.str)=true:=xg fun d hd=>by obtain⟨x,hx,rfl⟩:=L1.mp hd;rw[PyData.canLay0];exact hs x hx
 have h2:PyData.depthAll (ns.map PyData.str)<=0:=qX fun d hd=>by obtain⟨x,_,rfl⟩:=L1.mp hd;exact Mj _
 simp[SeqAt.shaped,PyData.canLay0,h1,PyData.depth];omega
variable{xs:List Str}
theorem Hf{q:Addr}{ys:List Str}(hp:H p=some (.lst (xs.map V.str)))(hq:H q=some (.lst (ys.map V.str)))(h1:∀ x∈xs,PyData.strOk x=true)(h2:∀ x∈ys,PyData.strOk x=true)(h:Q (.bl (decide (xs=ys))) H):cEq K (.ref p) (.ref q) H Q:=by
 show rEqD K (.ref p) (.ref q) H Q;refine⟨.list (xs.map PyData.str),.list (ys.map PyData.str),.lst (Mc hp) (.strs xs),.lst (Mc hq) (.strs ys),fc xs h1,fc ys h2,?_⟩;rw[PyData.eqv,sS PyData.str ra];exact h
theorem DR{q:Addr}{ys:List Str}(hp:H p=some (.lst (xs.map V.str)))(hq:H q=some (.lst (ys.map V.str)))(h1:∀ x∈xs,PyData.strOk x=true)(h2:∀ x∈ys,PyData.strOk x=true)(h:Q (.bl (!decide (xs=ys))) H):cNe K (.ref p) (.ref q) H Q:=by
 show rNeD K (.ref p) (.ref q) H Q;refine⟨.list (xs.map PyData.str),.list (ys.map PyData.str),.lst (Mc hp) (.strs xs),.lst (Mc hq) (.strs ys),fc xs h1,fc ys h2,?_⟩;rw[PyData.eqv,sS PyData.str ra];exact h
theorem vw(h:dj K vs H Q E):i7 K (eD9 Q) (start ["words","least","most"] vs) H:=by
 obtain⟨p,n,ws,lo,hi,rfl,hp,hn,hw,h0,h1,q⟩:=h;show i7 K _ [some (.ref p),some (.int lo),some (.int hi)] H;unfold i7;rw[aD,ax];symm;refine⟨aQ (by decide),fun l hl=>?_⟩;have s1:Same H (upd H l (.lst [])):=(LQ H).laid hl;refine Hf (s1 _ _ hp) (ys:=[]) ag (WOk.strs (WOk.cons (xm hn) hw)) (fun x hx=>nomatch hx) ?_;generalize upd H l (.lst [])=H1 at*;symm;rw[LR (by simp)];refine iteF ?_;symm;have e0:atI (((numC n::ws).map tx).map V.str) 0=some (V.str (tx (numC n))):=dD (j:=0) rfl;refine ixL (s1 _ _ hp) e0 ?_;symm;exact⟨n,lo,hi,rfl,hn,h0,h1,fun H2 s2=>q _ (s1.trans s2)⟩
theorem Fc(acc:List Int)(v:Int):(step_dedup acc v).length<=acc.length+1:=by
 unfold step_dedup
 split <;> simp
theorem z6:∀(l acc:List Int),(l.foldl step_dedup acc).length<=acc.length+l.length
 | [],acc=>by simp
 | x::r,acc=>by
  have h1:=z6 r (step_dedup acc x);have h2:=Fc acc x;rw[Na,Mx];omega
theorem tT:∀(l acc:List Int),acc.Nodup->((l.foldl step_dedup acc).length=acc.length+l.length↔(acc++l).Nodup)
 | [],acc,h=>by simpa using h
 | x::r,acc,h=>by
  rw[Na];by_cases hx:x∈acc
  . have e:step_dedup acc x=acc:=by
     unfold step_dedup;rw[Md (by simpa using hx)]
    rw[e];have:=z6 r acc;constructor
    . intro z;rw[Mx] at z;omega
    . intro z;have:=(NU.mp z).2.2 x hx x Ma;exact absurd rfl this
  . have e:step_dedup acc x=acc++[x]:=by
     unfold step_dedup;rw[L4 (by simpa using hx)]
    rw[e];have hn:(acc++[x]).Nodup:=NU.mpr ⟨h,by simp,fun a ha b hb z=>hx (by rw[L0.mp hb] at z;exact z ▸ ha)⟩;have ih:=tT r (acc++[x]) hn;rw[Mt,PB] at ih;rw[Mx,show acc.length+(r.length+1)=acc.length+1+r.length by omega,show acc++x::r=acc++[x]++r by simp];exact ih
theorem xn(ns:List Int):(List.range ns.length).map (fun i=>ns.getD i 0)=ns:=by
 have:=qj ns (fun x=>x)
 simpa using this
theorem Fd(ns:List Int):cntD ns=ns.length↔ns.Nodup:=by
 unfold cntD firstMet;rw[xn];have:=tT ns [] Oj
 simpa using this
def kN(K:Frag):Sp:=fun vs H Q _=>∃(a p:Addr) (h w g:Int) (ns:List Nat),vs=[.ref a,.ref p]/\IsFl H a h w g/\FlOk h w g/\H p=some (.lst (((ns.map numC).map tx).map V.str))/\ns≠[]/\ns.length<=16/\(∀ n∈ns,(n:Int)<h*w)/\ns.Nodup/\
 ∀ l H',Same H H'->H l=none->H' l=some (.lst ((ns.map fun(n:Nat)=>(n:Int)).map V.int))->Q (.ref l) H'
def kO(K:Frag):TS:=
 (tSeq (sComp 2 [none,none,some 0] (iList K (tVar 1)) (gName 1) tTrue (tCall (dY K) [] E0 (tCons (tVar 1) (tCons (tC (.int 0)) (tCons (tOp cSub (tCall (bR K) [] E0 (tCons (tVar 2) tNil)) (tC (.int 1))) tNil)))))
  (tSeq (tIfS (tTest (tOp (cEq K) (tVar 2) (tLst tNil))) cw tNext)
  (tSeq (tIfS (tTest (tOp (cNe K) (sU (tVar 2)) (tCB kLen (tCons (tVar 2) tNil)))) cw tNext)
  (tRet (tVar 2)))))
variable{ns:List Nat}
theorem vx(h:ns.Nodup):(ns.map fun(n:Nat)=>(n:Int)).Nodup:=by
 induction ns with
 | nil=>exact Oj
 | cons a r ih=>
  rw[MX] at h;rw[MB,MX];refine⟨fun z=>?_,ih h.2⟩;obtain⟨b,hb,e⟩:=L1.mp z
  exact h.1 (by have:b=a:=by omega
                exact this ▸ hb)
theorem yP(h:kN K vs H Q E):kO K (eD9 Q) (start ["floor","words","cells"] vs) H:=by
 obtain⟨a,p,h,w,g,ns,rfl,ha,F,hp,hne,hn16,hlt,hnd,q⟩:=h;obtain⟨h0,h1,w0,w1,m16,g0,g1⟩:=F;show kO K _ [some (.ref a),some (.ref p),none] H;unfold kO;symm;refine⟨⟨_,Mc hp⟩,?_⟩;refine bN (xs:=((ns.map numC).map tx).map V.str) (fun _=>true) (fun i=>.int (ns.getD i 0:Nat)) (by simp;omega) (Mc hp) ?_ ?_ ?_
 . intro i x H1 R hx s1 k1;exact k1 _ (LQ _)
 . intro i x H1 Q1 hx hb s1 k1;rw[LW,LW,LW] at hx
   cases e:ns[i]? with
   | none=>rw[e] at hx;cases hx
   | some n=>
    rw[e] at hx;cases hx;have hm:=hlt n (LV e);show tCall _ _ _ _ [none,some (.str (tx (numC n))),some (.ref a)] H1 Q1;symm;refine⟨a,h,w,g,rfl,s1 _ _ ha,h0,h1,?_⟩;symm;refine⟨n,0,_,rfl,by omega,by omega,by omega,fun H2 s2=>?_⟩;have q1:=k1 _ s2;have eg:ns.getD i 0=n:=by rw[List.getD,e];rfl
    rw[eg] at q1;exact q1
 . intro l H1 hl s1 el
   have ec:((List.range (((ns.map numC).map tx).map V.str).length).filter fun _=>true).map (fun i=>V.int (ns.getD i 0:Nat))=(ns.map fun(n:Nat)=>(n:Int)).map V.int:=by
    rw[a9,LM,LM,LM,Mv];refine NC fun i=>?_;rw[LW,LW];by_cases h:i<ns.length
    . rw[M7 h,LN h];simp[List.getD,h]
    . rw[Mz (by simpa using h),Mz (by omega)];rfl
   rw[ec] at el;symm;rw[ax];symm;refine⟨aQ (by decide),fun z hz=>?_⟩;have s2:Same H1 (upd H1 z (.lst [])):=(LQ H1).laid hz;refine vj (s2 _ _ el) (ys:=[]) ag ?_;generalize upd H1 z (.lst [])=H2 at*;symm;rw[LR (by simpa using hne)];refine iteF ?_;symm;rw[ax];symm;refine⟨l,_,rfl,s2 _ _ el,by rw[LM];omega,?_⟩;rw[bc (s2 _ _ el),LM];symm;rw[LU (by rw[(Fd _).mpr (vx hnd)])];refine iteF ?_;symm;exact q l _ (s1.trans s2) hl (s2 _ _ el)
def allK:RK->Bool
 | .Joined=>true
 | .NoSquare=>true
 | .Ring=>true
 | _=>false
def numK:RK->Bool
 | .Sum=>true
 | .Seen=>true
 | .Count=>true
 | _=>false
def sgnK:RK->Bool
 | .Count=>true
 | .Joined=>true
 | .NoSquare=>true
 | .Ring=>true
 | _=>false
theorem Hg(k:RK):decide (tx (nmC k)∈fQ)=allK k:=by cases k <;> decide+kernel
theorem Hh(k:RK):decide (tx (nmC k)∈gt)=numK k:=by cases k <;> decide+kernel
theorem Hi(k:RK):decide (tx (nmC k)∈gd)=sgnK k:=by cases k <;> decide+kernel
structure xo(k:RK)(h w:Int)(ns:List Nat)(cs:List Int):Prop where
 told:allK k=false->ns≠[]/\ns.length<=16/\(∀ n∈ns,(n:Int)<h*w)/\ns.Nodup/\cs=ns.map fun(n:Nat)=>(n:Int)
 all:allK k=true->ns=[]/\cs=rngL 0 (h*w)
def nO(K:Frag):Sp:=fun vs H Q _=>∃(k:RK) (a p:Addr) (h w g:Int) (ns:List Nat) (cs:List Int),vs=[.ref a,.str (tx (nmC k)),.ref p]/\IsFl H a h w g/\FlOk h w g/\H p=some (.lst (((ns.map numC).map tx).map V.str))/\xo k h w ns cs/\(∀ n∈ns,n<100)/\
 ∀ l H',Same H H'->H l=none->H' l=some (.lst (cs.map V.int))->Q (.ref l) H'
def nP(K:Frag):TS:=
 (tSeq (tIfS (tB (tInG fQ true (tVar 1))) (tRet (tCall (kN K) [] E0 (tCons (tVar 0) (tCons (tVar 2) tNil)))) tNext)
  (tSeq (tIfS (tTest (tOp (cNe K) (tVar 2) (tLst tNil))) cw tNext)
  (tRet (kE (tCons (tCall (bR K) [] E0 (tCons (tVar 0) tNil)) tNil)))))
theorem A8(h:nO K vs H Q E):nP K (eD9 Q) (start ["floor","name","words"] vs) H:=by
 obtain⟨k,a,p,h,w,g,ns,cs,rfl,ha,F,hp,hc,hn,q⟩:=h;obtain⟨h0,h1,w0,w1,m16,g0,g1⟩:=id F;have mpos:0<=h*w:=NK (by omega) (by omega);show nP K _ [some (.ref a),some (.str (tx (nmC k))),some (.ref p)] H;unfold nP;rw[aD,ax];symm;rw[Hg]
 cases hk:allK k with
 | false=>
  obtain⟨c1,c2,c3,c4,rfl⟩:=hc.told hk;symm;exact⟨a,p,h,w,g,ns,rfl,ha,F,hp,c1,c2,c3,c4,q⟩
 | true=>
  obtain⟨rfl,rfl⟩:=hc.all hk;symm;rw[ax];symm;refine⟨aQ (by decide),fun z hz=>?_⟩;have s1:Same H (upd H z (.lst [])):=(LQ H).laid hz;refine DR (xs:=[]) (ys:=[]) (s1 _ _ hp) ag (fun x hx=>nomatch hx) (fun x hx=>nomatch hx) ?_;generalize upd H z (.lst [])=H1 at*;symm;refine⟨a,h,w,g,rfl,s1 _ _ ha,h0,h1,?_⟩;symm;refine⟨h*w,rfl,by omega,by omega,fun l hl=>?_⟩;exact q l _ (s1.laid hl) (s1.free hl) ag
def pR(K:Frag)(c:RCl RK):Sp:=fun vs H Q _=>∃(k:RK) (p W C:Addr) (ws:List (List Nat)) (cs:List Int) (n m:Int),vs=[.ref p,.ref W,.ref C,.int n,.int m]/\k≠.Rule/\c.ok k=true/\H W=some (.lst (((nmC k::ws).map tx).map V.str))/\H C=some (.lst (cs.map V.int))/\
 ∀ r H',Same H H'->H r=none->IsRule H' c k r p (nmC k::ws) cs n m->Q (.ref r) H'
def pS(K:Frag)(c:RCl RK):TS:=
 (tSeq (tAsg (tOp cIx (tVar 1) (tC (.int 0))) (gName 5))
  (tSeq (tIfS (tTest (tOp (cEq K) (tVar 5) (tC (.str (tx [117,110,108,105,107,101]))))) (tRet (tMake (c.A .Unlike) (aN K c) [] E0 (tCons (tVar 0) (tCons (tVar 1) (tCons (tVar 2) (tCons (tVar 3) (tCons (tVar 4) tNil))))))) tNext)
  (tSeq (tIfS (tTest (tOp (cEq K) (tVar 5) (tC (.str (tx [115,117,109]))))) (tRet (tMake (c.A .Sum) (aN K c) [] E0 (tCons (tVar 0) (tCons (tVar 1) (tCons (tVar 2) (tCons (tVar 3) (tCons (tVar 4) tNil))))))) tNext)
  (tSeq (tIfS (tTest (tOp (cEq K) (tVar 5) (tC (.str (tx [114,105,115,105,110,103]))))) (tRet (tMake (c.A .Rising) (aN K c) [] E0 (tCons (tVar 0) (tCons (tVar 1) (tCons (tVar 2) (tCons (tVar 3) (tCons (tVar 4) tNil))))))) tNext)
  (tSeq (tIfS (tTest (tOp (cEq K) (tVar 5) (tC (.str (tx [115,101,101,110]))))) (tRet (tMake (c.A .Seen) (aN K c) [] E0 (tCons (tVar 0) (tCons (tVar 1) (tCons (tVar 2) (tCons (tVar 3) (tCons (tVar 4) tNil))))))) tNext)
  (tSeq (tIfS (tTest (tOp (cEq K) (tVar 5) (tC (.str (tx [99,111,117,110,116]))))) (tRet (tMake (c.A .Count) (aN K c) [] E0 (tCons (tVar 0) (tCons (tVar 1) (tCons (tVar 2) (tCons (tVar 3) (tCons (tVar 4) tNil))))))) tNext)
  (tSeq (tIfS (tTest (tOp (cEq K) (tVar 5) (tC (.str (tx [106,111,105,110,101,100]))))) (tRet (tMake (c.A .Joined) (aN K c) [] E0 (tCons (tVar 0) (tCons (tVar 1) (tCons (tVar 2) (tCons (tVar 3) (tCons (tVar 4) tNil))))))) tNext)
  (tSeq (tIfS (tTest (tOp (cEq K) (tVar 5) (tC (.str (tx [110,111,115,113,117,97,114,101]))))) (tRet (tMake (c.A .NoSquare) (aN K c) [] E0 (tCons (tVar 0) (tCons (tVar 1) (tCons (tVar 2) (tCons (tVar 3) (tCons (tVar 4) tNil))))))) tNext)
  (tSeq (tIfS (tTest (tOp (cEq K) (tVar 5) (tC (.str (tx [114,105,110,103]))))) (tRet (tMake (c.A .Ring) (aN K c) [] E0 (tCons (tVar 0) (tCons (tVar 1) (tCons (tVar 2) (tCons (tVar 3) (tCons (tVar 4) tNil))))))) tNext)
  cw)))))))))
theorem F3{k:RK}{W C:Addr}{ws:List (List Nat)}{n m:Int}(ok:c.ok k=true)(hW:H W=some (.lst ((ws.map tx).map V.str)))(hC:H C=some (.lst (cs.map V.int)))(q:∀ r H',Same H H'->H r=none->IsRule H' c k r p ws cs n m->Q (.ref r) H'):
  ∀ x dx,H x=none->H dx=none->dx≠x->aN K c (.ref x::([.ref p,.ref W,.ref C,.int n,.int m]++[])) (upd (upd H dx (.own x)) x (.ins (c.A k) dx [])) (fun v H2=>v=.non/\Q (.ref x) H2) E0:=by
 intro x dx hx hd ne;refine⟨k,x,dx,p,W,C,ws,cs,n,m,rfl,ok,ag,aA hW hx,aA hC hx,?_,?_,fun H' hs hr=>⟨rfl,q x H' (fun b o e=>hs b o (aA e hx) ?_) hx hr⟩⟩
 . rw[ak (aA hW hx),ak (aA hW hd)];exact hW
 . rw[ak (aA hC hx),ak (aA hC hd)];exact hC
 . rw[ak (aA e hx),ak (aA e hd)];exact e
theorem Cr(h:pR K c vs H Q E):pS K c (eD9 Q) (start ["floor","words","cells","amount","mark","name"] vs) H:=by
 obtain⟨k,p,W,C,ws,cs,n,m,rfl,hk,ok,hW,hC,q⟩:=h;have mk:=F3 (K:=K) ok hW hC q;have e0:atI (((nmC k::ws).map tx).map V.str) 0=some (V.str (tx (nmC k))):=dD (j:=0) rfl;show pS K c _ [some (.ref p),some (.ref W),some (.ref C),some (.int n),some (.int m),none] H;unfold pS;symm;refine ixL hW e0 ?_
 have D:∀(l:List Nat) (t:TS) (u:TS) (D:Ends) (b:Bool),decide (nmC k=l)=b->(if b=true then t D [some (.ref p),some (.ref W),some (.ref C),some (.int n),some (.int m),some (.str (tx (nmC k)))] H else u D [some (.ref p),some (.ref W),some (.ref C),some (.int n),some (.int m),some (.str (tx (nmC k)))] H)->
   tIfS (tTest (tOp (cEq K) (tVar 5) (tC (.str (tx l))))) t u D [some (.ref p),some (.ref W),some (.ref C),some (.int n),some (.int m),some (.str (tx (nmC k)))] H:=fun l t u D b hb hq=>by
  rw[ax];symm;rw[bg,hb];exact hq
 have R:∀(D:Ends),D.rt=Q->tRet (tMake (c.A k) (aN K c) [] E0 (tCons (tVar 0) (tCons (tVar 1) (tCons (tVar 2) (tCons (tVar 3) (tCons (tVar 4) tNil)))))) D [some (.ref p),some (.ref W),some (.ref C),some (.int n),some (.int m),some (.str (tx (nmC k)))] H:=fun D hD=>by
  symm;rw[hD];exact mk
 cases k with
 | Rule=>exact absurd rfl hk
 | Unlike=>exact D _ _ _ _ true (by decide) (iteT (R _ rfl))
 | Sum=>exact D _ _ _ _ false (by decide) (iteF (D _ _ _ _ true (by decide) (iteT (R _ rfl))))
 | Rising=>exact D _ _ _ _ false (by decide) (iteF (D _ _ _ _ false (by decide) (iteF (D _ _ _ _ true (by decide) (iteT (R _ rfl))))))
 | Seen=>exact D _ _ _ _ false (by decide) (iteF (D _ _ _ _ false (by decide) (iteF (D _ _ _ _ false (by decide) (iteF (D _ _ _ _ true (by decide) (iteT (R _ rfl))))))))
 | Count=>exact D _ _ _ _ false (by decide) (iteF (D _ _ _ _ false (by decide) (iteF (D _ _ _ _ false (by decide) (iteF (D _ _ _ _ false (by decide) (iteF (D _ _ _ _ true (by decide) (iteT (R _ rfl))))))))))
 | Joined=>exact D _ _ _ _ false (by decide) (iteF (D _ _ _ _ false (by decide) (iteF (D _ _ _ _ false (by decide) (iteF (D _ _ _ _ false (by decide) (iteF (D _ _ _ _ false (by decide) (iteF (D _ _ _ _ true (by decide) (iteT (R _ rfl))))))))))))
 | NoSquare=>exact D _ _ _ _ false (by decide) (iteF (D _ _ _ _ false (by decide) (iteF (D _ _ _ _ false (by decide) (iteF (D _ _ _ _ false (by decide) (iteF (D _ _ _ _ false (by decide) (iteF (D _ _ _ _ false (by decide) (iteF (D _ _ _ _ true (by decide) (iteT (R _ rfl))))))))))))))
 | Ring=>exact D _ _ _ _ false (by decide) (iteF (D _ _ _ _ false (by decide) (iteF (D _ _ _ _ false (by decide) (iteF (D _ _ _ _ false (by decide) (iteF (D _ _ _ _ false (by decide) (iteF (D _ _ _ _ false (by decide) (iteF (D _ _ _ _ false (by decide) (iteF (D _ _ _ _ true (by decide) (iteT (R _ rfl))))))))))))))))
def rowW(k:RK)(n m:Nat)(ns:List Nat):List (List Nat):=nmC k::((if numK k then [numC n] else [])++(if sgnK k then [numC m] else [])++ns.map numC)
structure z7(k:RK)(h w g:Int)(n m:Nat)(ns:List Nat)(cs:List Int):Prop where
 k0:k≠.Rule
 n0:n<=99
 nz:numK k=false->n=0
 m0:sgnK k=true->1<=(m:Int)/\(m:Int)<=g
 mz:sgnK k=false->m=0
 cl:xo k h w ns cs
 ns0:∀ x∈ns,x<100
 len:ns.length<=16
def l6(K:Frag)(c:RCl RK):Sp:=fun vs H Q _=>∃(k:RK) (p:Addr) (h w g:Int) (n m:Nat) (ns:List Nat) (cs:List Int),vs=[.ref p,.str (tx (catL 32 (rowW k n m ns)))]/\IsFl H p h w g/\FlOk h w g/\z7 k h w g n m ns cs/\c.ok k=true/\
 ∀ r H',Same H H'->H r=none->IsRule H' c k r p (rowW k n m ns) cs n m->Q (.ref r) H'
def fR(K:Frag)(c:RCl RK):TS:=
 (tRet (tCall (pR K c) [] E0 (tCons (tVar 0) (tCons (tVar 2) (tCons (tCall (nO K) [] E0 (tCons (tVar 0) (tCons (tVar 3) (tCons (tVar 4) tNil)))) (tCons (tVar 5) (tCons (tVar 6) tNil)))))))
def i8(K:Frag)(c:RCl RK):TS:=
 (tSeq (tAsg (tOp cIx (tVar 2) (tC (.int 0))) (gName 3))
  (tSeq (tAsg (tSl j3 (tVar 2) (tPart (tC (.int 1))) eI) (gName 4))
  (tSeq (tAsg (tC (.int 0)) (gName 5))
  (tSeq (tAsg (tC (.int 0)) (gName 6))
  (tSeq (tIfS (tB (tInG gt false (tVar 3))) (tSeq (tAsg (tCall (dj K) [] E0 (tCons (tVar 4) (tCons (tC (.int 0)) (tCons (tC (.int 99)) tNil)))) (gName 5))
  (tAsg (tSl j3 (tVar 4) (tPart (tC (.int 1))) eI) (gName 4))) tNext)
  (tSeq (tIfS (tB (tInG gd false (tVar 3))) (tSeq (tAsg (tCall (dj K) [] E0 (tCons (tVar 4) (tCons (tC (.int 1)) (tCons (tOp cIx (tVar 0) (tC (.int 2))) tNil)))) (gName 6))
  (tAsg (tSl j3 (tVar 4) (tPart (tC (.int 1))) eI) (gName 4))) tNext)
  (fR K c)))))))
def l7(K:Frag)(c:RCl RK):TS:=
 (tSeq (tIfS (tNot (tB (tCB kIsi (tCons (tVar 1) (tCons (tC (.ty "str")) tNil))))) cw tNext)
  (tSeq (tAsg (tBM K "str" vk (tVar 1) (tCons (tC (.str (tx [32]))) tNil)) (gName 2))
  (i8 K c)))
theorem F4(k:RK):32∉nmC k:=by cases k <;> decide
variable{m:Nat}
theorem DS{k:RK}(hn:n<100)(hm:m<100)(hs:∀ x∈ns,x<100):∀ r∈rowW k n m ns,32∉r:=by
 intro r hr;unfold rowW at hr;rcases L6.mp hr with rfl | hr
 . exact F4 k
 rcases Ml.mp hr with hr | hr
 . rcases Ml.mp hr with hr | hr
   . split at hr
     . rw[L0.mp hr];exact ul hn
     . cases hr
   . split at hr
     . rw[L0.mp hr];exact ul hm
     . cases hr
 . obtain⟨x,hx,rfl⟩:=L1.mp hr;exact ul (hs x hx)
theorem Fe(xs:List V):cutV xs (some 1) none=xs.drop 1:=by
 unfold cutV;have h1:HT.sIx xs.length 0 (some 1)=min 1 xs.length:=HT.sIx_nat ..;have h2:HT.sIx xs.length xs.length none=xs.length:=rfl;rw[h1,h2]
 cases xs with
 | nil=>rfl
 | cons x r=>
  have:min 1 (x::r).length=1:=by simp
  rw[this];show(r).take _=r;rw[MT (by simp)]
theorem mQ {k:RK} {W R:Addr} {h w g:Int} {ws:List (List Nat)} {lv:V} (F:FlOk h w g) (ha:IsFl H p h w g) (hW:H W=some (.lst (((nmC k::ws).map tx).map V.str))) (hR:H R=some (.lst (((ns.map numC).map tx).map V.str))) (hc:xo k h w ns cs) (hn:∀ x∈ns,x<100) (k0:k≠.Rule) (ok:c.ok k=true)
  (q:∀ r H',Same H H'->H r=none->IsRule H' c k r p (nmC k::ws) cs n m->Q (.ref r) H'):
  fR K c (eD9 Q) [some (.ref p),some lv,some (.ref W),some (.str (tx (nmC k))),some (.ref R),some (.int n),some (.int m)] H:=by
 unfold fR;symm;refine⟨k,p,R,h,w,g,ns,cs,rfl,ha,F,hR,hc,hn,fun l H1 s1 hl el=>?_⟩;symm;exact⟨k,p,W,l,ws,cs,n,m,rfl,k0,ok,s1 _ _ hW,el,fun r H2 s2 hr x=>q r H2 (s1.trans s2) (s1.free hr) x⟩
theorem A9{k:RK}(h:ns.length<=16):(rowW k n m ns).length<=100/\∀ w∈rowW k n m ns,w.length<=100:=by
 unfold rowW;refine⟨?_,fun w hw=>?_⟩
 . simp only[Mx,Mt,LM]
   split <;> split <;> simp <;> omega
 . rcases L6.mp hw with rfl | hw
   . cases k <;> decide
   have h2:∀ x,(numC x).length<=100:=fun x=>L8 sV (by decide);rcases Ml.mp hw with hw | hw
   . rcases Ml.mp hw with hw | hw
     . split at hw
       . rw[L0.mp hw];exact h2 _
       . cases hw
     . split at hw
       . rw[L0.mp hw];exact h2 _
       . cases hw
   . obtain⟨x,hx,rfl⟩:=L1.mp hw;exact h2 _
theorem vy:∀(LC:List (List Nat)),(∀ r∈LC,r.length<=100)->(catL 32 LC).length<=101*LC.length
 | [],_=>MV _
 | [x],h=>by
  have:=h x Ma;show x.length<=101*1;omega
 | x::y::r,h=>by
  have h1:=h x Ma;have ih:=vy (y::r) fun z hz=>h z (L5 _ hz);have e:catL 32 (x::y::r)=x++32::catL 32 (y::r):=by first | rfl | simp[catL]
  rw[e,Mt,Mx,Mx];omega
theorem xp{x:Str}(hp:H p=some (.lst ((x::xs).map V.str)))(q:∀ l,H l=none->Q (.ref l) (upd H l (.lst (xs.map V.str)))):j3 (.ref p) (some 1) none H Q:=by
 refine pK hp fun l hl=>?_;rw[Fe];exact q l hl
theorem vz {k:RK} {W:Addr} {h w g:Int} {lv:V} (F:FlOk h w g) (ha:IsFl H p h w g) (hW:H W=some (.lst (((rowW k n m ns).map tx).map V.str))) (O:z7 k h w g n m ns cs) (ok:c.ok k=true)
  (q:∀ r H',Same H H'->H r=none->IsRule H' c k r p (rowW k n m ns) cs n m->Q (.ref r) H'):
  i8 K c (eD9 Q) [some (.ref p),some lv,some (.ref W),none,none,none,none] H:=by
 obtain⟨k0,n0,nz,m0,mz,cl,ns0,len⟩:=O;obtain⟨h0,h1,w0,w1,m16,g0,g1⟩:=id F;have e0:atI (((rowW k n m ns).map tx).map V.str) 0=some (V.str (tx (nmC k))):=dD (j:=0) rfl;have hns:WOk (ns.map numC):=fun v hv=>by obtain⟨x,hx,rfl⟩:=L1.mp hv;exact xm (ns0 x hx)
 unfold i8;symm;refine ixL hW e0 ?_;symm;refine xp hW fun R hR=>?_;obtain⟨H1,z9,s1,eR⟩:=aU (.lst ((((if numK k then [numC n] else [])++(if sgnK k then [numC m] else [])++ns.map numC).map tx).map V.str)) hR;rw[z9];symm
 have two:∀{H2:Hp} {R2:Addr},Same H H2->H2 R2=some (.lst ((((if sgnK k then [numC m] else [])++ns.map numC).map tx).map V.str))->
   tSeq (tIfS (tB (tInG gd false (tVar 3))) (tSeq (tAsg (tCall (dj K) [] E0 (tCons (tVar 4) (tCons (tC (.int 1)) (tCons (tOp cIx (tVar 0) (tC (.int 2))) tNil)))) (gName 6)) (tAsg (tSl j3 (tVar 4) (tPart (tC (.int 1))) eI) (gName 4))) tNext) (fR K c) (eD9 Q)
    [some (.ref p),some lv,some (.ref W),some (.str (tx (nmC k))),some (.ref R2),some (.int n),some (.int 0)] H2:=by
  intro H2 R2 s2 eR2;rw[aD,ax];symm;rw[Hi]
  cases hs:sgnK k with
  | false=>
   rw[hs] at eR2;have:=mz hs;subst this;symm;exact mQ F (s2 _ _ ha) (s2 _ _ hW) eR2 cl ns0 k0 ok fun r H3 s3 hr x=>q r H3 (s2.trans s3) (s2.free hr) x
  | true=>
   rw[hs] at eR2;have hm:=m0 hs;symm;refine ixT (s2 _ _ ha) (v:=V.int g) rfl ?_;symm;refine⟨R2,m,ns.map numC,1,g,rfl,eR2,by omega,hns,hm.1,hm.2,fun H3 s3=>?_⟩;symm;refine xp (s3 _ _ eR2) fun R3 hR3=>?_;have s4:Same H3 (upd H3 R3 (.lst (((ns.map numC).map tx).map V.str))):=(LQ H3).laid hR3;have s24:=(s2.trans s3).trans s4;exact mQ F (s24 _ _ ha) (s24 _ _ hW) ag cl ns0 k0 ok fun r H5 s5 hr x=>q r H5 (s24.trans s5) (s24.free hr) x
 rw[ax];symm;rw[Hh]
 cases hn:numK k with
 | false=>
  rw[hn] at eR;have:=nz hn;subst this;symm;exact two s1 eR
 | true=>
  rw[hn] at eR;symm;refine⟨R,n,(if sgnK k then [numC m] else [])++ns.map numC,0,99,rfl,eR,by omega,?_,by omega,by omega,fun H3 s3=>?_⟩
  . intro v hv;rcases Ml.mp hv with hv | hv
    . split at hv
      . rename_i hs
        have:=m0 hs;rw[L0.mp hv];exact xm (by omega)
      . cases hv
    . exact hns v hv
  symm;refine xp (s3 _ _ eR) fun R3 hR3=>?_;have s4:Same H3 (upd H3 R3 (.lst ((((if sgnK k then [numC m] else [])++ns.map numC).map tx).map V.str))):=(LQ H3).laid hR3;symm;exact two ((s1.trans s3).trans s4) ag
theorem z8(h:l6 K c vs H Q E):l7 K c (eD9 Q) (start ["floor","line","words","name","rest","amount","mark"] vs) H:=by
 obtain⟨k,p,h,w,g,n,m,ns,cs,rfl,ha,F,O,ok,q⟩:=h
 have hm:m<100:=by
  by_cases hs:sgnK k=true
  . have:=(O.m0 hs).2;have:=F.g1;omega
  . have:=O.mz (by simpa using hs);omega
 have hsp:Txt.split (tx (catL 32 (rowW k n m ns))) (tx [32])=(rowW k n m ns).map tx:=E9 (by simp[rowW]) (DS (by have:=O.n0;omega) hm O.ns0);have hl:=A9 (k:=k) (n:=n) (m:=m) O.len;have hl2:=vy _ hl.2;show l7 K c _ [some (.ref p),some (.str (tx (catL 32 (rowW k n m ns)))),none,none,none,none,none] H;unfold l7;rw[aD,ax];symm;refine⟨FA,?_⟩;rw[FV,hsp];refine⟨by rw[f8];decide,by rw[f8];exact MK (M3 hl2 (M3 (Nat.mul_le_mul_left 101 hl.1) (by decide))),by rw[LM];exact aQ (by omega),fun W hW=>?_⟩;have s1:Same H (upd H W (.lst (((rowW k n m ns).map tx).map V.str))):=(LQ H).laid hW;exact vz F (s1 _ _ ha) ag O ok fun r H2 s2 hr x=>q r H2 (s1.trans s2) (s1.free hr) x
theorem yo{α β:Type}(f:α->β):∀(l:List α) (j:Nat),(l.map f).eraseIdx j=(l.eraseIdx j).map f
 | [],_=>rfl
 | _::_,0=>rfl
 | x::r,j+1=>by
  show f x::(r.map f).eraseIdx j=f x::(r.eraseIdx j).map f;rw[yo f r j]
theorem vA{α:Type}:∀(l:List α) (j:Nat) (h:j<l.length),(l[j]::l.eraseIdx j).Perm l
 | [],_,h=>absurd h (by simp)
 | x::r,0,_=>List.Perm.refl _
 | x::r,j+1,h=>by
  have hj:j<r.length:=by simpa using h
  have ih:=vA r j hj;show(r[j]::x::r.eraseIdx j).Perm (x::r);exact(List.Perm.swap x r[j] (r.eraseIdx j)).trans (List.Perm.cons x ih)
theorem rb{α β:Type}(f:α->β):∀{l:List α},(l.map f).Nodup->l.Nodup
 | [],_=>Oj
 | a::r,h=>by
  rw[MB,MX] at h;rw[MX];exact⟨fun z=>h.1 (L1.mpr ⟨a,z,rfl⟩),rb f h.2⟩
theorem yp(n:Int):(rngL 0 n).Nodup:=by
 unfold rngL;have e:(List.range (n-0).toNat).map (fun(k:Nat)=>0+(k:Int))=(List.range (n-0).toNat).map fun(k:Nat)=>(k:Int):=OP fun k _=>by omega
 rw[e];exact vx List.nodup_range
theorem xq{n x:Int}(h:x∈rngL 0 n):0<=x/\x<n:=by
 unfold rngL at h;obtain⟨k,hk,rfl⟩:=L1.mp h;have:=LZ.mp hk;omega
def mR(K:Frag)(c:RCl RK):Sp:=dt K c .Unlike
def i9(K:Frag)(c:RCl RK):TS:=
 (tSeq (tAsg (aF c c.ok "signs_at" (e8 K c) (tVar 0) (tCons (tVar 1) tNil)) (gName 2))
  (tRet (tOp (cEq K) (sU (tVar 2)) (tCB kLen (tCons (tVar 2) tNil)))))
theorem vC(h:mR K c vs H Q E):i9 K c (eD9 Q) (start ["self","filling","signs"] vs) H:=by
 obtain⟨r,p,f,ws,cs,xs,n,m,h,w,g,rfl,x,ha,F,hf,hC,hx,q⟩:=h;obtain⟨dx,W,C,h1,h2,h3⟩:=x.ex;show i9 K c _ [some (.ref r),some (.ref f),none] H;unfold i9;symm;refine methE rfl x.ok h1 (by rfl) ?_;symm;refine⟨r,p,f,ws,cs,xs,n,m,rfl,x,hf,hC,fun l H1 s1 hl el=>?_⟩;have LJ:(sgAt xs cs).length<=100:=by unfold sgAt;rw[LM];exact L8 hC.1 (by decide)
 symm;refine⟨l,_,rfl,el,by omega,?_⟩;symm;rw[bc el,LM];symm;have q1:=q _ s1;unfold hoB at q1;dsimp only at q1
 have e:decide (((cntD (sgAt xs cs):Nat):Int)=((sgAt xs cs).length:Nat))=decide (cntD (sgAt xs cs)=(sgAt xs cs).length):=by
  rw[Mn,LO,LO];omega
 rw[e];exact q1
theorem Ba(xs:List Int)(i:Nat)(y:Int):(xs.map V.int).set i (.int y)=(xs.set i y).map V.int:=by rw[List.map_set]
theorem BR(h:n<100):((n:Int)).natAbs.log2<1920:=by
 have t:((List.range 100).all fun n=>decide (n.log2<1920))=true:=by decide+kernel
 have:=L3.mp t n (LZ.mpr h)
 simpa using this
theorem F5(h:n<100)(q:Q (.str (tx (numC n))) H):kStr [.int (n:Int)] H Q:=by
 refine⟨BR h,?_⟩;rw[BP h];exact q
theorem DT {C:Addr} {cs:List Nat} {fin:Addr->Hp->Prop} (hC:H C=some (.lst ((cs.map fun(n:Nat)=>(n:Int)).map V.int))) (hl:cs.length<=100) (hc:∀ c∈cs,c<100)
  (hd:∀ l H',H l=none->Same H H'->H' l=some (.lst (((cs.map numC).map tx).map V.str))->fin l H'):CompR (Itl K C) (gName 1) tTrue (tCB kStr (tCons (tVar 1) tNil)) fin [none,none] H:=by
 refine bN (xs:=(cs.map fun(n:Nat)=>(n:Int)).map V.int) (fun _=>true) (fun i=>.str (tx (numC (cs.getD i 0)))) (by simp;omega) (Mc hC) ?_ ?_ ?_
 . intro i x H1 R hx s1 k1;exact k1 _ (LQ _)
 . intro i x H1 Q1 hx hb s1 k1;rw[LW,LW] at hx
   cases e:cs[i]? with
   | none=>rw[e] at hx;cases hx
   | some n=>
    rw[e] at hx;cases hx;show tCB kStr _ [none,some (.int (n:Int))] H1 Q1;symm;have q1:=k1 _ (LQ H1);have eg:cs.getD i 0=n:=by rw[List.getD,e];rfl
    rw[eg] at q1;have:=F5 (H:=H1) (Q:=Q1) (hc n (LV e)) q1;exact this
 . intro l H1 hl1 s1 el;refine hd l H1 hl1 s1 ?_;rw[el,a9,LM,LM,Mv,Mv]
   congr 2
   refine NC fun i=>?_;rw[LW,LW];by_cases h:i<cs.length
   . rw[M7 h,LN h];simp[List.getD,h]
   . rw[Mz (by simpa using h),Mz (by omega)];rfl
section
variable{X:Cx}{a:Expr}{ta:TE}{pos p:Pos}{x:Str}{ws:List Str}
theorem vD(G:GTup X.K X.mg x ws)(ha:PE X a ta)(hg:Gl X x)(hdb:(x==("__debug__":Str))=false:=by decide)(hm:behindInMarks .In (.Name x p)=false:=by with_unfolding_all rfl):PT X (.Compare a [.In] [.Name x p] pos) (tB (tInG ws false ta)):=by
 obtain⟨q,o,LF,n,h1,h2⟩:=G.ex;have h0:=ai (pos:=pos) (Hc ⟨o,LF,n,h2⟩) ha (cp (v:=V.ref q) hg h1 rfl hdb) hm;intro LB s σ H Q I h;refine h0 LB s σ H Q I ?_
 have e:(fun(x:V) (H1:Hp)=>∃ z,x=.str z/\∃ k,V.bl (if false=true then !decide (z∈ws) else decide (z∈ws))=.bl k/\Q k H1)=fun x H1=>∃ z,x=.str z/\(V.ref q=V.ref q)/\∃ k,V.bl (decide (z∈ws))=.bl k/\Q k H1:=by
  funext x H1;simp
 have h':ta σ H (fun(x:V) (H1:Hp)=>∃ z,x=.str z/\∃ k,V.bl (if false=true then !decide (z∈ws) else decide (z∈ws))=.bl k/\Q k H1):=h;rw[e] at h';exact h'
theorem BS(G:GTup X.K X.mg x ws)(ha:PE X a ta)(hg:Gl X x)(hdb:(x==("__debug__":Str))=false:=by decide)(hm:behindInMarks .NotIn (.Name x p)=false:=by with_unfolding_all rfl):PT X (.Compare a [.NotIn] [.Name x p] pos) (tB (tInG ws true ta)):=by
 obtain⟨q,o,LF,n,h1,h2⟩:=G.ex;have h0:=ai (pos:=pos) (FY ⟨o,LF,n,h2⟩) ha (cp (v:=V.ref q) hg h1 rfl hdb) hm;intro LB s σ H Q I h;refine h0 LB s σ H Q I ?_
 have e:(fun(x:V) (H1:Hp)=>∃ z,x=.str z/\∃ k,V.bl (if true=true then !decide (z∈ws) else decide (z∈ws))=.bl k/\Q k H1)=fun x H1=>∃ z,x=.str z/\(V.ref q=V.ref q)/\∃ k,V.bl (!decide (z∈ws))=.bl k/\Q k H1:=by
  funext x H1;simp
 have h':ta σ H (fun(x:V) (H1:Hp)=>∃ z,x=.str z/\∃ k,V.bl (if true=true then !decide (z∈ws) else decide (z∈ws))=.bl k/\Q k H1):=h;rw[e] at h';exact h'
end
inductive PzK where
 | Puzzle
 deriving DecidableEq
structure RR where
 k:RK
 n:Nat
 m:Nat
 ns:List Nat
 cs:List Int
def RR.ws(r:RR):List (List Nat):=rowW r.k r.n r.m r.ns
def RR.txt(r:RR):Str:=tx (catL 32 r.ws)
def RR.Ok(r:RR)(h w g:Int):Prop:=z7 r.k h w g r.n r.m r.ns r.cs
structure IsRules(H:Hp)(c:RCl RK)(p L:Addr)(rs:List Addr)(LC:List RR):Prop where
 top:H L=some (.lst (rs.map V.ref))
 len:rs.length=LC.length
 at_:∀(i:Nat) (r:Addr) (x:RR),rs[i]? =some r->LC[i]? =some x->IsRule H c x.k r p x.ws x.cs x.n x.m
variable{H:Hp}{c:RCl RK}{p:Addr}{rs:List Addr}{LC:List RR}
theorem IsRules.same{H':Hp}{L:Addr}(x:IsRules H c p L rs LC)(s:Same H H'):IsRules H' c p L rs LC:=
 ⟨s _ _ x.top,x.len,fun i r y h1 h2=>(x.at_ i r y h1 h2).same s⟩
variable{cs:List Int}{o:HO}
theorem IsRule.lst{k:RK}{r a:Addr}{ws:List (List Nat)}{n m:Int}{xs:List V}(x:IsRule H c k r p ws cs n m)(ha:H a=some (.lst xs)):IsRule (upd H a o) c k r p ws cs n m:=by
 obtain⟨dx,W,C,h1,h2,h3⟩:=x.ex;refine⟨x.ok,dx,W,C,?_,?_,?_⟩
 . rw[ak (fun e=>by rw[e,ha] at h1;cases h1)];exact h1
 . rw[ak (fun e=>by rw[e,ha] at h2;cases h2)];exact h2
 . rw[ak (fun e=>by rw[e,ha] at h3;cases h3)];exact h3
def pFs(p L G:Addr):List (Str × V):=[("floor",.ref p),("laws",.ref L),("given",.ref G)]
structure bn(c:RCl RK)(h w g:Int)(LC:List RR):Prop where
 F:FlOk h w g
 n:LC.length<=12
 ok:∀ r∈LC,r.Ok h w g
 c:∀ r∈LC,c.ok r.k=true
structure CluesOk(h w g:Int)(cl:List Int):Prop where
 len:cl.length=(h*w).toNat
 ok:∀ x∈cl,0<=x/\x<=g
structure IsPz(H:Hp)(c:RCl RK)(d:RCl PzK)(P L G:Addr)(h w g:Int)(LC:List RR)(cl:List Int):Prop where
 ok:d.ok .Puzzle=true
 R:bn c h w g LC
 C:CluesOk h w g cl
 gv:H G=some (.lst (cl.map V.int))
 ex:∃ dx p rs,H P=some (.ins (d.A .Puzzle) dx (pFs p L G))/\IsFl H p h w g/\IsRules H c p L rs LC
variable{d:RCl PzK}{cl:List Int}
theorem IsPz.same{H':Hp}{P L G:Addr}{h w g:Int}(x:IsPz H c d P L G h w g LC cl)(s:Same H H'):IsPz H' c d P L G h w g LC cl:=by
 obtain⟨dx,p,rs,h1,h2,h3⟩:=x.ex;exact⟨x.ok,x.R,x.C,s _ _ x.gv,dx,p,rs,s _ _ h1,s _ _ h2,h3.same s⟩
def du(K:Frag):Sp:=fun vs H Q _=>∃ i:Int,vs=[.int i]/\Q (.bl true) H
def nQ(K:Frag):TS:=
 (tRet (tAndV (tCB kIsi (tCons (tVar 0) (tCons (tC (.ty "int")) tNil))) (tNotV (tCB kIsi (tCons (tVar 0) (tCons (tC (.ty "bool")) tNil))))))
variable{K:Frag}{vs:List V}{Q:VK}{E:XK}
theorem Bb(h:du K vs H Q E):nQ K (eD9 Q) (start ["value"] vs) H:=by
 obtain⟨i,rfl,q⟩:=h;show nQ K _ [some (.int i)] H;unfold nQ;symm;exact q
def bP(K:Frag):Sp:=fun vs H Q _=>∃ i m:Int,vs=[.int i,.int m]/\Q (.bl (decide (1<=i)&&decide (i<=m))) H
def gA(K:Frag):TS:=
 (tRet (tAndV (tCall (du K) [] E0 (tCons (tVar 0) tNil)) (tAndV (tOp (cCmp fun i j=>decide (i<=j)) (tC (.int 1)) (tVar 0)) (tOp (cCmp fun i j=>decide (i<=j)) (tVar 0) (tVar 1)))))
theorem tq(h:bP K vs H Q E):gA K (eD9 Q) (start ["value","most"] vs) H:=by
 obtain⟨i,m,rfl,q⟩:=h;show gA K _ [some (.int i),some (.int m)] H;unfold gA;symm;refine⟨i,rfl,⟨true,rfl,iteT ?_⟩⟩;symm
 cases hb:decide (1<=i) with
 | false=>
  rw[hb,Mb] at q;exact iteF q
 | true=>
  rw[hb,Mf] at q;exact iteT q
def nR(K:Frag):Sp:=fun vs H Q _=>∃ h w g:Int,vs=[.int h,.int w,.int g]/\FlOk h w g/\∀ p,H p=none->Q (.ref p) (upd H p (.tup [.int h,.int w,.int g]))
def nS(K:Frag):TS:=
 (tSeq (tIfS (tNot (tB (tCall (bP K) [] E0 (tCons (tVar 0) (tCons (tC (.int 6)) tNil))))) cw tNext)
  (tSeq (tIfS (tNot (tB (tCall (bP K) [] E0 (tCons (tVar 1) (tCons (tC (.int 6)) tNil))))) cw tNext)
  (tSeq (tIfS (tTest (tOp (cCmp fun i j=>decide (j<i)) (tOp cMul (tVar 0) (tVar 1)) (tC (.int 16)))) cw tNext)
  (tSeq (tIfS (tNot (tB (tCall (bP K) [] E0 (tCons (tVar 2) (tCons (tC (.int 6)) tNil))))) cw tNext)
  (tRet (tTup (tCons (tVar 0) (tCons (tVar 1) (tCons (tVar 2) tNil)))))))))
theorem Bc(h:nR K vs H Q E):nS K (eD9 Q) (start ["high","wide","signs"] vs) H:=by
 obtain⟨h,w,g,rfl,F,q⟩:=h;obtain⟨h0,h1,w0,w1,m16,g0,g1⟩:=id F;show nS K _ [some (.int h),some (.int w),some (.int g)] H;unfold nS;rw[aD,ax];symm;refine⟨h,6,rfl,⟨_,rfl,?_⟩⟩;rw[LU h0,LU h1,PL];refine iteF ?_;rw[ax];symm;refine⟨w,6,rfl,⟨_,rfl,?_⟩⟩;rw[LU w0,LU w1,PL];refine iteF ?_;rw[ax];symm;refine⟨mP h0 h1,?_⟩;rw[LR (show ¬ (16:Int)<h*w by omega)];refine iteF ?_;rw[ax];symm;refine⟨g,6,rfl,⟨_,rfl,?_⟩⟩;rw[LU g0,LU g1,PL];refine iteF ?_;symm;exact⟨lnR rfl,q⟩
def ie(K:Frag):Sp:=fun vs H Q _=>∃(p:Addr) (h w g:Int),vs=[.ref p]/\IsFl H p h w g/\FlOk h w g/\∀ p,H p=none->Q (.ref p) (upd H p (.tup [.int h,.int w,.int g]))
def ig(K:Frag):TS:=
 (tSeq (tIfS (tOr (tNot (tB (tCB kIsi (tCons (tVar 0) (tCons (tC (.ty "tuple")) tNil))))) (tTest (tOp (cNe K) (tCB kLen (tCons (tVar 0) tNil)) (tC (.int 3))))) cw tNext)
  (tRet (tCall (nR K) [] E0 (tCons (tOp cIx (tVar 0) (tC (.int 0))) (tCons (tOp cIx (tVar 0) (tC (.int 1))) (tCons (tOp cIx (tVar 0) (tC (.int 2))) tNil))))))
theorem ur(h:ie K vs H Q E):ig K (eD9 Q) (start ["floor"] vs) H:=by
 obtain⟨p,h,w,g,rfl,hp,F,q⟩:=h;show ig K _ [some (.ref p)] H;unfold ig;rw[aD,ax];symm;refine zQ hp ?_;symm;rw[zK hp,show(([V.int h,V.int w,V.int g]:List V).length:Int)=3 from rfl];symm;refine ixT hp (v:=V.int h) rfl ?_;symm;refine ixT hp (v:=V.int w) rfl ?_;symm;refine ixT hp (v:=V.int g) rfl ?_;symm;exact⟨h,w,g,rfl,F,q⟩
def kP(K:Frag)(c:RCl RK):Sp:=fun vs H Q _=>∃(p a:Addr) (h w g:Int) (LC:List RR),vs=[.ref p,.ref a]/\IsFl H p h w g/\H a=some (.lst ((LC.map RR.txt).map V.str))/\bn c h w g LC/\
 ∀ l rs H',Same H H'->H l=none->IsRules H' c p l rs LC->Q (.ref l) H'
def kQ(K:Frag)(c:RCl RK):TS:=
 (tSeq (tIfS (tTest (tOp (cCmp fun i j=>decide (j<i)) (tCB kLen (tCons (tVar 1) tNil)) (tC (.int 12)))) cw tNext)
  (tRet (tComp [none,none,some 0] (iList K (tVar 1)) (gName 1) tTrue (tCall (l6 K c) [] E0 (tCons (tVar 2) (tCons (tVar 1) tNil))))))
theorem yQ(h:kP K c vs H Q E):kQ K c (eD9 Q) (start ["floor","lines"] vs) H:=by
 obtain⟨p,a,h,w,g,LC,rfl,hp,ha,O,q⟩:=h;have hn:=O.n;show kQ K c _ [some (.ref p),some (.ref a)] H;unfold kQ;rw[aD,ax];symm;rw[bc ha,LM,LM];symm;rw[LR (show ¬ (12:Int) < (LC.length:Nat) by omega)];refine iteF ?_;symm;refine⟨⟨_,Mc ha⟩,?_⟩
 refine qU (xs:=(LC.map RR.txt).map V.str) (fun l i σ H'=>(∃ cv,σ=[none,cv,some (.ref p)])/\Same H H'/\∃ rs:List Addr,H' l=some (.lst (rs.map V.ref))/\rs.length=i/\∀(j:Nat) (r:Addr) (x:RR),rs[j]? =some r->LC[j]? =some x->IsRule H' c x.k r p x.ws x.cs x.n x.m)
  (fun l hl=>⟨⟨none,rfl⟩,(LQ H).laid hl,[],by rw[ag];rfl,rfl,fun j r x e=>by simp at e⟩) (fun l i σ H' _ _ x=>x.2.1.seq (Mc ha)) ?_ ?_
 . rintro l i x σ H1 hl hx ⟨⟨cv,rfl⟩,s1,rs,el,LJ,hat⟩;rw[LW,LW] at hx
   cases e:LC[i]? with
   | none=>rw[e] at hx;cases hx
   | some y=>
    rw[e] at hx;cases hx;have hi:=(LP.mp e).1;have hm:=LV e;rw[a7];show tTrue [none,some (.str y.txt),some (.ref p)] H1 _;symm;refine⟨y.k,p,h,w,g,y.n,y.m,y.ns,y.cs,rfl,s1 _ _ hp,O.F,O.ok y hm,O.c y hm,fun r H2 s2 hr xr=>?_⟩;have nrl:r≠l:=fun z=>by rw[z,el] at hr;cases hr
    refine⟨_,s2 _ _ el,by rw[LM];exact aE (by omega),⟨_,rfl⟩,(s1.trans s2).own hl,rs++[r],by rw[ag];simp,by simp[LJ],fun j r' x' h1 h2=>?_⟩;by_cases hj:j<rs.length
    . rw[Mr hj] at h1;exact((hat j r' x' h1 h2).same s2).lst (s2 _ _ el)
    . rw[MD (by omega)] at h1
      have hj0:j-rs.length=0:=by
       have:=(LP.mp h1).1;simp at this;omega
      rw[hj0] at h1;have:j=i:=by omega
      subst this;rw[e] at h2;simp at h1;cases h2;subst h1;exact xr.lst (s2 _ _ el)
 . rintro l σ H1 hl ⟨_,s1,rs,el,LJ,hat⟩;exact q l rs H1 s1 hl ⟨el,by rw[LJ];simp,hat⟩
def filB(least g:Int)(n:Nat)(xs:List Int):Bool:=decide (xs.length=n)&&xs.all fun x=>decide (least<=x)&&decide (x<=g)
def kR(K:Frag):Sp:=fun vs H Q _=>∃(p a:Addr) (h w g least:Int) (xs:List Int),vs=[.ref p,.ref a,.int least]/\IsFl H p h w g/\FlOk h w g/\H a=some (.lst (xs.map V.int))/\xs.length<=100/\∀ H',Same H H'->Q (.bl (filB least g (h*w).toNat xs)) H'
def kS(K:Frag):TS:=
 (tSeq (tIfS (tOr (tNot (tB (tCB kIsi (tCons (tVar 1) (tCons (tC (.ty "list")) tNil))))) (tTest (tOp (cNe K) (tCB kLen (tCons (tVar 1) tNil)) (tCall (bR K) [] E0 (tCons (tVar 0) tNil))))) (tRet (tC (.bl false))) tNext)
  (tRet (tCB kAll (tCons (tComp [none,none,some 0,some 2] (iList K (tVar 1)) (gName 1) tTrue (tAndV (tCall (du K) [] E0 (tCons (tVar 1) tNil)) (tAndV (tOp (cCmp fun i j=>decide (i<=j)) (tVar 3) (tVar 1)) (tOp (cCmp fun i j=>decide (i<=j)) (tVar 1) (tOp cIx (tVar 2) (tC (.int 2))))))) tNil))))
theorem yR(h:kR K vs H Q E):kS K (eD9 Q) (start ["floor","filling","least"] vs) H:=by
 obtain⟨p,a,h,w,g,least,xs,rfl,hp,F,ha,hn,q⟩:=h;obtain⟨h0,h1,w0,w1,m16,g0,g1⟩:=id F;have mpos:0<=h*w:=NK (by omega) (by omega);show kS K _ [some (.ref p),some (.ref a),some (.int least)] H;unfold kS;rw[aD,ax];symm;refine zP ha ?_;symm;rw[bc ha,LM];symm;refine⟨p,h,w,g,rfl,hp,h0,h1,?_⟩;symm;unfold filB at q;by_cases hl:xs.length=(h*w).toNat
 . rw[LU (show(xs.length:Int)=h*w by omega)];rw[LU hl] at q;symm;refine⟨⟨_,Mc ha⟩,?_⟩;refine bN (xs:=xs.map V.int) (fun _=>true) (fun i=>.bl (decide (least<=xs.getD i 0)&&decide (xs.getD i 0<=g))) (by rw[LM];omega) (Mc ha) ?_ ?_ ?_
   . intro i x H1 R hx s1 k1;exact k1 _ (LQ _)
   . intro i x H1 Q1 hx hb s1 k1;obtain⟨z,hz,rfl⟩:=aP hx;have q1:=k1 _ (LQ H1);rw[eP hz] at q1;show tAndV _ _ [none,some (.int z),some (.ref p),some (.int least)] H1 Q1;symm;refine⟨z,rfl,⟨true,rfl,iteT ?_⟩⟩;symm
     cases hb:decide (least<=z) with
     | false=>
      rw[hb,Mb] at q1;exact iteF q1
     | true=>
      rw[hb,Mf] at q1;refine iteT ?_;symm;refine ixT (s1 _ _ hp) (v:=V.int g) rfl ?_;symm;exact q1
   . intro l H1 hl1 s1 el
     have eb:((List.range (xs.map V.int).length).filter fun _=>true).map (fun i=>V.bl (decide (least<=xs.getD i 0)&&decide (xs.getD i 0<=g)))=(xs.map fun x=>decide (least<=x)&&decide (x<=g)).map V.bl:=by
      rw[a9,LM];refine NC fun i=>?_;rw[LW,LW,LW];by_cases h:i<xs.length
      . rw[M7 h,LN h];simp[List.getD,h]
      . rw[Mz (by simpa using h),Mz (by omega)];rfl
     rw[eb] at el;refine lz el ?_;have ea:(xs.map fun x=>decide (least<=x)&&decide (x<=g)).all id=xs.all fun x=>decide (least<=x)&&decide (x<=g):=by rw[NP];rfl
     rw[ea];exact q _ s1
 . rw[LR (show ¬ (xs.length:Int)=h*w by omega)];rw[LR hl] at q;symm;exact q _ (LQ _)
def ii(K:Frag):Sp:=fun vs H Q _=>∃(p a:Addr) (h w g:Int) (xs:List Int),vs=[.ref p,.ref a]/\IsFl H p h w g/\FlOk h w g/\H a=some (.lst (xs.map V.int))/\CluesOk h w g xs/\∀ l H',Same H H'->H l=none->H' l=some (.lst (xs.map V.int))->Q (.ref l) H'
def ij(K:Frag):TS:=
 (tSeq (tIfS (tNot (tB (tCall (kR K) [] E0 (tCons (tVar 0) (tCons (tVar 1) (tCons (tC (.int 0)) tNil)))))) cw tNext)
  (tRet (tCB kList (tCons (tVar 1) tNil))))
theorem CluesOk.fil{h w g:Int}{xs:List Int}(C:CluesOk h w g xs):filB 0 g (h*w).toNat xs=true:=by
 unfold filB;rw[LU C.len,Mf,L3];intro x hx;have:=C.ok x hx;simp[this.1,this.2]
theorem ut(h:ii K vs H Q E):ij K (eD9 Q) (start ["floor","clues"] vs) H:=by
 obtain⟨p,a,h,w,g,xs,rfl,hp,F,ha,C,q⟩:=h;obtain⟨h0,h1,w0,w1,m16,g0,g1⟩:=id F;show ij K _ [some (.ref p),some (.ref a)] H;unfold ij;rw[aD,ax];symm;refine⟨p,a,h,w,g,0,xs,rfl,hp,F,ha,by have:=C.len;omega,fun H1 s1=>?_⟩;rw[C.fil];refine⟨true,rfl,iteF ?_⟩;symm;refine oz (s1 _ _ ha) fun l hl=>?_;exact q l _ (s1.laid hl) (s1.free hl) ag
theorem IsRule.ins{k:RK}{r a:Addr}{ws:List (List Nat)}{n m:Int}{C dx:Addr}{fs:List (Str × V)}(x:IsRule H c k r p ws cs n m)(ha:H a=some (.ins C dx fs))(hf:fs.length≠5):IsRule (upd H a o) c k r p ws cs n m:=by
 obtain⟨dx',W,C',h1,h2,h3⟩:=x.ex;refine⟨x.ok,dx',W,C',?_,?_,?_⟩
 . rw[ak (fun e=>by rw[e,ha] at h1;cases h1;exact hf rfl)];exact h1
 . rw[ak (fun e=>by rw[e,ha] at h2;cases h2)];exact h2
 . rw[ak (fun e=>by rw[e,ha] at h3;cases h3)];exact h3
theorem IsRules.ins{L a:Addr}{C dx:Addr}{fs:List (Str × V)}(x:IsRules H c p L rs LC)(ha:H a=some (.ins C dx fs))(hf:fs.length≠5):IsRules (upd H a o) c p L rs LC:=
 ⟨by rw[ak (fun e=>by have:=x.top;rw[e,ha] at this;cases this)];exact x.top,x.len,fun i r y h1 h2=>(x.at_ i r y h1 h2).ins ha hf⟩
def bZ(K:Frag)(c:RCl RK)(d:RCl PzK):Sp:=fun vs H Q _=>∃(x dx p a b:Addr) (h w g:Int) (LC:List RR) (cl:List Int),vs=[.ref x,.ref p,.ref a,.ref b]/\d.ok .Puzzle=true/\H x=some (.ins (d.A .Puzzle) dx [])/\IsFl H p h w g/\H a=some (.lst ((LC.map RR.txt).map V.str))/\H b=some (.lst (cl.map V.int))/\bn c h w g LC/\CluesOk h w g cl/\
 ∀ L G H',(∀ y o,y≠x->H y=some o->H' y=some o)->H L=none->H G=none->IsPz H' c d x L G h w g LC cl->Q .non H'
def ge(K:Frag)(c:RCl RK)(d:RCl PzK):TS:=
 (tSeq (sFldK d (tVar 0) (tCall (ie K) [] E0 (tCons (tVar 1) tNil)) "floor")
  (tSeq (sFldK d (tVar 0) (tCall (kP K c) [] E0 (tCons (tFldK d (tVar 0) "floor") (tCons (tVar 2) tNil))) "laws")
  (sFldK d (tVar 0) (tCall (ii K) [] E0 (tCons (tFldK d (tVar 0) "floor") (tCons (tVar 3) tNil))) "given")))
theorem rd(h:bZ K c d vs H Q E):ge K c d (eD9 Q) (start ["self","floor","lines","clues"] vs) H:=by
 obtain⟨x,dx,p,a,b,h,w,g,LC,cl,rfl,ok,hx,hp,ha,hb,R,C,q⟩:=h;show ge K c d _ [some (.ref x),some (.ref p),some (.ref a),some (.ref b)] H;unfold ge sFldK;symm;refine⟨p,h,w,g,rfl,hp,R.F,fun p1 hp1=>?_⟩;have nxp:x≠p1:=aA hx hp1;refine⟨x,.Puzzle,dx,[],rfl,ok,by rw[ak nxp];exact hx,by show(0:Nat)<1000;decide,?_⟩
 have f1:∀ y o,y≠x->H y=some o->(upd (upd H p1 (.tup [.int h,.int w,.int g])) x (.ins (d.A .Puzzle) dx (putF "floor" (.ref p1) []))) y=some o:=fun y o ny e=>by
  rw[ak ny,ak (aA e hp1)];exact e
 have hx1:(upd (upd H p1 (.tup [.int h,.int w,.int g])) x (.ins (d.A .Puzzle) dx (putF "floor" (.ref p1) []))) x=some (.ins (d.A .Puzzle) dx [("floor",.ref p1)]):=ag
 have hp1':IsFl (upd (upd H p1 (.tup [.int h,.int w,.int g])) x (.ins (d.A .Puzzle) dx (putF "floor" (.ref p1) []))) p1 h w g:=by
  show(upd (upd H p1 (.tup [.int h,.int w,.int g])) x _) p1=_;rw[ak nxp.symm,ag]
 have fr1:∀ l,(upd (upd H p1 (.tup [.int h,.int w,.int g])) x (.ins (d.A .Puzzle) dx (putF "floor" (.ref p1) []))) l=none->H l=none:=fun l e=>by
  have n1:l≠x:=fun z=>by rw[z,ag] at e;cases e
  rw[ak n1] at e;have n2:l≠p1:=fun z=>by rw[z,ag] at e;cases e
  rw[ak n2] at e;exact e
 have nax:a≠x:=fun z=>by rw[z,hx] at ha;cases ha
 have nbx:b≠x:=fun z=>by rw[z,hx] at hb;cases hb
 generalize upd (upd H p1 (.tup [.int h,.int w,.int g])) x (.ins (d.A .Puzzle) dx (putF "floor" (.ref p1) []))=H1 at*;refine fldE (c:=d) (k:=.Puzzle) rfl ok hx1 (v:=.ref p1) (by rfl) ?_;symm;refine⟨p1,a,h,w,g,LC,rfl,hp1',f1 a _ nax ha,R,fun L rs H2 s2 hL X=>?_⟩;refine⟨x,.Puzzle,dx,_,rfl,ok,s2 _ _ hx1,by show(1:Nat)<1000;decide,?_⟩;have nxL:L≠x:=fun z=>by rw[z,hx1] at hL;cases hL
 have X3:=X.ins (o:=.ins (d.A .Puzzle) dx (putF "laws" (.ref L) [("floor",.ref p1)])) (s2 _ _ hx1) (by show(1:Nat)≠5;decide)
 have f2:∀ y o,y≠x->H y=some o->(upd H2 x (.ins (d.A .Puzzle) dx (putF "laws" (.ref L) [("floor",.ref p1)]))) y=some o:=fun y o ny e=>by
  rw[ak ny];exact s2 _ _ (f1 y o ny e)
 have hx3:(upd H2 x (.ins (d.A .Puzzle) dx (putF "laws" (.ref L) [("floor",.ref p1)]))) x=some (.ins (d.A .Puzzle) dx [("floor",.ref p1),("laws",.ref L)]):=ag
 have hp3:IsFl (upd H2 x (.ins (d.A .Puzzle) dx (putF "laws" (.ref L) [("floor",.ref p1)]))) p1 h w g:=by
  show(upd H2 x _) p1=_;rw[ak nxp.symm];exact s2 _ _ hp1'
 have fr3:∀ l,(upd H2 x (.ins (d.A .Puzzle) dx (putF "laws" (.ref L) [("floor",.ref p1)]))) l=none->H1 l=none:=fun l e=>by
  have n1:l≠x:=fun z=>by rw[z,ag] at e;cases e
  rw[ak n1] at e;exact s2.free e
 generalize upd H2 x (.ins (d.A .Puzzle) dx (putF "laws" (.ref L) [("floor",.ref p1)]))=H3 at*;refine fldE (c:=d) (k:=.Puzzle) rfl ok hx3 (v:=.ref p1) (by rfl) ?_;symm;refine⟨p1,b,h,w,g,cl,rfl,hp3,R.F,f2 b _ nbx hb,C,fun G H4 s4 hG eG=>?_⟩;refine⟨x,.Puzzle,dx,_,rfl,ok,s4 _ _ hx3,by show(2:Nat)<1000;decide,?_⟩;have nxG:G≠x:=fun z=>by rw[z,hx3] at hG;cases hG
 refine q L G _ (fun y o ny e=>?_) (fr1 L hL) (fr1 G (fr3 G hG)) ⟨ok,R,C,?_,dx,p1,rs,?_,?_,?_⟩
 . rw[ak ny];exact s4 _ _ (f2 y o ny e)
 . rw[ak nxG];exact eG
 . rw[ag];rfl
 . show(upd H4 x _) p1=_;rw[ak nxp.symm];exact s4 _ _ hp3
 . exact(X3.same s4).ins (s4 _ _ hx3) (by show(2:Nat)≠5;decide)
theorem Hj {Z:Addr->Hp->Prop} {a b:Addr} {h w g:Int} (ok:d.ok .Puzzle=true) (hp:IsFl H p h w g) (ha:H a=some (.lst ((LC.map RR.txt).map V.str))) (hb:H b=some (.lst (cl.map V.int))) (R:bn c h w g LC) (C:CluesOk h w g cl)
  (q:∀ P L G H',Same H H'->H P=none->H L=none->H G=none->IsPz H' c d P L G h w g LC cl->Z P H'):
  ∀ x dx,H x=none->H dx=none->dx≠x->bZ K c d (.ref x::([.ref p,.ref a,.ref b]++[])) (upd (upd H dx (.own x)) x (.ins (d.A .Puzzle) dx [])) (fun v H2=>v=.non/\Z x H2) E0:=by
 intro x dx hx hd ne;have k:∀ y o,H y=some o->(upd (upd H dx (.own x)) x (.ins (d.A .Puzzle) dx [])) y=some o:=fun y o e=>by rw[ak (aA e hx),ak (aA e hd)];exact e
 have fr:∀ y,(upd (upd H dx (.own x)) x (.ins (d.A .Puzzle) dx [])) y=none->H y=none:=fun y e=>by
  have n1:y≠x:=fun z=>by rw[z,ag] at e;cases e
  rw[ak n1] at e;have n2:y≠dx:=fun z=>by rw[z,ag] at e;cases e
  rw[ak n2] at e;exact e
 exact⟨x,dx,p,a,b,h,w,g,LC,cl,rfl,ok,ag,k _ _ hp,k _ _ ha,k _ _ hb,R,C,fun L G H' hs hL hG X=>⟨rfl,q x L G H' (fun y o e=>hs y o (aA e hx) (k _ _ e)) hx (fr L hL) (fr G hG) X⟩⟩
def ik(K:Frag)(c:RCl RK)(d:RCl PzK)(_:PzK):Sp:=fun vs H Q _=>∃(P L G:Addr) (h w g:Int) (LC:List RR) (cl:List Int),vs=[.ref P]/\IsPz H c d P L G h w g LC cl/\∀ p,IsFl H p h w g->Q (.ref p) H
def mS(K:Frag)(c:RCl RK)(d:RCl PzK):Sp:=ik K c d .Puzzle
def ja(K:Frag)(c:RCl RK)(d:RCl PzK):TS:=
 (tRet (tFldK d (tVar 0) "floor"))
theorem vE(h:mS K c d vs H Q E):ja K c d (eD9 Q) (start ["self"] vs) H:=by
 obtain⟨P,L,G,h,w,g,LC,cl,rfl,x,q⟩:=h;obtain⟨dx,p,rs,h1,h2,h3⟩:=x.ex;show ja K c d _ [some (.ref P)] H;unfold ja;symm;exact fldE (k:=.Puzzle) rfl x.ok h1 (v:=.ref p) (by rfl) (q p h2)
def uu(K:Frag)(c:RCl RK)(d:RCl PzK)(_:PzK):Sp:=fun vs H Q _=>∃(P L G:Addr) (h w g:Int) (LC:List RR) (cl:List Int),vs=[.ref P]/\IsPz H c d P L G h w g LC cl/\∀ l,H l=none->Q (.ref l) (upd H l (.lst (cl.map V.int)))
def mT(K:Frag)(c:RCl RK)(d:RCl PzK):Sp:=uu K c d .Puzzle
def jb(K:Frag)(c:RCl RK)(d:RCl PzK):TS:=
 (tRet (tCB kList (tCons (tFldK d (tVar 0) "given") tNil)))
theorem vF(h:mT K c d vs H Q E):jb K c d (eD9 Q) (start ["self"] vs) H:=by
 obtain⟨P,L,G,h,w,g,LC,cl,rfl,x,q⟩:=h;obtain⟨dx,p,rs,h1,h2,h3⟩:=x.ex;show jb K c d _ [some (.ref P)] H;unfold jb;symm;refine fldE (k:=.Puzzle) rfl x.ok h1 (v:=.ref G) (by rfl) ?_;symm;exact oz x.gv q
def cN(K:Frag)(c:RCl RK)(d:RCl PzK)(_:PzK):Sp:=fun vs H Q _=>∃(P L G:Addr) (h w g:Int) (LC:List RR) (cl:List Int),vs=[.ref P]/\IsPz H c d P L G h w g LC cl/\∀ l p rs,H l=none->IsFl (upd H l (.lst (rs.map V.ref))) p h w g->IsRules (upd H l (.lst (rs.map V.ref))) c p l rs LC->Q (.ref l) (upd H l (.lst (rs.map V.ref)))
def mU(K:Frag)(c:RCl RK)(d:RCl PzK):Sp:=cN K c d .Puzzle
def jc(K:Frag)(c:RCl RK)(d:RCl PzK):TS:=
 (tRet (tCB kList (tCons (tFldK d (tVar 0) "laws") tNil)))
theorem vG(h:mU K c d vs H Q E):jc K c d (eD9 Q) (start ["self"] vs) H:=by
 obtain⟨P,L,G,h,w,g,LC,cl,rfl,x,q⟩:=h;obtain⟨dx,p,rs,h1,h2,h3⟩:=x.ex;show jc K c d _ [some (.ref P)] H;unfold jc;symm;refine fldE (k:=.Puzzle) rfl x.ok h1 (v:=.ref L) (by rfl) ?_;symm;refine oz h3.top fun l hl=>?_;have s1:Same H (upd H l (.lst (rs.map V.ref))):=(LQ H).laid hl;exact q l p rs hl (s1 _ _ h2) ⟨ag,h3.len,fun i r y e1 e2=>(h3.at_ i r y e1 e2).same s1⟩
inductive DRows(w:World)(K:Frag):List DictEntry->List (Str × List Str)->Prop
 | nil:DRows w K [] []
 | cons {hsh:Int} {k:Str} {t:Tok} {q:Addr} {o:Obj} {LF:Array Value} {n:Nat} {ws:List Str} {es:List DictEntry} {D:List (Str × List Str)}:hsh=hashStr w k->K.lookup q=some o->o.cls=.type "tuple"->o.data=.seq LF n->LF.size<=sizeLine->Vals (ws.map V.str) LF.toList->DRows w K es D->DRows w K (⟨hsh,.str k t,.ref q⟩::es) ((k,ws)::D)
structure GDict(w:World)(K:Frag)(mg:Str->Option Value)(x:Str)(D:List (Str × List Str)):Prop where
 ex:∃(p:Addr) (o:Obj) (es:Array DictEntry) (ep:Nat),mg x=some (.ref p)/\K.lookup p=some o/\o.ExactDict/\o.data=.dict es ep/\DRows w K es.toList D/\(D.map fun x=>x.1).Nodup
theorem DRows.of{P:Program}{w:World}{K:Frag}{es:List DictEntry}{D:List (Str × List Str)}(h:DRows w K es D):
  ∃ LE:List (Str × Value),Pairs (strKind P w) es LE/\LE.map (fun x=>x.1)=D.map (fun x=>x.1)/\(∀ e∈es,∃ k,(strKind P w).is k e.key=true/\e.hash=(strKind P w).hash k)/\
   ∀ k ws,D.lookup k=some ws->∃ q,valueAt LE k=some (.ref q)/\∃(o:Obj) (LF:Array Value) (n:Nat),K.lookup q=some o/\o.cls=.type "tuple"/\o.data=.seq LF n/\LF.size<=sizeLine/\Vals (ws.map V.str) LF.toList:=by
 induction h with
 | nil=>exact⟨[],.nil,rfl,fun e he=>(by cases he),fun k ws e=>(by cases e)⟩
 | @cons hsh k t q o LF n ws es D h1 h2 h3 h4 h5 h6 _ ih=>
  obtain⟨LE,p1,p2,p3,p4⟩:=ih;have hk:(strKind P w).is k (.str k t)=true:=by show(k==k)=true;simp
  refine⟨(k,.ref q)::LE,.cons hk rfl p1,by rw[MB,MB,p2],fun e he=>?_,fun k' ws' e=>?_⟩
  . rcases L6.mp he with rfl | he
    . exact⟨k,hk,h1⟩
    . exact p3 e he
  . rw[MR] at e;unfold valueAt;rw[NA];by_cases hkk:k'=k
    . subst hkk;simp at e;subst e;refine⟨q,by simp,o,LF,n,h2,h3,h4,h5,h6⟩
    . have hb:(k'==k)=false:=by simpa using hkk
      rw[hb] at e;have hd:decide (k=k')=false:=LR (fun z=>hkk z.symm);dsimp only;rw[hd];exact p4 k' ws' e
def tIxG(K:Frag)(D:List (Str × List Str))(te:TE):TE:=fun σ H Q=>te σ H fun y H1=>∃ k ws,y=.str k/\D.lookup k=some ws/\∀ q,SqT K H1 q (ws.map V.str)->Q (.ref q) H1
def rInS(K:Frag):R2:=fun x y H Q=>∃(z:Str) (q:Addr) (ws:List Str),x=.str z/\y=.ref q/\SqT K H q (ws.map V.str)/\Q (.bl (decide (z∈ws))) H
section
variable{X:Cx}{a b:Expr}{ta tb:TE}{pos p:Pos}{x:Str}{D:List (Str × List Str)}
theorem Hk(G:GDict X.w X.K X.mg x D)(hb:PE X b tb)(hg:Gl X x)(hpi:xb b)(hdb:(x==("__debug__":Str))=false:=by decide):PE X (.Subscript (.Name x p) b pos) (tIxG X.K D tb):=by
 obtain⟨pd,o,es,ep,h1,h2,h3,h4,h5,h6⟩:=G.ex;obtain⟨LE,p1,p2,p3,p4⟩:=h5.of (P:=X.prog)
 have ir:IxR X (fun x y H Q=>x=.ref pd/\∃ k ws,y=.str k/\D.lookup k=some ws/\∀ q,SqT X.K H q (ws.map V.str)->Q (.ref q) H):=by
  intro value slice LB s σ H x y v u Q I rx ry h hs;obtain⟨rfl,k,ws,rfl,hl,q⟩:=h;cases (show v=Value.ref pd from rx);have hget:s.heap.get? pd=some o:=I.kIn pd o h2;have dd:Heap.DictOf (strKind X.prog X.w) s.heap pd LE:=⟨o,es,ep,hget,h3,h4,fun e he=>p3 e (Array.mem_toList_iff.mpr he),p1,by rw[p2];exact h6⟩;obtain⟨qa,hv,o2,LF,n,g1,g2,g3,g4,g5⟩:=p4 k ws hl;obtain⟨t,rfl⟩:∃ t,u=Value.str k t:=ry;have hk:(strKind X.prog X.w).is k (.str k t)=true:=by show(k==k)=true;simp
  refine tail_any dd.typeIs O6.lookup (wpAny_getItem_of hk dd.mapOf hv ?_) hs;exact⟨.ref qa,H,I.tok _,rfl,q qa (.inr ⟨o2,LF,n,g1,g2,g3,g4,g5⟩)⟩
 have h0:=zt (pos:=pos) ir (cp (pos:=p) (v:=V.ref pd) hg h1 rfl hdb) hb hpi;intro LB s σ H Q I h;refine h0 LB s σ H Q I ?_
 have e:(fun(y:V) (H1:Hp)=>∃ k ws,y=.str k/\D.lookup k=some ws/\∀ q,SqT X.K H1 q (ws.map V.str)->Q (.ref q) H1)=fun y H1=>(V.ref pd=V.ref pd)/\∃ k ws,y=.str k/\D.lookup k=some ws/\∀ q,SqT X.K H1 q (ws.map V.str)->Q (.ref q) H1:=by
  funext y H1;simp
 have h':tb σ H (fun(y:V) (H1:Hp)=>∃ k ws,y=.str k/\D.lookup k=some ws/\∀ q,SqT X.K H1 q (ws.map V.str)->Q (.ref q) H1):=h;rw[e] at h';exact h'
theorem Hl:OpR X (compareOp .In) (rInS X.K):=by
 intro LB s σ H x y v u Q I rx ry h;obtain⟨z,q,ws,rfl,rfl,hq,h⟩:=h;refine mN LB s σ H _ _ v u Q I rx ry ⟨q,ws.map V.str,rfl,.inr hq,rfl,gc ws,?_⟩;rw[h9];exact h
end
section
variable{K:Frag}{σ:St}{H:Hp}{Q:VK}{te:TE}{D:List (Str × List Str)}
theorem Ie:tIxG K D te σ H Q=te σ H fun y H1=>∃ k ws,y=.str k/\D.lookup k=some ws/\∀ q,SqT K H1 q (ws.map V.str)->Q (.ref q) H1:=rfl
end
def ws5:String:="aD if_true if_false Bool.false_eq_true decide_true decide_false dI dJ i3 cF bY dG f6 dH cE fX fY cD iX cG cH cJ cK cL cM cI f9 ga gb fW iZ Bool.not_true Bool.not_false aD "++ws1
local macro_rules|`(tactic|walk_at "w")=>wk9 ws5
def stB(m s:Int):Bool:=decide (1<=s)&&(decide (s<=((Builtin.Int.intBits m:Nat):Int))&&decide (m/2^(s-1).toNat%2=1))
def gf(K:Frag):Sp:=fun vs H Q _=>∃ m s:Int,vs=[.int m,.int s]/\Q (.bl (stB m s)) H
def re(K:Frag):TS:=
 (tRet (tAndV (tOp (cCmp fun i j=>decide (i<=j)) (tC (.int 1)) (tVar 1)) (tAndV (tOp (cCmp fun i j=>decide (i<=j)) (tVar 1) (Cj K "int" oA (tVar 0))) (tOp (cEq K) (tOp cMod (tOp cShr (tVar 0) (tOp cSub (tVar 1) (tC (.int 1)))) (tC (.int 2))) (tC (.int 1))))))
variable{K:Frag}{vs:List V}{H:Hp}{Q:VK}{E:XK}
theorem DU(h:gf K vs H Q E):re K (eD9 Q) (start ["mask","sign"] vs) H:=by
 obtain⟨m,s,rfl,q⟩:=h;show re K _ [some (.int m),some (.int s)] H;unfold re;symm;unfold stB at q
 cases h1:decide (1<=s) with
 | false=>rw[h1,Mb] at q;exact iteF q
 | true=>
  refine iteT ⟨rfl,?_⟩;symm;rw[h1,Mf] at q
  cases h2:decide (s<=((Builtin.Int.intBits m:Nat):Int)) with
  | false=>rw[h2,Mb] at q;exact iteF q
  | true=>
   rw[h2,Mf] at q;exact iteT ⟨by have:=LX h1;omega,by decide,q⟩
def rf(K:Frag):Sp:=fun vs H Q _=>∃ s:Int,vs=[.int s]/\1<=s/\s<=100000/\Q (.int (2^(s-1).toNat)) H
def rg(K:Frag):TS:=
 (tSeq (tAsg (tC (.int 1)) (gName 1))
  (tSeq (tFor (dP (tCons (tOp cSub (tVar 0) (tC (.int 1))) tNil)) (gName 2)
  (tAsg (tOp cMul (tVar 1) (tC (.int 2))) (gName 1)))
  (tRet (tVar 1))))
theorem DW(h:rf K vs H Q E):rg K (eD9 Q) (start ["sign","bit","step"] vs) H:=by
 obtain⟨s,rfl,h1,h2,q⟩:=h;show rg K _ [some (.int s),none,none] H;unfold rg;symm;refine⟨s-1,rfl,by omega,by omega,?_⟩;refine dN (fun i σ H'=>∃ sv:Option V,σ=[some (.int s),some (.int (2^i)),sv]/\H'=H) ⟨none,rfl,rfl⟩ ?_ ?_
 . rintro i σ H' hi ⟨sv,rfl,rfl⟩;symm;refine⟨.inr ⟨by decide,by decide⟩,?_⟩;simp[Int.pow_succ]
 . rintro σ H' ⟨sv,rfl,rfl⟩;symm;exact q
def woI(m s:Int):Int:=if stB m s=true then m-2^(s-1).toNat else m
def lC(K:Frag):Sp:=fun vs H Q _=>∃ m s:Int,vs=[.int m,.int s]/\s<=100000/\Q (.int (woI m s)) H
def pT(K:Frag):TS:=
 (tRet (tIf (tB (tCall (gf K) [] E0 (tCons (tVar 0) (tCons (tVar 1) tNil)))) (tOp cSub (tVar 0) (tCall (rf K) [] E0 (tCons (tVar 1) tNil))) (tVar 0)))
theorem Cs(h:lC K vs H Q E):pT K (eD9 Q) (start ["mask","sign"] vs) H:=by
 obtain⟨m,s,rfl,h2,q⟩:=h;show pT K _ [some (.int m),some (.int s)] H;unfold pT;symm;refine⟨m,s,rfl,_,rfl,?_⟩;unfold woI at q
 cases hb:stB m s with
 | false=>
  rw[hb,L4 LY] at q;exact iteF q
 | true=>
  rw[hb,Md rfl] at q;refine iteT ⟨s,rfl,?_,h2,?_⟩
  . unfold stB at hb;rw[LT,LO] at hb;exact hb.1
  . symm;exact q
def ck(K:Frag):Sp:=fun vs H Q _=>∃ m s:Int,vs=[.int m,.int s]/\s<=100000/\Q (.bl (decide (woI m s=0))) H
def nT(K:Frag):TS:=
 (tRet (tOp (cEq K) (tCall (lC K) [] E0 (tCons (tVar 0) (tCons (tVar 1) tNil))) (tC (.int 0))))
theorem Be(h:ck K vs H Q E):nT K (eD9 Q) (start ["mask","sign"] vs) H:=by
 obtain⟨m,s,rfl,h2,q⟩:=h;show nT K _ [some (.int m),some (.int s)] H;unfold nT;symm;refine⟨m,s,rfl,h2,?_⟩;symm;exact q
def sgL(m:Int):List Int:=((List.range (Builtin.Int.intBits m)).filter fun(i:Nat)=>stB m (1+(i:Int))).map fun(i:Nat)=>1+(i:Int)
def bA(K:Frag):Sp:=fun vs H Q _=>∃ m:Int,vs=[.int m]/\Builtin.Int.intBits m<=900/\∀ l H',Same H H'->H l=none->H' l=some (.lst ((sgL m).map V.int))->Q (.ref l) H'
def nU(K:Frag):TS:=
 (tRet (tComp [none,none,some 0] (pF (tCons (tC (.int 1)) (tCons (tOp cAdd (Cj K "int" oA (tVar 0)) (tC (.int 1))) tNil))) (gName 1) (tB (tCall (gf K) [] E0 (tCons (tVar 2) (tCons (tVar 1) tNil)))) (tVar 1)))
theorem Bf(h:bA K vs H Q E):nU K (eD9 Q) (start ["mask"] vs) H:=by
 obtain⟨m,rfl,hb,k⟩:=h;show nU K _ [some (.int m)] H;unfold nU;symm;refine⟨rfl,1,_,rfl,by omega,?_⟩;have en:(((Builtin.Int.intBits m:Nat):Int)+1-1).toNat=Builtin.Int.intBits m:=by omega
 rw[en];refine A7 (fun(i:Nat)=>stB m (1+(i:Int))) (fun(i:Nat)=>1+(i:Int)) hb ?_ ?_ ?_
 . intro i H1 R hi s1 k1;show tB _ [none,some (.int (1+(i:Int))),some (.int m)] H1 R;symm;exact⟨m,_,rfl,_,rfl,k1 _ (LQ _)⟩
 . intro i H1 Q1 hi hb s1 k1;exact k1 _ (LQ _)
 . intro l H1 hl s1 el;exact k l H1 s1 hl el
local macro_rules|`(tactic|walk_at "w")=>wk9 ws4
inductive TK where
 | clue | only | place | count | step | sum | square | reach | turn | pair | ways
 deriving DecidableEq
def tkC:TK->List Nat
 | .clue=>[99,108,117,101]
 | .only=>[111,110,108,121]
 | .place=>[112,108,97,99,101]
 | .count=>[99,111,117,110,116]
 | .step=>[115,116,101,112]
 | .sum=>[115,117,109]
 | .square=>[115,113,117,97,114,101]
 | .reach=>[114,101,97,99,104]
 | .turn=>[116,117,114,110]
 | .pair=>[112,97,105,114]
 | .ways=>[119,97,121,115]
def gt_KINDS:List Str:=[tx [99,108,117,101],tx [111,110,108,121],tx [112,108,97,99,101],tx [99,111,117,110,116],tx [115,116,101,112],tx [115,117,109],tx [115,113,117,97,114,101],tx [114,101,97,99,104],tx [116,117,114,110],tx [112,97,105,114],tx [119,97,121,115]]
def g7:List Str:=[tx [99,108,117,101],tx [111,110,108,121],tx [112,108,97,99,101],tx [115,116,101,112],tx [112,97,105,114]]
def fS:List Str:=[tx [99,111,117,110,116],tx [115,117,109],tx [119,97,121,115]]
def gd_RULES_OF_KIND:List (Str × List Str):=[(tx [111,110,108,121],[tx [117,110,108,105,107,101]]),(tx [112,108,97,99,101],[tx [117,110,108,105,107,101]]),(tx [99,111,117,110,116],[tx [99,111,117,110,116]]),(tx [115,116,101,112],[tx [114,105,115,105,110,103]]),(tx [115,117,109],[tx [115,117,109]]),(tx [115,113,117,97,114,101],[tx [110,111,115,113,117,97,114,101]]),(tx [114,101,97,99,104],[tx [106,111,105,110,101,100],tx [114,105,110,103]]),(tx [116,117,114,110],[tx [114,105,110,103]]),(tx [112,97,105,114],[tx [117,110,108,105,107,101]])]
def wsOf:TK->List Str
 | .only=>[tx [117,110,108,105,107,101]]
 | .place=>[tx [117,110,108,105,107,101]]
 | .count=>[tx [99,111,117,110,116]]
 | .step=>[tx [114,105,115,105,110,103]]
 | .sum=>[tx [115,117,109]]
 | .square=>[tx [110,111,115,113,117,97,114,101]]
 | .reach=>[tx [106,111,105,110,101,100],tx [114,105,110,103]]
 | .turn=>[tx [114,105,110,103]]
 | .pair=>[tx [117,110,108,105,107,101]]
 | _=>[]
def goesB:TK->RK->Bool
 | .ways,_=>true
 | .only,.Unlike=>true
 | .place,.Unlike=>true
 | .count,.Count=>true
 | .step,.Rising=>true
 | .sum,.Sum=>true
 | .square,.NoSquare=>true
 | .reach,.Joined=>true
 | .reach,.Ring=>true
 | .turn,.Ring=>true
 | .pair,.Unlike=>true
 | _,_=>false
def lineK:TK->Bool
 | .clue=>true
 | .only=>true
 | .place=>true
 | .step=>true
 | .pair=>true
 | _=>false
def nbrK:TK->Bool
 | .count=>true
 | .sum=>true
 | .ways=>true
 | _=>false
theorem Ff(t:TK):decide (tx (tkC t)∈gt_KINDS)=true:=by cases t <;> decide+kernel
theorem F6(t:TK):decide (tx (tkC t)∈g7)=lineK t:=by cases t <;> decide+kernel
theorem Hm(t:TK):decide (tx (tkC t)∈fS)=nbrK t:=by cases t <;> decide+kernel
variable{t:TK}
theorem Ig(h1:t≠.clue)(h2:t≠.ways):gd_RULES_OF_KIND.lookup (tx (tkC t))=some (wsOf t):=by
 cases t <;> first | exact absurd rfl h1 | exact absurd rfl h2 | decide+kernel
theorem F7(h2:t≠.ways)(k:RK):decide (tx (nmC k)∈wsOf t)=goesB t k:=by
 cases t <;> first | exact absurd rfl h2 | (cases k <;> decide+kernel)
theorem F8(t:TK):decide (tkC t=[119,97,121,115])=decide (t=.ways):=by cases t <;> decide
theorem sW(t:TK):decide (tkC t=[99,108,117,101])=decide (t=.clue):=by cases t <;> decide
theorem BT(t:TK):decide (tkC t=[111,110,108,121])=decide (t=.only):=by cases t <;> decide
def lD(K:Frag):Sp:=fun vs H Q _=>∃(p:Addr) (h w g i:Int),vs=[.ref p,.int i]/\IsFl H p h w g/\FlOk h w g/\Q (.bl (decide (0<=i)&&decide (i<h*w))) H
def pU(K:Frag):TS:=
 (tRet (tAndV (tCall (du K) [] E0 (tCons (tVar 1) tNil)) (tAndV (tOp (cCmp fun i j=>decide (i<=j)) (tC (.int 0)) (tVar 1)) (tOp (cCmp fun i j=>decide (i<j)) (tVar 1) (tCall (bR K) [] E0 (tCons (tVar 0) tNil))))))
variable{K:Frag}{vs:List V}{H:Hp}{Q:VK}{E:XK}
theorem Ct(h:lD K vs H Q E):pU K (eD9 Q) (start ["floor","value"] vs) H:=by
 obtain⟨p,h,w,g,i,rfl,hp,F,q⟩:=h;show pU K _ [some (.ref p),some (.int i)] H;unfold pU;symm;refine⟨i,rfl,⟨true,rfl,iteT ?_⟩⟩;symm
 cases hb:decide (0<=i) with
 | false=>
  rw[hb,Mb] at q;exact iteF q
 | true=>
  rw[hb,Mf] at q;refine iteT ?_;symm;refine⟨p,h,w,g,rfl,hp,F.h0,F.h1,?_⟩;symm;exact q
def lE(K:Frag):Sp:=fun vs H Q _=>∃(p:Addr) (h w g i:Int),vs=[.ref p,.int i]/\IsFl H p h w g/\Q (.bl (decide (1<=i)&&decide (i<=g))) H
def pV(K:Frag):TS:=
 (tRet (tCall (bP K) [] E0 (tCons (tVar 1) (tCons (tOp cIx (tVar 0) (tC (.int 2))) tNil))))
theorem Cu(h:lE K vs H Q E):pV K (eD9 Q) (start ["floor","value"] vs) H:=by
 obtain⟨p,h,w,g,i,rfl,hp,q⟩:=h;show pV K _ [some (.ref p),some (.int i)] H;unfold pV;symm;refine ixT hp (v:=V.int g) rfl ?_;symm;exact⟨i,g,rfl,q⟩
def lF(K:Frag)(c:RCl RK):Sp:=fun vs H Q _=>∃(t:TK) (k:RK) (r p:Addr) (ws:List (List Nat)) (cs:List Int) (n m:Int),vs=[.str (tx (tkC t)),.ref r]/\t≠.clue/\IsRule H c k r p (nmC k::ws) cs n m/\Q (.bl (goesB t k)) H
def pW(K:Frag)(c:RCl RK):TS:=
 (tRet (tOrV (tOp (cEq K) (tVar 0) (tC (.str (tx [119,97,121,115])))) (tOp (rInS K) (aF c c.ok "name" (xj K c) (tVar 1) tNil) (tIxG K gd_RULES_OF_KIND (tVar 0)))))
variable{c:RCl RK}
theorem Cv(h:lF K c vs H Q E):pW K c (eD9 Q) (start ["kind","rule"] vs) H:=by
 obtain⟨t,k,r,p,ws,cs,n,m,rfl,t0,x,q⟩:=h;obtain⟨dx,W,C,h1,h2,h3⟩:=x.ex;show pW K c _ [some (.str (tx (tkC t))),some (.ref r)] H;unfold pW;symm;rw[bg,F8];by_cases hw:t=.ways
 . subst hw;rw[LU rfl];exact iteT q
 . rw[LR hw];refine iteF ?_;refine methE (k:=k) rfl x.ok h1 (by rfl) ?_;symm;refine⟨r,p,nmC k,ws,cs,n,m,rfl,x,?_⟩;dsimp only;rw[Ie];symm;refine⟨_,_,rfl,Ig t0 hw,fun qa hq=>?_⟩;refine⟨_,qa,_,rfl,rfl,hq,?_⟩;rw[F7 hw];exact q
def bE(K:Frag)(c:RCl RK):Sp:=fun vs H Q _=>∃(k:RK) (r p:Addr) (ws:List (List Nat)) (cs:List Int) (n m z:Int),vs=[.ref r,.int z]/\IsRule H c k r p ws cs n m/\cs.length<=63/\∀ l H',Same H H'->H l=none->H' l=some (.lst ((cs.filter fun x=>!decide (x=z)).map V.int))->Q (.ref l) H'
def rh(K:Frag)(c:RCl RK):TS:=
 (tRet (tComp [none,none,some 1] (iList K (aF c c.ok "spots" (dX K c) (tVar 0) tNil)) (gName 1) (tTest (tOp (cNe K) (tVar 1) (tVar 2))) (tVar 1)))
theorem DX(h:bE K c vs H Q E):rh K c (eD9 Q) (start ["rule","cell"] vs) H:=by
 obtain⟨k,r,p,ws,cs,n,m,z,rfl,x,hn,q⟩:=h;obtain⟨dx,W,C,h1,h2,h3⟩:=x.ex;show rh K c _ [some (.ref r),some (.int z)] H;unfold rh;rw[cR,bO];refine methE (k:=k) rfl x.ok h1 (by rfl) ?_;symm;refine⟨r,p,ws,cs,n,m,rfl,x,fun l hl=>?_⟩;obtain⟨H1,z9,s1,el⟩:=aU (.lst (cs.map V.int)) hl;rw[z9];refine⟨l,rfl,⟨_,Mc el⟩,?_⟩;refine bf (xs:=cs) (fun x=>!decide (x=z)) (fun x=>x) (by omega) (Mc el) ?_ ?_ ?_
 . intro y H2 R hy s2 k2;show tTest _ [none,some (.int y),some (.int z)] H2 R;symm;exact k2 _ (LQ _)
 . intro y H2 Q2 hy hb s2 k2;show tVar 1 [none,some (.int y),some (.int z)] H2 Q2;symm;exact k2 _ (LQ _)
 . intro T H2 hT s2 eT;rw[Nh] at eT;exact q T H2 (s1.trans s2) (s1.free hT) eT
def hitB(t:TK)(LC:List RR)(r z:Int):Bool:=if r<0 then false else if t=.clue then decide (r=0) else match LC[r.toNat]? with
 | none=>false
 | some x=>goesB t x.k&&decide (z∈x.cs)
def jd(K:Frag)(c:RCl RK)(d:RCl PzK):Sp:=fun vs H Q _=>∃(t:TK) (P L G:Addr) (h w g r z:Int) (LC:List RR) (cl:List Int),vs=[.ref P,.str (tx (tkC t)),.int r,.int z]/\IsPz H c d P L G h w g LC cl/\∀ H',Same H H'->Q (.bl (hitB t LC r z)) H'
def je(K:Frag)(c:RCl RK)(d:RCl PzK):TS:=
 (tSeq (tIfS (tOr (tNot (tB (tCall (du K) [] E0 (tCons (tVar 2) tNil)))) (tTest (tOp (cCmp fun i j=>decide (i<j)) (tVar 2) (tC (.int 0))))) (tRet (tC (.bl false))) tNext)
  (tSeq (tIfS (tTest (tOp (cEq K) (tVar 1) (tC (.str (tx [99,108,117,101]))))) (tRet (tOp (cEq K) (tVar 2) (tC (.int 0)))) tNext)
  (tSeq (tAsg (aF d d.ok "rules" (cN K c d) (tVar 0) tNil) (gName 4))
  (tSeq (tIfS (tTest (tOp (cCmp fun i j=>decide (j<=i)) (tVar 2) (tCB kLen (tCons (tVar 4) tNil)))) (tRet (tC (.bl false))) tNext)
  (tRet (tAndV (tCall (lF K c) [] E0 (tCons (tVar 1) (tCons (tOp cIx (tVar 4) (tVar 2)) tNil))) (tOp (cIn K false) (tVar 3) (aF c c.ok "spots" (dX K c) (tOp cIx (tVar 4) (tVar 2)) tNil))))))))
theorem RR.ws_cons(r:RR):∃ t,r.ws=nmC r.k::t:=⟨_,rfl⟩
variable{d:RCl PzK}
theorem vH(h:jd K c d vs H Q E):je K c d (eD9 Q) (start ["puzzle","kind","number","cell","rules"] vs) H:=by
 obtain⟨t,P,L,G,h,w,g,r,z,LC,cl,rfl,x,q⟩:=h;obtain⟨dx,p,rs,h1,h2,h3⟩:=x.ex;have hN:=x.R.F.m;show je K c d _ [some (.ref P),some (.str (tx (tkC t))),some (.int r),some (.int z),none] H;unfold je;rw[aD,ax];symm;refine⟨r,rfl,⟨true,rfl,iteF ?_⟩⟩;symm;unfold hitB at q;by_cases hr:r<0
 . rw[Md hr] at q;rw[LU hr];exact iteT (q _ (LQ _))
 rw[L4 hr] at q;rw[LR hr];refine iteF ?_;rw[ax];symm;rw[bg,sW];by_cases ht:t=.clue
 . rw[Md ht] at q;rw[LU ht];exact iteT (q _ (LQ _))
 rw[L4 ht] at q;rw[LR ht];refine iteF ?_;refine methE (k:=.Puzzle) rfl x.ok h1 (by rfl) ?_;symm;refine⟨P,L,G,h,w,g,LC,cl,rfl,x,fun l p2 rs2 hl hp2 X=>?_⟩;have s1:Same H (upd H l (.lst (rs2.map V.ref))):=(LQ H).laid hl;generalize upd H l (.lst (rs2.map V.ref))=H1 at*;have LJ:=X.len;symm;rw[ax];symm;rw[bc X.top,LM,LJ];symm;by_cases hge:(LC.length:Int)<=r
 . rw[LU hge];have e:LC[r.toNat]? =none:=Mz (by omega);rw[e] at q;exact iteT (q _ s1)
 rw[LR hge];have hlt:r.toNat<LC.length:=by omega
 have er:LC[r.toNat]? =some LC[r.toNat]:=LN hlt;rw[er] at q;have ea:rs2[r.toNat]? =some rs2[r.toNat]:=LN (by omega);have X1:=X.at_ _ _ _ ea er;obtain⟨ws,ews⟩:=RR.ws_cons LC[r.toNat];rw[ews] at X1;have eix:atI (rs2.map V.ref) r=some (V.ref rs2[r.toNat]):=f7 (by omega) ea;refine iteF ?_;refine ixL X.top eix ?_;symm;refine⟨t,_,_,p2,ws,_,_,_,rfl,ht,X1,?_⟩;dsimp only at q
 cases hg:goesB t LC[r.toNat].k with
 | false=>
  rw[hg,Mb] at q;exact⟨false,rfl,iteF (q _ s1)⟩
 | true=>
  rw[hg,Mf] at q;refine⟨true,rfl,iteT ?_⟩;unfold aF;symm;obtain⟨dx1,W1,C1,g1,g2,g3⟩:=X1.ex;refine ixL X.top eix ?_;refine⟨_,LC[r.toNat].k,dx1,_,rfl,X1.ok,g1,by rfl,?_⟩;refine⟨_,p2,_,_,_,_,rfl,X1,fun S hS=>?_⟩;have s2:Same H1 (upd H1 S (.lst (LC[r.toNat].cs.map V.int))):=(LQ H1).laid hS;have eS:(upd H1 S (.lst (LC[r.toNat].cs.map V.int))) S=some (.lst (LC[r.toNat].cs.map V.int)):=ag;dsimp only;rw[qT eS];exact q _ (s1.trans s2)
structure IsTh(H:Hp)(T M:Addr)(t:TK)(r z s:Int)(ms:List Int):Prop where
 T:H T=some (.tup [.str (tx (tkC t)),.int r,.int z,.int s,.ref M])
 M:H M=some (.lst (ms.map V.int))
 n:ms.length<=100
variable{r z s:Int}{ms:List Int}
theorem IsTh.same{H':Hp}{T M:Addr}(x:IsTh H T M t r z s ms)(s':Same H H'):IsTh H' T M t r z s ms:=⟨s' _ _ x.T,s' _ _ x.M,x.n⟩
def formB(h w g:Int)(LC:List RR)(t:TK)(r z s:Int):Bool:=(decide (0<=z)&&decide (z<h*w))&&((decide (1<=s)&&decide (s<=g))&&hitB t LC r z)
def l8(K:Frag)(c:RCl RK)(d:RCl PzK):Sp:=fun vs H Q _=>∃(t:TK) (P L G T M:Addr) (h w g r z s:Int) (LC:List RR) (cl ms:List Int),vs=[.ref P,.ref T]/\IsPz H c d P L G h w g LC cl/\IsTh H T M t r z s ms/\∀ H',Same H H'->Q (.bl (formB h w g LC t r z s)) H'
def jf(K:Frag)(c:RCl RK)(d:RCl PzK):TS:=
 (tRet (tAndV (tCB kIsi (tCons (tOp cIx (tVar 1) (tC (.int 4))) (tCons (tC (.ty "list")) tNil))) (tCB kAll (tCons (tComp [none,none] (iList K (tOp cIx (tVar 1) (tC (.int 4)))) (gName 1) tTrue (tCall (du K) [] E0 (tCons (tVar 1) tNil))) tNil))))
def l9(K:Frag)(c:RCl RK)(d:RCl PzK):TS:=
 (tSeq (tIfS (tOr (tNot (tB (tCB kIsi (tCons (tVar 1) (tCons (tC (.ty "tuple")) tNil))))) (tOr (tTest (tOp (cNe K) (tCB kLen (tCons (tVar 1) tNil)) (tC (.int 5)))) (tB (tInG gt_KINDS true (tOp cIx (tVar 1) (tC (.int 0))))))) (tRet (tC (.bl false))) tNext)
  (tSeq (tAsg (aF d d.ok "place" (ik K c d) (tVar 0) tNil) (gName 2))
  (tSeq (tIfS (tOr (tNot (tB (tCall (lD K) [] E0 (tCons (tVar 2) (tCons (tOp cIx (tVar 1) (tC (.int 2))) tNil))))) (tNot (tB (tCall (lE K) [] E0 (tCons (tVar 2) (tCons (tOp cIx (tVar 1) (tC (.int 3))) tNil)))))) (tRet (tC (.bl false))) tNext)
  (tSeq (tIfS (tNot (tB (tCall (jd K c d) [] E0 (tCons (tVar 0) (tCons (tOp cIx (tVar 1) (tC (.int 0))) (tCons (tOp cIx (tVar 1) (tC (.int 1))) (tCons (tOp cIx (tVar 1) (tC (.int 2))) tNil))))))) (tRet (tC (.bl false))) tNext)
  (jf K c d)))))
theorem vI{P T M:Addr}{v2:Option V}(x:IsTh H T M t r z s ms)(q:∀ H',Same H H'->Q (.bl true) H'):
  jf K c d (eD9 Q) [some (.ref P),some (.ref T),v2] H:=by
 have hn:=x.n;unfold jf;symm;refine ixT x.T (v:=V.ref M) rfl ?_;symm;refine zP x.M ?_;symm;refine ixT x.T (v:=V.ref M) rfl ?_;symm;refine⟨⟨_,Mc x.M⟩,?_⟩;refine bN (xs:=ms.map V.int) (fun _=>true) (fun _=>.bl true) (by rw[LM];omega) (Mc x.M) ?_ ?_ ?_
 . intro i y H1 R hy s1 k1;exact k1 _ (LQ _)
 . intro i y H1 Q1 hy hb s1 k1;obtain⟨v,hv,rfl⟩:=aP hy;show tCall _ _ _ _ [none,some (.int v)] H1 Q1;symm;exact⟨v,rfl,k1 _ (LQ _)⟩
 . intro l H1 hl s1 el
   have eb:((List.range (ms.map V.int).length).filter fun _=>true).map (fun _=>V.bl true)=(List.replicate (ms.map V.int).length true).map V.bl:=by
    rw[a9,List.map_const',MS,O1]
   rw[eb] at el;refine lz el ?_
   have ea:(List.replicate (ms.map V.int).length true).all id=true:=by
    rw[L3];intro b hb;exact(O4.mp hb).2
   rw[ea];exact q _ s1
theorem Aa(h:l8 K c d vs H Q E):l9 K c d (eD9 Q) (start ["puzzle","thought","floor"] vs) H:=by
 obtain⟨t,P,L,G,T,M,h,w,g,r,z,s,LC,cl,ms,rfl,x,y,q⟩:=h;obtain⟨dx,p,rs,h1,h2,h3⟩:=x.ex;show l9 K c d _ [some (.ref P),some (.ref T),none] H;unfold l9;rw[aD,ax];symm;refine zQ y.T ?_;symm;rw[zK y.T,show(([.str (tx (tkC t)),.int r,.int z,.int s,.ref M]:List V).length:Int)=5 from rfl];symm;refine ixT y.T (v:=V.str (tx (tkC t))) rfl ?_;symm;rw[Ff];symm;refine methE (k:=.Puzzle) rfl x.ok h1 (by rfl) ?_;symm;refine⟨P,L,G,h,w,g,LC,cl,rfl,x,fun p1 hp1=>?_⟩;symm;rw[ax];symm;refine ixT y.T (v:=V.int z) rfl ?_;symm;refine⟨p1,h,w,g,z,rfl,hp1,x.R.F,?_⟩;unfold formB at q
 cases hb:(decide (0<=z)&&decide (z<h*w)) with
 | false=>
  rw[hb,Mb] at q;exact⟨false,rfl,iteT (q _ (LQ _))⟩
 | true=>
  rw[hb,Mf] at q;refine⟨true,rfl,iteF ?_⟩;refine ixT y.T (v:=V.int s) rfl ?_;symm;refine⟨p1,h,w,g,s,rfl,hp1,?_⟩
  cases hb2:(decide (1<=s)&&decide (s<=g)) with
  | false=>
   rw[hb2,Mb] at q;exact⟨false,rfl,iteT (q _ (LQ _))⟩
  | true=>
   rw[hb2,Mf] at q;refine⟨true,rfl,iteF ?_⟩;rw[ax];symm;refine ixT y.T (v:=V.str (tx (tkC t))) rfl ?_;symm;refine ixT y.T (v:=V.int r) rfl ?_;symm;refine ixT y.T (v:=V.int z) rfl ?_;symm;refine⟨t,P,L,G,h,w,g,r,z,LC,cl,rfl,x,fun H1 s1=>?_⟩
   cases hb3:hitB t LC r z with
   | false=>
    rw[hb3] at q;exact⟨false,rfl,iteT (q _ s1)⟩
   | true=>
    rw[hb3] at q;refine⟨true,rfl,iteF ?_⟩;exact vI (y.same s1) fun H' s2=>q H' (s1.trans s2)
abbrev nsV(cs:List Nat):List V:=(cs.map fun(n:Nat)=>(n:Int)).map V.int
theorem pX(xs:List V){k:Int}(h:0<=k):cutV xs none (some k)=xs.take k.toNat:=by
 unfold cutV;have e:k=((k.toNat:Nat):Int):=by omega
 have h1:HT.sIx xs.length 0 none=0:=rfl
 have h2:HT.sIx xs.length xs.length (some k)=min k.toNat xs.length:=by
  conv=>lhs;rw[e]
  exact HT.sIx_nat ..
 rw[h1,h2];show(xs.drop 0).take _=_;rw[List.drop_zero];by_cases hk:k.toNat<=xs.length
 . rw[Pz hk];rfl
 . rw[Ow (by omega),MT (by omega),MT (by omega)]
theorem DY{k:RK}{h w g:Int}{m:Nat}(hk:allK k=true)(k0:k≠.Rule)(hn:numK k=false)(hs:sgnK k=true)(m0:1<=(m:Int))(m1:(m:Int)<=g):RR.Ok ⟨k,0,m,[],rngL 0 (h*w)⟩ h w g:=by
 refine⟨k0,MV _,fun _=>rfl,fun _=>⟨m0,m1⟩,fun e=>?_,⟨fun e=>?_,fun _=>⟨rfl,rfl⟩⟩,fun x hx=>(by cases hx),MV _⟩
 . rw[show sgnK k=false from e] at hs;cases hs
 . rw[show allK k=false from e] at hk;cases hk
def clueB(cl:List Int)(z s:Int)(ms:List Int):Bool:=decide (ms=[])&&(!decide (cl.getD z.toNat 0=0)&&!decide (cl.getD z.toNat 0=s))
def jg(K:Frag):Sp:=fun vs H Q _=>∃(C M:Addr) (z s:Int) (cl ms:List Int),vs=[.ref C,.int z,.int s,.ref M]/\H C=some (.lst (cl.map V.int))/\0<=z/\z<cl.length/\H M=some (.lst (ms.map V.int))/\∀ H',Same H H'->Q (.bl (clueB cl z s ms)) H'
def jh(K:Frag):TS:=
 (tRet (tAndV (tOp (cEq K) (tVar 3) (tLst tNil)) (tAndV (tOp (cNe K) (tOp cIx (tVar 0) (tVar 1)) (tC (.int 0))) (tOp (cNe K) (tOp cIx (tVar 0) (tVar 1)) (tVar 2)))))
theorem vJ(h:jg K vs H Q E):jh K (eD9 Q) (start ["clues","cell","sign","more"] vs) H:=by
 obtain⟨C,M,z,s,cl,ms,rfl,hC,z0,z1,hM,q⟩:=h;show jh K _ [some (.ref C),some (.int z),some (.int s),some (.ref M)] H;unfold jh;symm;refine⟨aQ (by decide),fun l hl=>?_⟩;obtain⟨H1,z9,s1,el⟩:∃ z,upd H l (.lst [])=z/\Same H z/\z l=some (.lst (([]:List Int).map V.int)):=aU _ hl;rw[z9];refine vj (s1 _ _ hM) el ?_;have q1:=q _ s1;unfold clueB at q1
 cases hb:decide (ms=[]) with
 | false=>
  rw[hb,Mb] at q1;exact⟨false,rfl,iteF q1⟩
 | true=>
  rw[hb,Mf] at q1;refine⟨true,rfl,iteT ?_⟩;symm;refine ixI (s1 _ _ hC) z0 z1 ?_;symm
  cases hb2:decide (cl.getD z.toNat 0=0) with
  | true=>
   rw[hb2,NF,Mb] at q1;exact iteF q1
  | false=>
   rw[hb2,NW,Mf] at q1;refine iteT ?_;refine ixI (s1 _ _ hC) z0 z1 ?_;symm;exact q1
def onlyB(cs LA:List Int)(z s:Int)(ms:List Int):Bool:=decide (ms.length=1)&&(decide (ms.getD 0 0∈cs.filter fun x=>!decide (x=z))&&decide (woI (LA.getD (ms.getD 0 0).toNat 0) s=0))
def ji(K:Frag)(c:RCl RK):Sp:=fun vs H Q _=>∃(k:RK) (r p A M:Addr) (ws:List (List Nat)) (cs LA ms:List Int) (n m z s:Int),vs=[.ref r,.ref A,.int z,.int s,.ref M]/\IsRule H c k r p ws cs n m/\aK cs LA.length/\H A=some (.lst (LA.map V.int))/\H M=some (.lst (ms.map V.int))/\s<=1000/\∀ H',Same H H'->Q (.bl (onlyB cs LA z s ms)) H'
def jj(K:Frag)(c:RCl RK):TS:=
 (tRet (tAndV (tOp (cEq K) (tCB kLen (tCons (tVar 4) tNil)) (tC (.int 1))) (tAndV (tOp (cIn K false) (tOp cIx (tVar 4) (tC (.int 0))) (tCall (bE K c) [] E0 (tCons (tVar 0) (tCons (tVar 2) tNil)))) (tCall (ck K) [] E0 (tCons (tOp cIx (tVar 1) (tOp cIx (tVar 4) (tC (.int 0)))) (tCons (tVar 3) tNil))))))
theorem vK(h:ji K c vs H Q E):jj K c (eD9 Q) (start ["rule","masks","cell","sign","more"] vs) H:=by
 obtain⟨k,r,p,A,M,ws,cs,LA,ms,n,m,z,s,rfl,x,hC,hA,hM,hs,q⟩:=h;show jj K c _ [some (.ref r),some (.ref A),some (.int z),some (.int s),some (.ref M)] H;unfold jj;symm;rw[bc hM,LM];symm;unfold onlyB at q
 have e1:decide ((ms.length:Int)=1)=decide (ms.length=1):=by
  rw[Mn,LO,LO];omega
 rw[e1]
 cases hb:decide (ms.length=1) with
 | false=>
  rw[hb,Mb] at q;exact iteF (q _ (LQ _))
 | true=>
  rw[hb,Mf] at q;have hl:=LX hb;refine iteT ?_;refine ixI hM (by decide) (by omega) ?_;rw[show(0:Int).toNat=0 from rfl];symm;refine⟨k,r,p,ws,cs,n,m,z,rfl,x,hC.1,fun l H1 s1 hl1 el=>?_⟩;dsimp only;rw[qT el]
  cases hb2:decide (ms.getD 0 0∈cs.filter fun x=>!decide (x=z)) with
  | false=>
   rw[hb2,Mb] at q;exact⟨false,rfl,iteF (q _ s1)⟩
  | true=>
   rw[hb2,Mf] at q;have hm:=LS.mp (LX hb2);have hc:=hC.2 _ hm.1;refine⟨true,rfl,iteT ?_⟩;symm;refine ixI (s1 _ _ hM) (by decide) (by omega) ?_;rw[show(0:Int).toNat=0 from rfl];symm;refine ixI (s1 _ _ hA) hc.1 hc.2 ?_;symm;exact⟨_,s,rfl,by omega,q _ s1⟩
theorem RR.cin22{r:RR}{h w g:Int}(O:r.Ok h w g)(F:FlOk h w g):aK r.cs (h*w).toNat:=by
 obtain⟨h0,h1,w0,w1,m16,g0,g1⟩:=id F;have mpos:0<=h*w:=NK (by omega) (by omega)
 cases hk:allK r.k with
 | false=>
  obtain⟨c1,c2,c3,c4,e⟩:=O.cl.told hk;rw[e];refine⟨by rw[LM];omega,fun c hc=>?_⟩;obtain⟨n,hn,rfl⟩:=L1.mp hc;have:=c3 n hn;omega
 | true=>
  obtain⟨_,e⟩:=O.cl.all hk;rw[e];refine⟨by rw[j4];omega,fun c hc=>?_⟩;have:=xq hc;omega
abbrev N8:=@RR.cin22
structure Asks(H:Hp)(c:RCl RK)(d:RCl PzK)(P L G A T M:Addr)(h w g:Int)(LC:List RR)(cl LA:List Int)(t:TK)(r z s:Int)(ms:List Int):Prop where
 P:IsPz H c d P L G h w g LC cl
 T:IsTh H T M t r z s ms
 A:H A=some (.lst (LA.map V.int))
 n:LA.length=(h*w).toNat
variable{LC:List RR}
theorem Asks.same{H':Hp}{P L G A T M:Addr}{h w g:Int}{cl LA:List Int}(x:Asks H c d P L G A T M h w g LC cl LA t r z s ms)(s':Same H H'):Asks H' c d P L G A T M h w g LC cl LA t r z s ms:=⟨x.P.same s',x.T.same s',s' _ _ x.A,x.n⟩
theorem bj{h w g:Int}(f:formB h w g LC t r z s=true):0<=z/\z<h*w/\1<=s/\s<=g/\hitB t LC r z=true:=by
 unfold formB at f;simp only[LT,LO] at f;exact⟨f.1.1,f.1.2,f.2.1.1,f.2.1.2,f.2.2⟩
theorem dL(ht:t≠.clue)(f:hitB t LC r z=true):0<=r/\∃ x,LC[r.toNat]? =some x/\goesB t x.k=true/\z∈x.cs:=by
 unfold hitB at f;by_cases hr:r<0
 . rw[Md hr] at f;cases f
 rw[L4 hr,L4 ht] at f
 cases e:LC[r.toNat]? with
 | none=>rw[e] at f;cases f
 | some x=>
  rw[e] at f;simp only[LT,LO] at f;exact⟨by omega,x,rfl,f.1,f.2⟩
def bW(K:Frag):Sp:=fun vs H Q _=>∃(A C:Addr) (LA cs:List Int),vs=[.ref A,.ref C]/\H A=some (.lst (LA.map V.int))/\H C=some (.lst (cs.map V.int))/\aK cs LA.length/\∀ l H',Same H H'->H l=none->H' l=some (.lst ((sgAt LA cs).map V.int))->Q (.ref l) H'
def nV(K:Frag):TS:=
 (tRet (tComp [none,none,some 0] (iList K (tVar 1)) (gName 1) tTrue (tOp cIx (tVar 2) (tVar 1))))
theorem Bg(h:bW K vs H Q E):nV K (eD9 Q) (start ["masks","cells"] vs) H:=by
 obtain⟨A,C,LA,cs,rfl,hA,hC,⟨hn,hc⟩,q⟩:=h;show nV K _ [some (.ref A),some (.ref C)] H;unfold nV;symm;refine⟨⟨_,Mc hC⟩,?_⟩;refine bf (xs:=cs) (fun _=>true) (fun c=>LA.getD c.toNat 0) (by omega) (Mc hC) ?_ ?_ ?_
 . intro x H1 R hx s1 k1;exact k1 _ (LQ _)
 . intro z H1 Q1 hz hb s1 k1;show tOp cIx _ _ [none,some (.int z),some (.ref A)] H1 Q1;symm;have:=hc z hz;exact ixI (s1 _ _ hA) this.1 (by omega) (k1 _ (LQ _))
 . intro l H1 hl s1 el;rw[a9] at el;exact q l H1 s1 hl el
def fe(K:Frag):Sp:=fun vs H Q _=>∃(C:Addr) (ms:List Int) (s:Int),vs=[.ref C,.int s]/\H C=some (.lst (ms.map V.int))/\ms.length<=63/\∀ H',Same H H'->Q (.int ((ms.filter fun m=>stB m s).length:Nat)) H'
def nX(K:Frag):TS:=
 (tRet (tCB kLen (tCons (tComp [none,none,some 1] (iList K (tVar 0)) (gName 1) (tB (tCall (gf K) [] E0 (tCons (tVar 1) (tCons (tVar 2) tNil)))) (tVar 1)) tNil)))
theorem Bh(h:fe K vs H Q E):nX K (eD9 Q) (start ["some","sign"] vs) H:=by
 obtain⟨C,ms,s,rfl,hC,hn,q⟩:=h;show nX K _ [some (.ref C),some (.int s)] H;unfold nX;symm;refine⟨⟨_,Mc hC⟩,?_⟩;refine bf (xs:=ms) (fun m=>stB m s) (fun m=>m) (by omega) (Mc hC) ?_ ?_ ?_
 . intro x H1 R hx s1 k1;show tB _ [none,some (.int x),some (.int s)] H1 R;symm;exact⟨x,s,rfl,_,rfl,k1 _ (LQ _)⟩
 . intro z H1 Q1 hz hb s1 k1;show tVar 1 [none,some (.int z),some (.int s)] H1 Q1;symm;exact k1 _ (LQ _)
 . intro l H1 hl s1 el;rw[Nh] at el;rw[bc el,LM];exact q _ s1
def jk(g:Int)(cs LA:List Int)(z s:Int)(ms:List Int):Bool:=decide ((cs.length:Int)=g)&&(decide (ms.length=1)&&(!decide (ms.getD 0 0=s)&&((decide (1<=ms.getD 0 0)&&decide (ms.getD 0 0<=g))&&decide (((sgAt LA (cs.filter fun x=>!decide (x=z))).filter fun m=>stB m (ms.getD 0 0)).length=0))))
def il(K:Frag)(c:RCl RK):Sp:=fun vs H Q _=>∃(k:RK) (f r p A M:Addr) (ws:List (List Nat)) (cs LA ms:List Int) (n m z s h w g:Int),vs=[.ref f,.ref r,.ref A,.int z,.int s,.ref M]/\IsFl H f h w g/\IsRule H c k r p ws cs n m/\aK cs LA.length/\H A=some (.lst (LA.map V.int))/\H M=some (.lst (ms.map V.int))/\∀ H',Same H H'->Q (.bl (jk g cs LA z s ms)) H'
def ff(K:Frag)(c:RCl RK):TS:=
 (tRet (tOp (cEq K) (tCall (fe K) [] E0 (tCons (tCall (bW K) [] E0 (tCons (tVar 2) (tCons (tCall (bE K c) [] E0 (tCons (tVar 1) (tCons (tVar 3) tNil))) tNil))) (tCons (tOp cIx (tVar 5) (tC (.int 0))) tNil))) (tC (.int 0))))
def jQ(K:Frag)(c:RCl RK):TS:=
 (tSeq (tIfS (tOr (tTest (tOp (cEq K) (tOp cIx (tVar 5) (tC (.int 0))) (tVar 4))) (tNot (tB (tCall (lE K) [] E0 (tCons (tVar 0) (tCons (tOp cIx (tVar 5) (tC (.int 0))) tNil)))))) (tRet (tC (.bl false))) tNext)
  (ff K c))
def im(K:Frag)(c:RCl RK):TS:=
 (tSeq (tIfS (tOr (tTest (tOp (cNe K) (tCB kLen (tCons (aF c c.ok "spots" (dX K c) (tVar 1) tNil) tNil)) (tOp cIx (tVar 0) (tC (.int 2))))) (tTest (tOp (cNe K) (tCB kLen (tCons (tVar 5) tNil)) (tC (.int 1))))) (tRet (tC (.bl false))) tNext)
  (jQ K c))
theorem qD {k:RK} {f r p A M:Addr} {ws:List (List Nat)} {cs LA:List Int} {n m:Int} (x:IsRule H c k r p ws cs n m) (hC:aK cs LA.length) (hA:H A=some (.lst (LA.map V.int))) (hM:H M=some (.lst (ms.map V.int))) (hl:ms.length=1)
  (q:∀ H',Same H H'->Q (.bl (decide (((sgAt LA (cs.filter fun x=>!decide (x=z))).filter fun m=>stB m (ms.getD 0 0)).length=0))) H'):
  ff K c (eD9 Q) [some (.ref f),some (.ref r),some (.ref A),some (.int z),some (.int s),some (.ref M)] H:=by
 unfold ff;symm;refine⟨k,r,p,ws,cs,n,m,z,rfl,x,hC.1,fun O H1 s1 hO eO=>?_⟩;symm;have hC2:aK (cs.filter fun x=>!decide (x=z)) LA.length:=⟨L8 (L9 _ _) hC.1,fun y hy=>hC.2 y (LS.mp hy).1⟩;refine⟨A,O,LA,_,rfl,s1 _ _ hA,eO,hC2,fun B H2 s2 hB eB=>?_⟩;dsimp only;refine ixI ((s1.trans s2) _ _ hM) (by decide) (by omega) ?_;rw[show(0:Int).toNat=0 from rfl];symm;refine⟨B,_,_,rfl,eB,by unfold sgAt;rw[LM];exact hC2.1,fun H3 s3=>?_⟩;symm;have q1:=q H3 ((s1.trans s2).trans s3)
 have e:decide ((((sgAt LA (cs.filter fun x=>!decide (x=z))).filter fun m=>stB m (ms.getD 0 0)).length:Int)=0)=decide (((sgAt LA (cs.filter fun x=>!decide (x=z))).filter fun m=>stB m (ms.getD 0 0)).length=0):=by
  rw[Mn,LO,LO];omega
 rw[e];exact q1
theorem uv(h:il K c vs H Q E):im K c (eD9 Q) (start ["floor","rule","masks","cell","sign","more"] vs) H:=by
 obtain⟨k,f,r,p,A,M,ws,cs,LA,ms,n,m,z,s,h,w,g,rfl,hf,x,hC,hA,hM,q⟩:=h;obtain⟨dx,W,C,h1,h2,h3⟩:=x.ex;show im K c _ [some (.ref f),some (.ref r),some (.ref A),some (.int z),some (.int s),some (.ref M)] H;unfold im;rw[aD,ax];symm;refine methE (k:=k) rfl x.ok h1 (by rfl) ?_;symm;refine⟨r,p,ws,cs,n,m,rfl,x,fun l hl=>?_⟩;obtain⟨H1,z9,s1,el⟩:=aU (.lst (cs.map V.int)) hl;rw[z9]
 try dsimp only
 rw[bc el,LM];refine ixT (s1 _ _ hf) (v:=V.int g) rfl ?_;symm;unfold jk at q
 cases hb:decide ((cs.length:Int)=g) with
 | false=>
  rw[hb,Mb] at q;symm;exact q _ s1
 | true=>
  rw[hb,Mf] at q;symm;rw[bc (s1 _ _ hM),LM];symm
  have e1:decide ((ms.length:Int)=1)=decide (ms.length=1):=by
   rw[Mn,LO,LO];omega
  rw[e1]
  cases hb2:decide (ms.length=1) with
  | false=>
   rw[hb2,Mb] at q;symm;exact q _ s1
  | true=>
   rw[hb2,Mf] at q;have hl1:=LX hb2;symm;unfold jQ;rw[aD,ax];symm;refine ixI (s1 _ _ hM) (by decide) (by omega) ?_;rw[show(0:Int).toNat=0 from rfl];symm
   cases hb3:decide (ms.getD 0 0=s) with
   | true=>
    rw[hb3,NF,Mb] at q;refine iteT ?_;symm;exact q _ s1
   | false=>
    rw[hb3,NW,Mf] at q;refine iteF ?_;refine ixI (s1 _ _ hM) (by decide) (by omega) ?_;rw[show(0:Int).toNat=0 from rfl];symm;refine⟨f,h,w,g,_,rfl,s1 _ _ hf,?_⟩
    cases hb4:(decide (1<=ms.getD 0 0)&&decide (ms.getD 0 0<=g)) with
    | false=>
     rw[hb4,Mb] at q;refine⟨false,rfl,iteT ?_⟩;symm;exact q _ s1
    | true=>
     rw[hb4,Mf] at q;refine⟨true,rfl,iteF ?_⟩;exact qD (x.same s1) hC (s1 _ _ hA) (s1 _ _ hM) hl1 fun H' s2=>q H' (s1.trans s2)
theorem Ab(t:TK):decide (tkC t=[112,108,97,99,101])=decide (t=.place):=by cases t <;> decide
def dM(K:Frag):Sp:=fun vs H Q _=>∃(C:Addr) (ms:List Int) (s:Int),vs=[.ref C,.int s]/\H C=some (.lst (ms.map V.int))/\ms.length<=63/\s<=100000/\∀ H',Same H H'->Q (.int ((ms.filter fun m=>decide (woI m s=0)).length:Nat)) H'
def md(K:Frag):TS:=
 (tRet (tCB kLen (tCons (tComp [none,none,some 1] (iList K (tVar 0)) (gName 1) (tB (tCall (ck K) [] E0 (tCons (tVar 1) (tCons (tVar 2) tNil)))) (tVar 1)) tNil)))
variable{K:Frag}{vs:List V}{H:Hp}{Q:VK}{E:XK}
theorem Ac(h:dM K vs H Q E):md K (eD9 Q) (start ["some","sign"] vs) H:=by
 obtain⟨C,ms,s,rfl,hC,hn,hs,q⟩:=h;show md K _ [some (.ref C),some (.int s)] H;unfold md;symm;refine⟨⟨_,Mc hC⟩,?_⟩;refine bf (xs:=ms) (fun m=>decide (woI m s=0)) (fun m=>m) (by omega) (Mc hC) ?_ ?_ ?_
 . intro x H1 R hx s1 k1;show tB _ [none,some (.int x),some (.int s)] H1 R;symm;exact⟨x,s,rfl,hs,_,rfl,k1 _ (LQ _)⟩
 . intro z H1 Q1 hz hb s1 k1;show tVar 1 [none,some (.int z),some (.int s)] H1 Q1;symm;exact k1 _ (LQ _)
 . intro l H1 hl s1 el;rw[Nh] at el;rw[bc el,LM];exact q _ s1
def rosP(c z:Int)(q:List Int):Bool:=decide (q.getD 0 0=c)&&decide (z∈q)
def rosL(h w c z:Int):List Int:=match (squL h w).find? (rosP c z) with
 | none=>[]
 | some q=>q.filter fun x=>!decide (x=z)
variable{h w:Int}
theorem sX{q:List Int}(hq:q∈squL h w):∃ i:Nat,i < (h*w).toNat/\cornB h w i=true/\q=sqL w i:=by
 unfold squL at hq;obtain⟨i,hi,rfl⟩:=L1.mp hq;obtain⟨hi,hc⟩:=LS.mp hi;exact⟨i,LZ.mp hi,hc,rfl⟩
theorem F9{c:Int}(w0:1<=w)(c0:0<=c)(hc:cornB h w c=true):c+w+1<h*w:=by
 unfold cornB at hc;rw[LT,LO,LO] at hc;have e:=NS c w;have m:=Int.mul_le_mul_of_nonneg_left (show c/w+2<=h by omega) (show 0<=w by omega);rw[Int.mul_add] at m;rw[PR h w];omega
theorem Ih{c x:Int}(w0:1<=w)(c0:0<=c)(hc:cornB h w c=true)(hx:x∈sqL w c):0<=x/\x<h*w:=by
 have:=F9 w0 c0 hc;simp[sqL] at hx;omega
variable{z:Int}
theorem Hn{g c:Int}{n:Nat}(F:FlOk h w g)(hn:n=(h*w).toNat):aK (rosL h w c z) n:=by
 have w0:=F.w0;unfold rosL
 cases e:(squL h w).find? (rosP c z) with
 | none=>exact⟨by show(0:Nat)<=63;omega,fun x hx=>by cases hx⟩
 | some q=>
  obtain⟨i,hi,hc,rfl⟩:=sX (Nw e);refine⟨L8 (L9 _ _) (by show(4:Nat)<=63;omega),fun x hx=>?_⟩;have:=Ih w0 (by omega) hc (LS.mp hx).1;omega
def gB(K:Frag):Sp:=fun vs H Q _=>∃(f:Addr) (h w g c z:Int),vs=[.ref f,.int c,.int z]/\IsFl H f h w g/\FlOk h w g/\∀ l H',Same H H'->H l=none->H' l=some (.lst ((rosL h w c z).map V.int))->Q (.ref l) H'
def gC(K:Frag):TS:=
 (tSeq (tFor (iList K (tCall (i5 K) [] E0 (tCons (tVar 0) tNil))) (gName 3)
  (tIfS (tAnd (tTest (tOp (cEq K) (tOp cIx (tVar 3) (tC (.int 0))) (tVar 1))) (tTest (tOp (cIn K false) (tVar 2) (tVar 3)))) (tRet (tComp [none,none,some 2] (iList K (tVar 3)) (gName 1) (tTest (tOp (cNe K) (tVar 1) (tVar 2))) (tVar 1))) tNext))
  (tRet (tLst tNil)))
theorem tu(h:gB K vs H Q E):gC K (eD9 Q) (start ["floor","corner","cell","square"] vs) H:=by
 obtain⟨f,h,w,g,c,z,rfl,hf,F,q⟩:=h;show gC K _ [some (.ref f),some (.int c),some (.int z),none] H;unfold gC;rw[aD];symm;refine⟨f,h,w,g,rfl,hf,F,fun l as H1 s1 hl x nd nl hn=>?_⟩;refine⟨l,rfl,⟨_,Mc x.top⟩,?_⟩;refine bq (K:=K) (xs:=as.map V.ref) (fun i σ H'=>∃ sv:Option V,σ=[some (.ref f),some (.int c),some (.int z),sv]/\Same H1 H'/\∀(j:Nat) (q:List Int),j<i->(squL h w)[j]? =some q->rosP c z q=false) ⟨none,rfl,LQ _,fun j q hj=>by omega⟩ (fun i σ H' _ ⟨_,_,s,_⟩=>s.seq (Mc x.top)) ?_ ?_
 . rintro i v σ H2 hv ⟨sv,rfl,s2,hno⟩;rw[LW] at hv
   cases ha:as[i]? with
   | none=>rw[ha] at hv;cases hv
   | some a=>
   rw[ha] at hv;cases hv;have hlt:i < (squL h w).length:=by rw[← x.len];exact(LP.mp ha).1
   have eq:(squL h w)[i]? =some (squL h w)[i]:=LN hlt;have ea:=(x.same s2).at_ i a _ ha eq
   have q4:((squL h w)[i]).length=4:=by
    obtain⟨k,_,_,e⟩:=sX (Mp hlt);rw[e];rfl
   have nx:rosP c z (squL h w)[i]=false->∀(j:Nat) (q:List Int),j<i+1->(squL h w)[j]? =some q->rosP c z q=false:=fun hf j q hj hq=>by
    by_cases hji:j=i
    . subst hji;rw[eq] at hq;cases hq;exact hf
    . exact hno j q (by omega) hq
   have fo:rosP c z (squL h w)[i]=true->rosL h w c z=(squL h w)[i].filter fun x=>!decide (x=z):=fun ht=>by
    have e:(squL h w).find? (rosP c z)=some (squL h w)[i]:=by
     rw[Ox];refine⟨ht,i,hlt,rfl,fun j hj=>?_⟩;rw[hno j _ hj (LN (by omega))];rfl
    unfold rosL;rw[e]
   generalize (squL h w)[i]=sq at*;unfold rosP at nx fo;symm;rw[ax];symm;refine ixI ea (by decide) (by omega) ?_;rw[show(0:Int).toNat=0 from rfl];symm
   cases hb:decide (sq.getD 0 0=c) with
   | false=>
    rw[hb,Mb] at nx;refine iteF ?_;symm;exact⟨_,rfl,s2,nx rfl⟩
   | true=>
    rw[hb,Mf] at nx fo;refine iteT ?_;rw[qT ea]
    cases hb2:decide (z∈sq) with
    | false=>
     rw[hb2] at nx;refine⟨false,rfl,?_⟩;symm;exact⟨_,rfl,s2,nx rfl⟩
    | true=>
     rw[hb2] at fo;refine⟨true,rfl,?_⟩;symm;refine⟨⟨_,Mc ea⟩,?_⟩;refine bf (xs:=sq) (fun x=>!decide (x=z)) (fun x=>x) (by omega) (Mc ea) ?_ ?_ ?_
     . intro y H3 R hy s3 k3;show tTest _ [none,some (.int y),some (.int z)] H3 R;symm;exact k3 _ (LQ _)
     . intro y H3 Q3 hy hb s3 k3;show tVar 1 [none,some (.int y),some (.int z)] H3 Q3;symm;exact k3 _ (LQ _)
     . intro T H3 hT s3 eT;rw[Nh,← fo rfl] at eT;exact q T H3 ((s1.trans s2).trans s3) ((s1.trans s2).free hT) eT
 . rintro σ H2 ⟨sv,rfl,s2,hno⟩
   have e:rosL h w c z=[]:=by
    have e:(squL h w).find? (rosP c z)=none:=by
     rw[Od];intro q hq;obtain⟨i,hi⟩:=OF hq;rw[hno i q (by rw[LM,x.len];exact(LP.mp hi).1) hi];decide
    unfold rosL;rw[e]
   symm;refine⟨aQ (by decide),fun T hT=>?_⟩;exact q T _ ((s1.trans s2).trans ((LQ H2).laid hT)) ((s1.trans s2).free hT) (by rw[ag,e];rfl)
def squB(h w m:Int)(LA:List Int)(z s:Int)(ms:List Int):Bool:=decide (s=m)&&(decide (ms.length=1)&&(!decide (rosL h w (ms.getD 0 0) z=[])&&decide (((sgAt LA (rosL h w (ms.getD 0 0) z)).filter fun k=>decide (woI k s=0)).length=(rosL h w (ms.getD 0 0) z).length)))
def gD(K:Frag)(c:RCl RK):Sp:=fun vs H Q _=>∃(k:RK) (f r p A M:Addr) (ws:List (List Nat)) (cs LA ms:List Int) (n m z s h w g:Int),vs=[.ref f,.ref r,.ref A,.int z,.int s,.ref M]/\IsFl H f h w g/\FlOk h w g/\IsRule H c k r p ws cs n m/\LA.length=(h*w).toNat/\H A=some (.lst (LA.map V.int))/\H M=some (.lst (ms.map V.int))/\s<=1000/\∀ H',Same H H'->Q (.bl (squB h w m LA z s ms)) H'
def dZ(K:Frag)(c:RCl RK):TS:=
 (tSeq (tAsg (tCall (gB K) [] E0 (tCons (tVar 0) (tCons (tOp cIx (tVar 5) (tC (.int 0))) (tCons (tVar 3) tNil)))) (gName 6))
  (tRet (tAndV (tOp (cNe K) (tVar 6) (tLst tNil)) (tOp (cEq K) (tCall (dM K) [] E0 (tCons (tCall (bW K) [] E0 (tCons (tVar 2) (tCons (tVar 6) tNil))) (tCons (tVar 4) tNil))) (tCB kLen (tCons (tVar 6) tNil))))))
def gE(K:Frag)(c:RCl RK):TS:=
 (tSeq (tIfS (tOr (tTest (tOp (cNe K) (tVar 4) (aF c c.ok "sign" (iK K c) (tVar 1) tNil))) (tTest (tOp (cNe K) (tCB kLen (tCons (tVar 5) tNil)) (tC (.int 1))))) (tRet (tC (.bl false))) tNext)
  (dZ K c))
variable{c:RCl RK}{LA:List Int}
theorem pY {f A M:Addr} {v1:V} {ms:List Int} {s g:Int} (hf:IsFl H f h w g) (F:FlOk h w g) (hml:LA.length=(h*w).toNat) (hA:H A=some (.lst (LA.map V.int))) (hM:H M=some (.lst (ms.map V.int))) (hl:ms.length=1) (hs:s<=1000)
  (q:∀ H',Same H H'->Q (.bl (!decide (rosL h w (ms.getD 0 0) z=[])&&decide (((sgAt LA (rosL h w (ms.getD 0 0) z)).filter fun k=>decide (woI k s=0)).length=(rosL h w (ms.getD 0 0) z).length))) H'):
  dZ K c (eD9 Q) [some (.ref f),some v1,some (.ref A),some (.int z),some (.int s),some (.ref M),none] H:=by
 have hin:=Hn (c:=ms.getD 0 0) (z:=z) F hml;unfold dZ;symm;refine ixI hM (by decide) (by omega) ?_;rw[show(0:Int).toNat=0 from rfl];symm;refine⟨f,h,w,g,_,z,rfl,hf,F,fun R H1 s1 hR eR=>?_⟩;symm;refine⟨aQ (by decide),fun Z hZ=>?_⟩;obtain⟨H2,z9,s2,eZ⟩:∃ z,upd H1 Z (.lst [])=z/\Same H1 z/\z Z=some (.lst (([]:List Int).map V.int)):=aU _ hZ;rw[z9];have s12:=s1.trans s2;refine pJ (s2 _ _ eR) eZ ?_;generalize hros:rosL h w (ms.getD 0 0) z=ros at*
 cases hb:decide (ros=[]) with
 | true=>
  rw[hb,NF] at q;refine⟨false,rfl,iteF ?_⟩;exact q _ s12
 | false=>
  rw[hb,NW] at q;refine⟨true,rfl,iteT ?_⟩;symm;refine⟨A,R,LA,ros,rfl,s12 _ _ hA,s2 _ _ eR,hin,fun B H3 s3 hB eB=>?_⟩;dsimp only;refine⟨B,_,s,rfl,eB,by unfold sgAt;rw[LM];exact hin.1,by omega,fun H4 s4=>?_⟩;symm;rw[bc (((s2.trans s3).trans s4) _ _ eR),LM];symm;have q1:=q H4 ((s12.trans s3).trans s4)
  have e:decide ((((sgAt LA ros).filter fun k=>decide (woI k s=0)).length:Int)=(ros.length:Int))=decide (((sgAt LA ros).filter fun k=>decide (woI k s=0)).length=ros.length):=by
   rw[Mn,LO,LO];omega
  rw[e];exact q1
theorem tw(h:gD K c vs H Q E):gE K c (eD9 Q) (start ["floor","rule","masks","cell","sign","more","rest"] vs) H:=by
 obtain⟨k,f,r,p,A,M,ws,cs,LA,ms,n,m,z,s,h,w,g,rfl,hf,F,x,hml,hA,hM,hs,q⟩:=h;obtain⟨dx,W,C,h1,h2,h3⟩:=x.ex;show gE K c _ [some (.ref f),some (.ref r),some (.ref A),some (.int z),some (.int s),some (.ref M),none] H;unfold gE;rw[aD,ax];symm;refine methE (k:=k) rfl x.ok h1 (by rfl) ?_;symm;refine⟨r,p,ws,cs,n,m,rfl,x,?_⟩;symm;unfold squB at q
 cases hb:decide (s=m) with
 | false=>
  rw[hb,Mb] at q;symm;exact q _ (LQ _)
 | true=>
  rw[hb,Mf] at q;symm;rw[bc hM,LM];symm
  have e1:decide ((ms.length:Int)=1)=decide (ms.length=1):=by
   rw[Mn,LO,LO];omega
  rw[e1]
  cases hb2:decide (ms.length=1) with
  | false=>
   rw[hb2,Mb] at q;symm;exact q _ (LQ _)
  | true=>
   rw[hb2,Mf] at q;symm;exact pY hf F hml hA hM (LX hb2) hs q
theorem yq(t:TK):decide (tkC t=[115,113,117,97,114,101])=decide (t=.square):=by cases t <;> decide
def othL(cs:List Int)(z:Int):List Int:=cs.filter fun x=>!decide (x=z)
def cntB(cs:List Int)(n m:Int)(LA:List Int)(z s:Int)(ms:List Int):Bool:=
 decide (ms=[])&&(if s=m then decide (n<=(((sgAt LA (othL cs z)).filter fun k=>decide (woI k s=0)).length:Int)) else decide ((((sgAt LA (othL cs z)).filter fun k=>stB k m).length:Int)<n))
def io(K:Frag)(c:RCl RK):Sp:=fun vs H Q _=>∃(k:RK) (r p A M:Addr) (ws:List (List Nat)) (cs LA ms:List Int) (n m z s:Int),vs=[.ref r,.ref A,.int z,.int s,.ref M]/\IsRule H c k r p ws cs n m/\aK cs LA.length/\H A=some (.lst (LA.map V.int))/\H M=some (.lst (ms.map V.int))/\s<=1000/\∀ H',Same H H'->Q (.bl (cntB cs n m LA z s ms)) H'
def fg(K:Frag)(c:RCl RK):TS:=
 (tSeq (tAsg (tCall (bW K) [] E0 (tCons (tVar 1) (tCons (tCall (bE K c) [] E0 (tCons (tVar 0) (tCons (tVar 2) tNil))) tNil))) (gName 5))
  (tSeq (tIfS (tTest (tOp (cEq K) (tVar 3) (aF c c.ok "sign" (iK K c) (tVar 0) tNil))) (tRet (tOp (cCmp fun i j=>decide (j<=i)) (tCall (dM K) [] E0 (tCons (tVar 5) (tCons (tVar 3) tNil))) (aF c c.ok "number" (iJ K c) (tVar 0) tNil))) tNext)
  (tRet (tOp (cCmp fun i j=>decide (i<j)) (tCall (fe K) [] E0 (tCons (tVar 5) (tCons (aF c c.ok "sign" (iK K c) (tVar 0) tNil) tNil))) (aF c c.ok "number" (iJ K c) (tVar 0) tNil)))))
def ip(K:Frag)(c:RCl RK):TS:=
 (tSeq (tIfS (tTest (tOp (cNe K) (tVar 4) (tLst tNil))) (tRet (tC (.bl false))) tNext)
  (fg K c))
variable{cs:List Int}{m:Int}
theorem qE {k:RK} {r p A M:Addr} {ws:List (List Nat)} {n s:Int} (x:IsRule H c k r p ws cs n m) (hC:aK cs LA.length) (hA:H A=some (.lst (LA.map V.int))) (hs0:s<=1000)
  (q:∀ H',Same H H'->Q (.bl (if s=m then decide (n<=(((sgAt LA (othL cs z)).filter fun k=>decide (woI k s=0)).length:Int)) else decide ((((sgAt LA (othL cs z)).filter fun k=>stB k m).length:Int)<n))) H'):
  fg K c (eD9 Q) [some (.ref r),some (.ref A),some (.int z),some (.int s),some (.ref M),none] H:=by
 have hC2:aK (othL cs z) LA.length:=⟨L8 (L9 _ _) hC.1,fun y hy=>hC.2 y (LS.mp hy).1⟩;have LJ:(sgAt LA (othL cs z)).length<=63:=by unfold sgAt;rw[LM];exact hC2.1
 unfold fg;symm;refine⟨k,r,p,ws,cs,n,m,z,rfl,x,hC.1,fun O H1 s1 hO eO=>?_⟩;symm;refine⟨A,O,LA,othL cs z,rfl,s1 _ _ hA,eO,hC2,fun B H2 s2 hB eB=>?_⟩;have s12:=s1.trans s2;have x2:=x.same s12;obtain⟨dx,W,C,h1,h2,h3⟩:=x2.ex;symm;rw[ax];symm;refine methE (k:=k) rfl x2.ok h1 (by rfl) ?_;symm;refine⟨r,p,ws,cs,n,m,rfl,x2,?_⟩;symm;by_cases hs:s=m
 . rw[Md hs] at q;rw[LU hs];symm;refine⟨B,_,_,rfl,eB,LJ,by omega,fun H3 s3=>?_⟩;have x3:=x2.same s3;obtain⟨dx3,W3,C3,g1,g2,g3⟩:=x3.ex;refine methE (k:=k) rfl x3.ok g1 (by rfl) ?_;symm;refine⟨r,p,ws,cs,n,m,rfl,x3,?_⟩;symm;exact q _ (s12.trans s3)
 . rw[L4 hs] at q;rw[LR hs];symm;refine methE (k:=k) rfl x2.ok h1 (by rfl) ?_;symm;refine⟨r,p,ws,cs,n,m,rfl,x2,?_⟩;symm;refine⟨B,_,_,rfl,eB,LJ,fun H3 s3=>?_⟩;have x3:=x2.same s3;obtain⟨dx3,W3,C3,g1,g2,g3⟩:=x3.ex;refine methE (k:=k) rfl x3.ok g1 (by rfl) ?_;symm;refine⟨r,p,ws,cs,n,m,rfl,x3,?_⟩;symm;exact q _ (s12.trans s3)
theorem uw(h:io K c vs H Q E):ip K c (eD9 Q) (start ["rule","masks","cell","sign","more","some"] vs) H:=by
 obtain⟨k,r,p,A,M,ws,cs,LA,ms,n,m,z,s,rfl,x,hC,hA,hM,hs,q⟩:=h;show ip K c _ [some (.ref r),some (.ref A),some (.int z),some (.int s),some (.ref M),none] H;unfold ip;rw[aD,ax];symm;refine⟨aQ (by decide),fun Z hZ=>?_⟩;obtain⟨H1,z9,s1,eZ⟩:∃ z,upd H Z (.lst [])=z/\Same H z/\z Z=some (.lst (([]:List Int).map V.int)):=aU _ hZ;rw[z9];refine pJ (s1 _ _ hM) eZ ?_;unfold cntB at q
 cases hb:decide (ms=[]) with
 | false=>
  rw[hb,Mb] at q;refine⟨true,rfl,?_⟩;symm;exact q _ s1
 | true=>
  rw[hb,Mf] at q;refine⟨false,rfl,?_⟩;symm;exact qE (x.same s1) hC (s1 _ _ hA) hs fun H' s2=>q H' (s1.trans s2)
theorem Fg(t:TK):decide (tkC t=[99,111,117,110,116])=decide (t=.count):=by cases t <;> decide
variable{xs:List Int}
theorem j6{q:Addr}{x:Int}(hq:H q=some (.lst (xs.map V.int)))(hm:x∈xs)(hn:xs.length<=900)(h:Q (.int (xs.findIdx (· ==x):Nat)) H):iU K (.ref q) [.int x] H Q:=by
 have hlt:xs.findIdx (· ==x)<xs.length:=Ol ⟨x,hm,by simp⟩
 have ev:∀ a b:Int,PyData.eqv (.int a) (.int b)=decide (a=b):=fun a b=>by
  rw[PyData.eqv];by_cases h:a=b
  . subst h;simp
  . simp[h]
 refine⟨xs.map PyData.int,.int x,xs.findIdx (· ==x),.lst (Mc hq) (.ints xs),.int x,lO xs,rfl,?_,by omega,⟨PyData.int xs[xs.findIdx (· ==x)],?_,?_⟩,fun m e hm2 he=>?_,h⟩
 . rw[iP];omega
 . rw[LW,LN hlt];rfl
 . have:=List.findIdx_getElem (w:=hlt);rw[ev,LO]
   simpa using this
 . have hml:m<xs.length:=by omega
   rw[LW,LN hml] at he;cases he;have:=List.not_of_lt_findIdx hm2;rw[ev,MJ]
   simpa using this
def jl(xs:List Int)(x:Int):Nat:=xs.findIdx (· ==x)
def ordB(cs ms:List Int):Bool:=decide (ms.length=2)&&(decide (ms.getD 0 0∈cs)&&(decide (ms.getD 1 0∈cs)&&decide (jl cs (ms.getD 0 0)<jl cs (ms.getD 1 0))))
def d0(K:Frag):Sp:=fun vs H Q _=>∃(C M:Addr) (cs ms:List Int),vs=[.ref C,.ref M]/\H C=some (.lst (cs.map V.int))/\cs.length<=63/\H M=some (.lst (ms.map V.int))/\Q (.bl (ordB cs ms)) H
def d2(K:Frag):TS:=
 (tSeq (tIfS (tOr (tTest (tOp (cNe K) (tCB kLen (tCons (tVar 1) tNil)) (tC (.int 2)))) (tOr (tTest (tOp (cIn K true) (tOp cIx (tVar 1) (tC (.int 0))) (tVar 0))) (tTest (tOp (cIn K true) (tOp cIx (tVar 1) (tC (.int 1))) (tVar 0))))) (tRet (tC (.bl false))) tNext)
  (tRet (tOp (cCmp fun i j=>decide (i<j)) (tBM K "list" (iU K) (tVar 0) (tCons (tOp cIx (tVar 1) (tC (.int 0))) tNil)) (tBM K "list" (iU K) (tVar 0) (tCons (tOp cIx (tVar 1) (tC (.int 1))) tNil)))))
theorem pZ(h:d0 K vs H Q E):d2 K (eD9 Q) (start ["cells","more"] vs) H:=by
 obtain⟨C,M,cs,ms,rfl,hC,hn,hM,q⟩:=h;show d2 K _ [some (.ref C),some (.ref M)] H;unfold d2;rw[aD,ax];symm;rw[bc hM,LM];symm;unfold ordB at q
 have e1:decide ((ms.length:Int)=2)=decide (ms.length=2):=by
  rw[Mn,LO,LO];omega
 rw[e1]
 cases hb:decide (ms.length=2) with
 | false=>
  rw[hb,Mb] at q;symm;exact q
 | true=>
  rw[hb,Mf] at q;have hl:=LX hb;symm;refine ixI hM (by decide) (by omega) ?_;rw[show(0:Int).toNat=0 from rfl];symm;rw[lx hC]
  cases hb2:decide (ms.getD 0 0∈cs) with
  | false=>
   rw[hb2,Mb] at q;refine⟨true,rfl,iteT ?_⟩;symm;exact q
  | true=>
   rw[hb2,Mf] at q;refine⟨false,rfl,iteF ?_⟩;symm;refine ixI hM (by decide) (by omega) ?_;rw[show(1:Int).toNat=1 from rfl];symm;rw[lx hC]
   cases hb3:decide (ms.getD 1 0∈cs) with
   | false=>
    rw[hb3,Mb] at q;refine⟨true,rfl,iteT ?_⟩;symm;exact q
   | true=>
    rw[hb3,Mf] at q;refine⟨false,rfl,iteF ?_⟩;symm;refine⟨bd hC,?_⟩;refine ixI hM (by decide) (by omega) ?_;rw[show(0:Int).toNat=0 from rfl];symm;refine j6 hC (LX hb2) (by omega) ?_;symm;refine⟨bd hC,?_⟩;refine ixI hM (by decide) (by omega) ?_;rw[show(1:Int).toNat=1 from rfl];symm;refine j6 hC (LX hb3) (by omega) ?_;symm
    have e2:decide (((cs.findIdx (· ==ms.getD 0 0):Nat):Int) < ((cs.findIdx (· ==ms.getD 1 0):Nat):Int))=decide (jl cs (ms.getD 0 0)<jl cs (ms.getD 1 0)):=by
     rw[Mn,LO,LO];unfold jl;omega
    rw[e2];exact q
def orM(LA:List Int)(ms:List Int):Int:=Builtin.bitOr (LA.getD (ms.getD 0 0).toNat 0) (LA.getD (ms.getD 1 0).toNat 0)
def pairB(cs LA:List Int)(z s:Int)(ms:List Int):Bool:=ordB (cs.filter fun x=>!decide (x=z)) ms&&decide (((sgL (orM LA ms)).filter fun x=>!decide (x=s)).length<=1)
theorem Ad:((List.range 64).all fun a=>(List.range 64).all fun b=>decide (0<=Builtin.bitOr (a:Int) (b:Int))&&decide (Builtin.bitOr (a:Int) (b:Int)<64))=true:=by decide+kernel
theorem Ii{a b:Int}(a0:0<=a)(a1:a<64)(b0:0<=b)(b1:b<64):0<=Builtin.bitOr a b/\Builtin.bitOr a b<64:=by
 have t:=L3.mp (L3.mp Ad a.toNat (LZ.mpr (by omega))) b.toNat (LZ.mpr (by omega));have e1:((a.toNat:Nat):Int)=a:=by omega
 have e2:((b.toNat:Nat):Int)=b:=by omega
 rw[e1,e2] at t
 simpa using t
theorem Ho:((List.range 64).all fun m=>decide (Builtin.Int.intBits (m:Int)<=6)&&decide (sgL (m:Int)=(([0,1,2,3,4,5]:List Nat).filter fun(i:Nat)=>stB (m:Int) (1+(i:Int))).map fun(i:Nat)=>1+(i:Int)))=true:=by decide+kernel
theorem gS(m0:0<=m)(m1:m<64):Builtin.Int.intBits m<=6/\sgL m=(([0,1,2,3,4,5]:List Nat).filter fun(i:Nat)=>stB m (1+(i:Int))).map fun(i:Nat)=>1+(i:Int):=by
 have t:=L3.mp Ho m.toNat (LZ.mpr (by omega));have e1:((m.toNat:Nat):Int)=m:=by omega
 rw[e1,LT,LO,LO] at t;exact t
theorem vL{i:Int}(mm:∀ m∈LA,0<=m/\m<64)(i0:0<=i)(i1:i<LA.length):0<=LA.getD i.toNat 0/\LA.getD i.toNat 0<64:=by
 have hlt:i.toNat<LA.length:=by omega
 rw[List.getD,LN hlt];exact mm _ (Mp hlt)
def jm(K:Frag)(c:RCl RK):Sp:=fun vs H Q _=>∃(k:RK) (r p A M:Addr) (ws:List (List Nat)) (cs LA ms:List Int) (n m z s:Int),vs=[.ref r,.ref A,.int z,.int s,.ref M]/\IsRule H c k r p ws cs n m/\aK cs LA.length/\(∀ m∈LA,0<=m/\m<64)/\H A=some (.lst (LA.map V.int))/\H M=some (.lst (ms.map V.int))/\∀ H',Same H H'->Q (.bl (pairB cs LA z s ms)) H'
def gg(K:Frag)(c:RCl RK):TS:=
 (tSeq (tAsg (tCall (bA K) [] E0 (tCons (tOp cOr (tOp cIx (tVar 1) (tOp cIx (tVar 4) (tC (.int 0)))) (tOp cIx (tVar 1) (tOp cIx (tVar 4) (tC (.int 1))))) tNil)) (gName 5))
  (tRet (tOp (cCmp fun i j=>decide (i<=j)) (tCB kLen (tCons (tComp [none,none,some 3] (iList K (tVar 5)) (gName 1) (tTest (tOp (cNe K) (tVar 1) (tVar 2))) (tVar 1)) tNil)) (tC (.int 1)))))
def jn(K:Frag)(c:RCl RK):TS:=
 (tSeq (tIfS (tNot (tB (tCall (d0 K) [] E0 (tCons (tCall (bE K c) [] E0 (tCons (tVar 0) (tCons (tVar 2) tNil))) (tCons (tVar 4) tNil))))) (tRet (tC (.bl false))) tNext)
  (gg K c))
theorem rj {A M:Addr} {ms:List Int} {s:Int} {v0:V} (hC:aK cs LA.length) (mm:∀ m∈LA,0<=m/\m<64) (hA:H A=some (.lst (LA.map V.int))) (hM:H M=some (.lst (ms.map V.int))) (ho:ordB (cs.filter fun x=>!decide (x=z)) ms=true)
  (q:∀ H',Same H H'->Q (.bl (decide (((sgL (orM LA ms)).filter fun x=>!decide (x=s)).length<=1))) H'):
  gg K c (eD9 Q) [some v0,some (.ref A),some (.int z),some (.int s),some (.ref M),none] H:=by
 unfold ordB at ho;simp only[LT,LO] at ho;obtain⟨hl,m0,m1,_⟩:=ho;have c0:=hC.2 _ (LS.mp m0).1;have c1:=hC.2 _ (LS.mp m1).1;have k0:=vL mm c0.1 c0.2;have k1:=vL mm c1.1 c1.2;have ol:=Ii k0.1 k0.2 k1.1 k1.2;have sb:=(gS ol.1 ol.2).1;unfold gg;symm;refine ixI hM (by decide) (by omega) ?_;rw[show(0:Int).toNat=0 from rfl];symm;refine ixI hA c0.1 c0.2 ?_;symm;refine ixI hM (by decide) (by omega) ?_;rw[show(1:Int).toNat=1 from rfl];symm;refine ixI hA c1.1 c1.2 ?_;symm;refine⟨_,rfl,by omega,fun l H1 s1 hl1 el=>?_⟩;have el2:H1 l=some (.lst ((sgL (orM LA ms)).map V.int)):=el
 have hsl:(sgL (orM LA ms)).length<=6:=by
  unfold orM;rw[(gS ol.1 ol.2).2,LM];exact L9 _ _
 symm;refine⟨⟨_,Mc el2⟩,?_⟩;refine bf (xs:=sgL (orM LA ms)) (fun x=>!decide (x=s)) (fun x=>x) (by omega) (Mc el2) ?_ ?_ ?_
 . intro x H2 R hx s2 k2;show tTest _ [none,some (.int x),some (.int s)] H2 R;symm;exact k2 _ (LQ _)
 . intro x H2 Q2 hx hb s2 k2;show tVar 1 [none,some (.int x),some (.int s)] H2 Q2;symm;exact k2 _ (LQ _)
 . intro T H2 hT s2 eT;rw[Nh] at eT;symm;rw[bc eT,LM];symm
   have e2:decide ((((sgL (orM LA ms)).filter fun x=>!decide (x=s)).length:Int)<=1)=decide (((sgL (orM LA ms)).filter fun x=>!decide (x=s)).length<=1):=by
    rw[Mn,LO,LO];omega
   rw[e2];exact q _ (s1.trans s2)
theorem vM(h:jm K c vs H Q E):jn K c (eD9 Q) (start ["rule","masks","cell","sign","more","together"] vs) H:=by
 obtain⟨k,r,p,A,M,ws,cs,LA,ms,n,m,z,s,rfl,x,hC,mm,hA,hM,q⟩:=h;show jn K c _ [some (.ref r),some (.ref A),some (.int z),some (.int s),some (.ref M),none] H;unfold jn;rw[aD,ax];symm;refine⟨k,r,p,ws,cs,n,m,z,rfl,x,hC.1,fun O H1 s1 hO eO=>?_⟩;symm;refine⟨O,M,_,ms,rfl,eO,L8 (L9 _ _) hC.1,s1 _ _ hM,?_⟩;unfold pairB at q
 cases hb:ordB (cs.filter fun x=>!decide (x=z)) ms with
 | false=>
  rw[hb,Mb] at q;refine⟨false,rfl,iteT ?_⟩;symm;exact q _ s1
 | true=>
  rw[hb,Mf] at q;refine⟨true,rfl,iteF ?_⟩;exact rj hC mm (s1 _ _ hA) (s1 _ _ hM) hb fun H' s2=>q H' (s1.trans s2)
theorem Ga(t:TK):decide (tkC t=[115,116,101,112])=decide (t=.step):=by cases t <;> decide
theorem BU(xs:List V){a b:Nat}(hab:a<=b):cutV xs (some (a:Int)) (some (b:Int))=(xs.drop a).take (b-a):=by
 have h1:HT.sIx xs.length 0 (some (a:Int))=min a xs.length:=by rw[HT.sIx_nat]
 have h2:HT.sIx xs.length xs.length (some (b:Int))=min b xs.length:=by rw[HT.sIx_nat]
 unfold cutV;rw[h1,h2];by_cases ha:a<=xs.length
 . rw[Pz ha];by_cases hb:b<=xs.length
   . rw[Pz hb]
   . rw[Ow (by omega),MT (by simp),MT (by simp;omega)]
 . rw[Ow (by omega),Ow (by omega),Oy,Pr (by omega)];simp
theorem kA {k:Nat} {a:Addr} {te:TE} {fin:Addr->Hp->Prop} {σ0:St} {H1:Hp} (f:Int->Bool) (hn:xs.length<=900) (hq:SqL K H1 a (xs.map V.int))
  (he:∀ x H Q,x∈xs->Same H1 H->(∀ H',Same H H'->Q (.bl (f x)) H')->te (σ0.set k (some (.int x))) H Q)
  (hd:∀ l H,H1 l=none->Same H1 H->H l=some (.lst ((xs.map f).map V.bl))->fin l H):
  CompR (Itl K a) (gName k) tTrue te fin σ0 H1:=by
 refine bN (xs:=xs.map V.int) (fun _=>true) (fun i=>.bl (f (xs.getD i 0))) (by rw[LM];exact hn) hq ?_ ?_ ?_
 . intro i x H R hx s1 k1;exact k1 _ (LQ _)
 . intro i x H Q hx hb s1 h;obtain⟨z,hz,rfl⟩:=aP hx;have h2:=h;simp only[eP hz] at h2;exact he z H Q (LV hz) s1 h2
 . intro l H hl s1 el;refine hd l H hl s1 ?_;rw[el,a9,LM,Mv]
   congr 2
   exact qj xs fun x=>V.bl (f x)
def ahdL(cs:List Int)(z:Int):List Int:=if 0<jl cs z then [cs.getD (jl cs z-1) 0] else []
def behL(cs:List Int)(z:Int):List Int:=if jl cs z+1<cs.length then [cs.getD (jl cs z+1) 0] else []
theorem FB(h:z∈cs):jl cs z<cs.length:=Ol ⟨z,h,by simp⟩
theorem Gb{o:Int}(h:z∈cs)(ho:o∈ahdL cs z):o∈cs:=by
 have:=FB h;unfold ahdL at ho
 split at ho
 . rw[L0.mp ho,List.getD,LN (by omega)];exact Mp _
 . cases ho
theorem Gc{o:Int}(ho:o∈behL cs z):o∈cs:=by
 unfold behL at ho
 split at ho
 . rename_i h
   rw[L0.mp ho,List.getD,LN h];exact Mp _
 . cases ho
theorem Ae(cs:List Int)(k:Nat):(cs.drop k).take 1=if k<cs.length then [cs.getD k 0] else []:=by
 by_cases h:k<cs.length
 . rw[Md h,Ny h,List.getD,LN h];rfl
 . rw[L4 h,Pr (by omega)];rfl
def nY(K:Frag)(c:RCl RK):Sp:=fun vs H Q _=>∃(k:RK) (r p:Addr) (ws:List (List Nat)) (cs:List Int) (n m z:Int),vs=[.ref r,.int z]/\IsRule H c k r p ws cs n m/\cs.length<=63/\z∈cs/\∀ l H',Same H H'->H l=none->H' l=some (.lst ((ahdL cs z).map V.int))->Q (.ref l) H'
def oa(K:Frag)(c:RCl RK):TS:=
 (tSeq (tAsg (aF c c.ok "spots" (dX K c) (tVar 0) tNil) (gName 2))
  (tSeq (tAsg (tBM K "list" (iU K) (tVar 2) (tCons (tVar 1) tNil)) (gName 3))
  (tRet (tIf (tTest (tOp (cCmp fun i j=>decide (j<i)) (tVar 3) (tC (.int 0)))) (tSl j3 (tVar 2) (tPart (tOp cSub (tVar 3) (tC (.int 1)))) (tPart (tVar 3))) (tLst tNil)))))
theorem Bi(h:nY K c vs H Q E):oa K c (eD9 Q) (start ["rule","cell","spots","place"] vs) H:=by
 obtain⟨k,r,p,ws,cs,n,m,z,rfl,x,hn,hz,q⟩:=h;obtain⟨dx,W,C,h1,h2,h3⟩:=x.ex;have hlt:=FB hz;show oa K c _ [some (.ref r),some (.int z),none,none] H;unfold oa;rw[aD,bI];refine methE (k:=k) rfl x.ok h1 (by rfl) ?_;symm;refine⟨r,p,ws,cs,n,m,rfl,x,fun S hS=>?_⟩;obtain⟨H1,z9,s1,eS⟩:=aU (.lst (cs.map V.int)) hS;rw[z9];symm;refine⟨bd eS,?_⟩;refine j6 eS hz (by omega) ?_;have ei:(cs.findIdx (· ==z))=jl cs z:=rfl;rw[ei];unfold ahdL at q;generalize jl cs z=j at*;symm;by_cases hj:0<j
 . rw[Md hj] at q;rw[LU (show(0:Int) < (j:Int) by omega)];refine iteT ?_;refine pK eS fun l hl=>?_;have ej:(j:Int)-1=((j-1:Nat):Int):=by omega
   rw[ej,BU _ (by omega),show j - (j-1)=1 by omega,← List.map_drop,← N7,Ae,Md (by omega)];exact q l _ (s1.laid hl) (s1.free hl) ag
 . rw[L4 hj] at q;rw[LR (show ¬ (0:Int) < (j:Int) by omega)];refine iteF ?_;refine⟨aQ (by decide),fun l hl=>?_⟩;exact q l _ (s1.laid hl) (s1.free hl) ag
def rm(K:Frag)(c:RCl RK):Sp:=fun vs H Q _=>∃(k:RK) (r p:Addr) (ws:List (List Nat)) (cs:List Int) (n m z:Int),vs=[.ref r,.int z]/\IsRule H c k r p ws cs n m/\cs.length<=63/\z∈cs/\∀ l H',Same H H'->H l=none->H' l=some (.lst ((behL cs z).map V.int))->Q (.ref l) H'
def rp(K:Frag)(c:RCl RK):TS:=
 (tSeq (tAsg (aF c c.ok "spots" (dX K c) (tVar 0) tNil) (gName 2))
  (tSeq (tAsg (tBM K "list" (iU K) (tVar 2) (tCons (tVar 1) tNil)) (gName 3))
  (tRet (tSl j3 (tVar 2) (tPart (tOp cAdd (tVar 3) (tC (.int 1)))) (tPart (tOp cAdd (tVar 3) (tC (.int 2))))))))
theorem DZ(h:rm K c vs H Q E):rp K c (eD9 Q) (start ["rule","cell","spots","place"] vs) H:=by
 obtain⟨k,r,p,ws,cs,n,m,z,rfl,x,hn,hz,q⟩:=h;obtain⟨dx,W,C,h1,h2,h3⟩:=x.ex;show rp K c _ [some (.ref r),some (.int z),none,none] H;unfold rp;rw[aD,bI];refine methE (k:=k) rfl x.ok h1 (by rfl) ?_;symm;refine⟨r,p,ws,cs,n,m,rfl,x,fun S hS=>?_⟩;obtain⟨H1,z9,s1,eS⟩:=aU (.lst (cs.map V.int)) hS;rw[z9];symm;refine⟨bd eS,?_⟩;refine j6 eS hz (by omega) ?_;have ei:(cs.findIdx (· ==z))=jl cs z:=rfl;rw[ei];unfold behL at q;generalize jl cs z=j at*;symm;refine pK eS fun l hl=>?_;have ej:(j:Int)+1=((j+1:Nat):Int):=by omega
 have ek:(j:Int)+2=((j+2:Nat):Int):=by omega
 rw[ej,ek,BU _ (by omega),show j+2 - (j+1)=1 by omega,← List.map_drop,← N7,Ae];exact q l _ (s1.laid hl) (s1.free hl) ag
def nogB(s m:Int):Bool:=(sgL m).all fun x=>decide (s<=x)
def nolB(s m:Int):Bool:=(sgL m).all fun x=>decide (x<=s)
theorem FC(m0:0<=m)(m1:m<64):(sgL m).length<=6:=by
 rw[(gS m0 m1).2,LM];exact L9 _ _
def iq(K:Frag):Sp:=fun vs H Q _=>∃ s m:Int,vs=[.int s,.int m]/\0<=m/\m<64/\∀ H',Same H H'->Q (.bl (nogB s m)) H'
def iu(K:Frag):TS:=
 (tRet (tCB kAll (tCons (tComp [none,none,some 0] (iList K (tCall (bA K) [] E0 (tCons (tVar 1) tNil))) (gName 1) tTrue (tOp (cCmp fun i j=>decide (i<=j)) (tVar 2) (tVar 1))) tNil)))
theorem ux(h:iq K vs H Q E):iu K (eD9 Q) (start ["sign","mask"] vs) H:=by
 obtain⟨s,m,rfl,m0,m1,q⟩:=h;have sb:=(gS m0 m1).1;have sl:=FC m0 m1;show iu K _ [some (.int s),some (.int m)] H;unfold iu;symm;refine⟨m,rfl,by omega,fun l H1 s1 hl el=>?_⟩;refine⟨l,rfl,⟨_,Mc el⟩,?_⟩;refine kA (xs:=sgL m) (fun x=>decide (s<=x)) (by omega) (Mc el) ?_ ?_
 . intro x H2 Q2 hx s2 k2;show tOp _ _ _ [none,some (.int x),some (.int s)] H2 Q2;symm;exact k2 _ (LQ _)
 . intro l2 H2 hl2 s2 el2;symm;refine lz el2 ?_;rw[NP];exact q _ (s1.trans s2)
def kT(K:Frag):Sp:=fun vs H Q _=>∃ s m:Int,vs=[.int s,.int m]/\0<=m/\m<64/\∀ H',Same H H'->Q (.bl (nolB s m)) H'
def kU(K:Frag):TS:=
 (tRet (tCB kAll (tCons (tComp [none,none,some 0] (iList K (tCall (bA K) [] E0 (tCons (tVar 1) tNil))) (gName 1) tTrue (tOp (cCmp fun i j=>decide (j<=i)) (tVar 2) (tVar 1))) tNil)))
theorem yS(h:kT K vs H Q E):kU K (eD9 Q) (start ["sign","mask"] vs) H:=by
 obtain⟨s,m,rfl,m0,m1,q⟩:=h;have sb:=(gS m0 m1).1;have sl:=FC m0 m1;show kU K _ [some (.int s),some (.int m)] H;unfold kU;symm;refine⟨m,rfl,by omega,fun l H1 s1 hl el=>?_⟩;refine⟨l,rfl,⟨_,Mc el⟩,?_⟩;refine kA (xs:=sgL m) (fun x=>decide (x<=s)) (by omega) (Mc el) ?_ ?_
 . intro x H2 Q2 hx s2 k2;show tOp _ _ _ [none,some (.int x),some (.int s)] H2 Q2;symm;exact k2 _ (LQ _)
 . intro l2 H2 hl2 s2 el2;symm;refine lz el2 ?_;rw[NP];exact q _ (s1.trans s2)
def stpB(cs LA:List Int)(z s:Int):Bool:=((ahdL cs z).any fun o=>nogB s (LA.getD o.toNat 0))||((behL cs z).any fun o=>nolB s (LA.getD o.toNat 0))
def stepB(cs LA:List Int)(z s:Int)(ms:List Int):Bool:=decide (ms=[])&&stpB cs LA z s
def jo(K:Frag)(c:RCl RK):Sp:=fun vs H Q _=>∃(k:RK) (r p A M:Addr) (ws:List (List Nat)) (cs LA ms:List Int) (n m z s:Int),vs=[.ref r,.ref A,.int z,.int s,.ref M]/\IsRule H c k r p ws cs n m/\aK cs LA.length/\z∈cs/\(∀ m∈LA,0<=m/\m<64)/\H A=some (.lst (LA.map V.int))/\H M=some (.lst (ms.map V.int))/\∀ H',Same H H'->Q (.bl (stepB cs LA z s ms)) H'
def gh(K:Frag)(c:RCl RK):TS:=
 (tSeq (tIfS (tB (tCB kAny (tCons (tComp [none,none,some 1,some 3] (iList K (tCall (nY K c) [] E0 (tCons (tVar 0) (tCons (tVar 2) tNil)))) (gName 1) tTrue (tCall (iq K) [] E0 (tCons (tVar 3) (tCons (tOp cIx (tVar 2) (tVar 1)) tNil)))) tNil))) (tRet (tC (.bl true))) tNext)
  (tRet (tCB kAny (tCons (tComp [none,none,some 1,some 3] (iList K (tCall (rm K c) [] E0 (tCons (tVar 0) (tCons (tVar 2) tNil)))) (gName 1) tTrue (tCall (kT K) [] E0 (tCons (tVar 3) (tCons (tOp cIx (tVar 2) (tVar 1)) tNil)))) tNil))))
def jp(K:Frag)(c:RCl RK):TS:=
 (tSeq (tIfS (tTest (tOp (cNe K) (tVar 4) (tLst tNil))) (tRet (tC (.bl false))) tNext)
  (gh K c))
theorem rq {k:RK} {r p A M:Addr} {ws:List (List Nat)} {n s:Int} (x:IsRule H c k r p ws cs n m) (hC:aK cs LA.length) (hz:z∈cs) (mm:∀ m∈LA,0<=m/\m<64) (hA:H A=some (.lst (LA.map V.int)))
  (q:∀ H',Same H H'->Q (.bl (stpB cs LA z s)) H'):
  gh K c (eD9 Q) [some (.ref r),some (.ref A),some (.int z),some (.int s),some (.ref M)] H:=by
 have la:(ahdL cs z).length<=1:=by unfold ahdL;split <;> simp
 have lb:(behL cs z).length<=1:=by unfold behL;split <;> simp
 unfold gh;rw[aD,ax];symm;refine⟨k,r,p,ws,cs,n,m,z,rfl,x,hC.1,hz,fun l H1 s1 hl el=>?_⟩;refine⟨l,rfl,⟨_,Mc el⟩,?_⟩;refine kA (xs:=ahdL cs z) (fun o=>nogB s (LA.getD o.toNat 0)) (by omega) (Mc el) ?_ ?_
 . intro o H2 Q2 ho s2 k2;have ci:=hC.2 o (Gb hz ho);have mi:=vL mm ci.1 ci.2;show tCall _ _ _ _ [none,some (.int o),some (.ref A),some (.int s)] H2 Q2;symm;refine ixI ((s1.trans s2) _ _ hA) ci.1 ci.2 ?_;exact⟨s,_,rfl,mi.1,mi.2,k2⟩
 . intro l2 H2 hl2 s2 el2;symm;refine Co el2 ?_;have s12:=s1.trans s2;rw[PU];unfold stpB at q;have ea:(ahdL cs z).any (id ∘ fun o=>nogB s (LA.getD o.toNat 0))=(ahdL cs z).any fun o=>nogB s (LA.getD o.toNat 0):=rfl;rw[ea]
   cases hb:(ahdL cs z).any fun o=>nogB s (LA.getD o.toNat 0) with
   | true=>
    rw[hb,Oh] at q;refine⟨true,rfl,iteT ?_⟩;symm;exact q _ s12
   | false=>
    rw[hb,Nf] at q;refine⟨false,rfl,iteF ?_⟩;symm;refine⟨k,r,p,ws,cs,n,m,z,rfl,x.same s12,hC.1,hz,fun l3 H3 s3 hl3 el3=>?_⟩;refine⟨l3,rfl,⟨_,Mc el3⟩,?_⟩;refine kA (xs:=behL cs z) (fun o=>nolB s (LA.getD o.toNat 0)) (by omega) (Mc el3) ?_ ?_
    . intro o H4 Q4 ho s4 k4;have ci:=hC.2 o (Gc ho);have mi:=vL mm ci.1 ci.2;show tCall _ _ _ _ [none,some (.int o),some (.ref A),some (.int s)] H4 Q4;symm;refine ixI (((s12.trans s3).trans s4) _ _ hA) ci.1 ci.2 ?_;exact⟨s,_,rfl,mi.1,mi.2,k4⟩
    . intro l4 H4 hl4 s4 el4;symm;refine Co el4 ?_;rw[PU];exact q _ ((s12.trans s3).trans s4)
theorem vN(h:jo K c vs H Q E):jp K c (eD9 Q) (start ["rule","masks","cell","sign","more"] vs) H:=by
 obtain⟨k,r,p,A,M,ws,cs,LA,ms,n,m,z,s,rfl,x,hC,hz,mm,hA,hM,q⟩:=h;show jp K c _ [some (.ref r),some (.ref A),some (.int z),some (.int s),some (.ref M)] H;unfold jp;rw[aD,ax];symm;refine⟨aQ (by decide),fun Z hZ=>?_⟩;obtain⟨H1,z9,s1,eZ⟩:∃ z,upd H Z (.lst [])=z/\Same H z/\z Z=some (.lst (([]:List Int).map V.int)):=aU _ hZ;rw[z9];refine pJ (s1 _ _ hM) eZ ?_;unfold stepB at q
 cases hb:decide (ms=[]) with
 | false=>
  rw[hb,Mb] at q;refine⟨true,rfl,?_⟩;symm;exact q _ s1
 | true=>
  rw[hb,Mf] at q;refine⟨false,rfl,?_⟩;symm;exact rq (x.same s1) hC hz mm (s1 _ _ hA) fun H' s2=>q H' (s1.trans s2)
section
variable{X:Cx}
def minI(ns:List Int):Int:=ns.getD (argBest (fun i j=>decide (ns.getD i 0<ns.getD j 0)) (ns.length-1)) 0
def maxI(ns:List Int):Int:=ns.getD (argBest (fun i j=>decide (ns.getD i 0>ns.getD j 0)) (ns.length-1)) 0
end
theorem ql(xs:List Int):xs.filter (fun _=>true)=xs:=OO.mpr fun _ _=>rfl
def loM(m:Int):Int:=(sgL m).getD 0 0
def hiM(m:Int):Int:=(sgL m).getD ((sgL m).length-1) 0
theorem Hq:((List.range 64).all fun m=>decide (m=0)||(decide (0 < (sgL (m:Int)).length/\(sgL (m:Int)).length<=6)&&(decide (minI (sgL (m:Int))=loM (m:Int)/\maxI (sgL (m:Int))=hiM (m:Int))&&decide ((1<=loM (m:Int)/\loM (m:Int)<=6)/\1<=hiM (m:Int)/\hiM (m:Int)<=6))))=true:=by decide+kernel
theorem FD{m:Int}(m0:0<=m)(m1:m<64)(hm:m≠0):(0 < (sgL m).length/\(sgL m).length<=6)/\(minI (sgL m)=loM m/\maxI (sgL m)=hiM m)/\(1<=loM m/\loM m<=6)/\1<=hiM m/\hiM m<=6:=by
 have t:=L3.mp Hq m.toNat (LZ.mpr (by omega));have e1:((m.toNat:Nat):Int)=m:=by omega
 rw[e1,Px,LO,LT,LT,LO,LO,LO] at t;rcases t with t | t
 . omega
 . exact t
theorem Hr:sgL 0=[]:=by decide+kernel
theorem Cw{xs:List Int}(h:0<xs.length):atI (xs.map V.int) (-1)=some (V.int (xs.getD (xs.length-1) 0)):=by
 unfold atI ixN;rw[LM,L4 (by decide),Md (by omega)];show(xs.map V.int)[((xs.length:Int)+ -1).toNat]? =_;rw[show((xs.length:Int)+ -1).toNat=xs.length-1 by omega,LW,LN (by omega),List.getD,LN (by omega)];rfl
def smB(os:List Int)(n s:Int):Bool:=decide (0∈os)||(decide (n<s+(os.map loM).sum)||decide (s+(os.map hiM).sum<n))
def sumB(cs:List Int)(n:Int)(LA:List Int)(z s:Int)(ms:List Int):Bool:=decide (ms=[])&&smB (sgAt LA (othL cs z)) n s
def gu(K:Frag):Sp:=fun vs H Q _=>∃(A:Addr) (ms:List Int),vs=[.ref A]/\H A=some (.lst (ms.map V.int))/\Q (.bl (decide (0∈ms))) H
def p5(K:Frag):TS:=
 (tRet (tOp (cIn K false) (tC (.int 0)) (tVar 0)))
variable{K:Frag}{vs:List V}{H:Hp}{Q:VK}{E:XK}
theorem Cz(h:gu K vs H Q E):p5 K (eD9 Q) (start ["masks"] vs) H:=by
 obtain⟨A,ms,rfl,hA,q⟩:=h;show p5 K _ [some (.ref A)] H;unfold p5;symm;rw[qT hA];exact q
variable{cs:List Int}
theorem Ij{LA:List Int}{z:Int}(hC:aK cs LA.length)(mm:∀ m∈LA,0<=m/\m<64):∀ m∈sgAt LA (othL cs z),0<=m/\m<64:=fun m hm=>by
 unfold sgAt at hm;obtain⟨x,hx,rfl⟩:=L1.mp hm;have ci:=hC.2 x (LS.mp hx).1;exact vL mm ci.1 ci.2
def j7(K:Frag)(c:RCl RK):Sp:=fun vs H Q _=>∃(k:RK) (r p A M:Addr) (ws:List (List Nat)) (cs LA ms:List Int) (n m z s:Int),vs=[.ref r,.ref A,.int z,.int s,.ref M]/\IsRule H c k r p ws cs n m/\aK cs LA.length/\(∀ m∈LA,0<=m/\m<64)/\H A=some (.lst (LA.map V.int))/\H M=some (.lst (ms.map V.int))/\∀ H',Same H H'->Q (.bl (sumB cs n LA z s ms)) H'
def gF(K:Frag)(c:RCl RK):TS:=
 (tSeq (tAsg (tOp cAdd (tVar 3) (tCB kSum (tCons (tComp [none,none] (iList K (tVar 5)) (gName 1) tTrue (tOp cIx (tCall (bA K) [] E0 (tCons (tVar 1) tNil)) (tC (.int 0)))) tNil))) (gName 6))
  (tSeq (tAsg (tOp cAdd (tVar 3) (tCB kSum (tCons (tComp [none,none] (iList K (tVar 5)) (gName 1) tTrue (tOp cIx (tCall (bA K) [] E0 (tCons (tVar 1) tNil)) (tUn (rU fun i=>.int (-i)) (tC (.int 1))))) tNil))) (gName 7))
  (tRet (tOrV (tOp (cCmp fun i j=>decide (j<i)) (tVar 6) (aF c c.ok "number" (iJ K c) (tVar 0) tNil)) (tOp (cCmp fun i j=>decide (i<j)) (tVar 7) (aF c c.ok "number" (iJ K c) (tVar 0) tNil))))))
def gG(K:Frag)(c:RCl RK):TS:=
 (tSeq (tAsg (tCall (bW K) [] E0 (tCons (tVar 1) (tCons (tCall (bE K c) [] E0 (tCons (tVar 0) (tCons (tVar 2) tNil))) tNil))) (gName 5))
  (tSeq (tIfS (tB (tCall (gu K) [] E0 (tCons (tVar 5) tNil))) (tRet (tC (.bl true))) tNext)
  (gF K c)))
def j8(K:Frag)(c:RCl RK):TS:=
 (tSeq (tIfS (tTest (tOp (cNe K) (tVar 4) (tLst tNil))) (tRet (tC (.bl false))) tNext)
  (gG K c))
variable{c:RCl RK}
theorem tz {k:RK} {r p A M B:Addr} {ws:List (List Nat)} {os:List Int} {n m z s:Int} (x:IsRule H c k r p ws cs n m) (ol:os.length<=63) (om:∀ m∈os,0<=m/\m<64) (on:¬ 0∈os) (eB:H B=some (.lst (os.map V.int)))
  (q:∀ H',Same H H'->Q (.bl (decide (n<s+(os.map loM).sum)||decide (s+(os.map hiM).sum<n))) H'):
  gF K c (eD9 Q) [some (.ref r),some (.ref A),some (.int z),some (.int s),some (.ref M),some (.ref B),none,none] H:=by
 have lh:∀ y∈os,_:=fun y hy=>FD (om y hy).1 (om y hy).2 (fun e=>on (e ▸ hy));unfold gF;symm;refine⟨⟨_,Mc eB⟩,?_⟩;refine bf (xs:=os) (fun _=>true) loM (by omega) (Mc eB) ?_ ?_ ?_
 . intro y H1 R hy s1 k1;exact k1 _ (LQ _)
 . intro y H1 Q1 hy hb s1 k1;have hl:=lh y hy;show tOp cIx _ _ [none,some (.int y)] H1 Q1;symm;refine⟨y,rfl,by have:=(gS (om y hy).1 (om y hy).2);have:=this.1;omega,fun l H2 s2 hl2 el=>?_⟩;refine ixI el (by decide) (by omega) ?_;exact k1 _ s2
 . intro l1 H1 hl1 s1 el1;rw[ql] at el1;symm;refine Cm el1 (fun y hy=>by obtain⟨z,hz,rfl⟩:=L1.mp hy;have:=(lh z hz).2.2.1;omega) (by rw[LM];omega) ?_;symm;refine⟨⟨_,Mc (s1 _ _ eB)⟩,?_⟩;refine bf (xs:=os) (fun _=>true) hiM (by omega) (Mc (s1 _ _ eB)) ?_ ?_ ?_
   . intro y H2 R hy s2 k2;exact k2 _ (LQ _)
   . intro y H2 Q2 hy hb s2 k2;have hl:=lh y hy;show tOp cIx _ _ [none,some (.int y)] H2 Q2;symm;refine⟨y,rfl,by have:=(gS (om y hy).1 (om y hy).2);have:=this.1;omega,fun l H3 s3 hl3 el=>?_⟩;refine ixL el (Cw hl.1.1) ?_;exact k2 _ s3
   . intro l2 H2 hl2 s2 el2;rw[ql] at el2;symm;refine Cm el2 (fun y hy=>by obtain⟨z,hz,rfl⟩:=L1.mp hy;have:=(lh z hz).2.2.2;omega) (by rw[LM];omega) ?_;symm;have s12:=s1.trans s2;have x2:=x.same s12;obtain⟨dx,W,C,h1,h2,h3⟩:=x2.ex;refine methE (k:=k) rfl x2.ok h1 (by rfl) ?_;symm;refine⟨r,p,ws,cs,n,m,rfl,x2,?_⟩;symm;by_cases hb:n<s+(os.map loM).sum
     . rw[LU hb,Oh] at q;rw[LU hb];symm;exact q _ s12
     . rw[LR hb,Nf] at q;rw[LR hb];symm;refine methE (k:=k) rfl x2.ok h1 (by rfl) ?_;symm;refine⟨r,p,ws,cs,n,m,rfl,x2,?_⟩;symm;exact q _ s12
theorem tD {k:RK} {r p A M:Addr} {ws:List (List Nat)} {LA:List Int} {n m z s:Int} (x:IsRule H c k r p ws cs n m) (hC:aK cs LA.length) (mm:∀ m∈LA,0<=m/\m<64) (hA:H A=some (.lst (LA.map V.int)))
  (q:∀ H',Same H H'->Q (.bl (smB (sgAt LA (othL cs z)) n s)) H'):
  gG K c (eD9 Q) [some (.ref r),some (.ref A),some (.int z),some (.int s),some (.ref M),none,none,none] H:=by
 have hC2:aK (othL cs z) LA.length:=⟨L8 (L9 _ _) hC.1,fun y hy=>hC.2 y (LS.mp hy).1⟩;have ol:(sgAt LA (othL cs z)).length<=63:=by unfold sgAt;rw[LM];exact hC2.1
 have om:=Ij (z:=z) hC mm;unfold gG;symm;refine⟨k,r,p,ws,cs,n,m,z,rfl,x,hC.1,fun O H1 s1 hO eO=>?_⟩;symm;refine⟨A,O,LA,othL cs z,rfl,s1 _ _ hA,eO,hC2,fun B H2 s2 hB eB=>?_⟩;have s12:=s1.trans s2;generalize sgAt LA (othL cs z)=os at*;symm;rw[ax];symm;refine⟨B,os,rfl,eB,?_⟩;unfold smB at q;by_cases h0:0∈os
 . rw[LU h0,Oh] at q;rw[LU h0];refine⟨true,rfl,?_⟩;symm;exact q _ s12
 . rw[LR h0,Nf] at q;rw[LR h0];refine⟨false,rfl,?_⟩;symm;exact tz (x.same s12) ol om h0 eB fun H' s3=>q H' (s12.trans s3)
theorem xt(h:j7 K c vs H Q E):j8 K c (eD9 Q) (start ["rule","masks","cell","sign","more","some","least","greatest"] vs) H:=by
 obtain⟨k,r,p,A,M,ws,cs,LA,ms,n,m,z,s,rfl,x,hC,mm,hA,hM,q⟩:=h;show j8 K c _ [some (.ref r),some (.ref A),some (.int z),some (.int s),some (.ref M),none,none,none] H;unfold j8;rw[aD,ax];symm;refine⟨aQ (by decide),fun Z hZ=>?_⟩;obtain⟨H1,z9,s1,eZ⟩:∃ z,upd H Z (.lst [])=z/\Same H z/\z Z=some (.lst (([]:List Int).map V.int)):=aU _ hZ;rw[z9];refine pJ (s1 _ _ hM) eZ ?_;unfold sumB at q
 cases hb:decide (ms=[]) with
 | false=>
  rw[hb,Mb] at q;refine⟨true,rfl,?_⟩;symm;exact q _ s1
 | true=>
  rw[hb,Mf] at q;refine⟨false,rfl,?_⟩;symm;exact tD (x.same s1) hC mm (s1 _ _ hA) fun H' s2=>q H' (s1.trans s2)
theorem Ea(t:TK):decide (tkC t=[115,117,109])=decide (t=.sum):=by cases t <;> decide
theorem yT(xs:List Int):PyData.eqv (.list (xs.map PyData.int)) (.list (xs.map PyData.int))=true:=by
 rw[PyData.eqv,uh];simp
theorem xu(n:Int):PyData.eqv (.int n) (.int n)=true:=by
 rw[PyData.eqv];simp
theorem Eb {H1:Hp} {n:Nat} {σ0:St} {te:TE} {fin:Addr->Hp->Prop} {h w g:Int} (F:FlOk h w g) (hn:n<=12) (hk:∀ k,k≠.Rule->c.ok k=true)
  (he:∀ i H Q,i<n->Same H1 H->(∀(r:RR) (H':Hp),Same H H'->r.Ok h w g->Q (.str r.txt) H')->te (σ0.set 1 (some (.int (0+(i:Int))))) H Q)
  (hd:∀ l LC H,H1 l=none->Same H1 H->H l=some (.lst ((LC.map RR.txt).map V.str))->LC.length=n->bn c h w g LC->fin l H):
  CompR (Itr 0 n) (gName 1) tTrue te fin σ0 H1:=by
 refine pI (fun l i σ H=>(σ=σ0\/∃ cv,σ=σ0.set 1 cv)/\Same H1 H/\∃ LC:List RR,H l=some (.lst ((LC.map RR.txt).map V.str))/\LC.length=i/\∀ r∈LC,r.Ok h w g) (fun l hl=>⟨.inl rfl,(LQ H1).laid hl,[],by rw[ag];rfl,rfl,fun _ h=>nomatch h⟩) ?_ (fun l σ H hl ⟨_,s1,LC,el,hl2,hP⟩=>hd l LC H hl s1 el hl2 ⟨F,by omega,hP,fun r hr=>hk _ (hP r hr).k0⟩);rintro l i σ H hl hi ⟨hσ,s1,LC,el,hl2,hP⟩;rw[a7]
 have e:σ.set 1 (some (.int (0+(i:Int))))=σ0.set 1 (some (.int (0+(i:Int)))):=by
  rcases hσ with rfl | ⟨cv,rfl⟩
  . rfl
  . exact Nr ..
 rw[e,cC,Md rfl];refine he i H _ hi s1 fun r H2 s2 hr=>⟨_,s2 _ _ el,by simp;exact aE (by omega),.inr ⟨_,rfl⟩,(s1.trans s2).own hl,LC++[r],by rw[ag];simp,by simp[hl2],fun z hz=>?_⟩;rcases Ml.mp hz with hz | hz
 . exact hP z hz
 . rw[L0.mp hz];exact hr
def rz(K:Frag)(c:RCl RK):Sp:=dt K c .Sum
def me(K:Frag)(c:RCl RK):TS:=
 (tRet (tOp (cEq K) (tCB kSum (tCons (aF c c.ok "signs_at" (e8 K c) (tVar 0) (tCons (tVar 1) tNil)) tNil)) (tFldK c (tVar 0) "amount")))
theorem Ht{xs:List Int}{n:Nat}(hC:aK cs n)(hn:n=xs.length)(hx:∀ x∈xs,0<=x/\x<=1000):∀ x∈sgAt xs cs,0<=x/\x<=1000:=fun x hm=>by
 unfold sgAt at hm;obtain⟨c,hc,rfl⟩:=L1.mp hm;have:=hC.2 c hc;have hl:c.toNat<xs.length:=by omega
 rw[List.getD,LN hl];exact hx _ (Mp hl)
theorem Af(h:rz K c vs H Q E):me K c (eD9 Q) (start ["self","filling"] vs) H:=by
 obtain⟨r,p,f,ws,cs,xs,n,m,h,w,g,rfl,x,ha,F,hf,hC,hx,q⟩:=h;obtain⟨dx,W,C,h1,h2,h3⟩:=x.ex;show me K c _ [some (.ref r),some (.ref f)] H;unfold me;symm;refine methE rfl x.ok h1 (by rfl) ?_;symm;refine⟨r,p,f,ws,cs,xs,n,m,rfl,x,hf,hC,fun l H1 s1 hl el=>?_⟩;have LJ:(sgAt xs cs).length<=100:=by unfold sgAt;rw[LM];exact L8 hC.1 (by decide)
 symm;refine Cm el (fun y hy=>by have:=Ht hC rfl hx y hy;omega) (by omega) ?_;refine fldE rfl x.ok (s1 _ _ h1) (v:=.int n) (by rfl) ?_;symm;exact q _ s1
theorem BV:∀ l:List Int,risB l=(List.range (l.length-1)).all fun i=>decide (l.getD i 0<l.getD (i+1) 0)
 | []=>rfl
 | [x]=>rfl
 | x::y::r=>by
  have ih:=BV (y::r);show(decide (x<y)&&risB (y::r))=(List.range (r.length+1)).all fun i=>decide ((x::y::r).getD i 0 < (x::y::r).getD (i+1) 0);rw[ih,List.range_succ_eq_map,OB,NP];rfl
def mV(K:Frag)(c:RCl RK):Sp:=dt K c .Rising
def jq(K:Frag)(c:RCl RK):TS:=
 (tSeq (tAsg (aF c c.ok "signs_at" (e8 K c) (tVar 0) (tCons (tVar 1) tNil)) (gName 2))
  (tRet (tCB kAll (tCons (tComp [none,none,some 2] (dP (tCons (tOp cSub (tCB kLen (tCons (tVar 2) tNil)) (tC (.int 1))) tNil)) (gName 1) tTrue (tOp (cCmp fun i j=>decide (i<j)) (tOp cIx (tVar 2) (tVar 1)) (tOp cIx (tVar 2) (tOp cAdd (tVar 1) (tC (.int 1)))))) tNil))))
theorem vO(h:mV K c vs H Q E):jq K c (eD9 Q) (start ["self","filling","signs"] vs) H:=by
 obtain⟨r,p,f,ws,cs,xs,n,m,h,w,g,rfl,x,ha,F,hf,hC,hx,q⟩:=h;obtain⟨dx,W,C,h1,h2,h3⟩:=x.ex;show jq K c _ [some (.ref r),some (.ref f),none] H;unfold jq;symm;refine methE rfl x.ok h1 (by rfl) ?_;symm;refine⟨r,p,f,ws,cs,xs,n,m,rfl,x,hf,hC,fun l H1 s1 hl el=>?_⟩;have LJ:(sgAt xs cs).length<=100:=by unfold sgAt;rw[LM];exact L8 hC.1 (by decide)
 have q1:∀ H',Same H H'->Q (.bl (risB (sgAt xs cs))) H':=q;generalize sgAt xs cs=sg at*;symm;rw[bc el,LM];symm;refine⟨_,rfl,by omega,by omega,?_⟩;have en:((sg.length:Int)-1).toNat=sg.length-1:=by omega
 rw[en];refine tS (fun _=>true) (fun i=>.bl (decide (sg.getD i 0<sg.getD (i+1) 0))) (by omega) ?_ ?_ ?_
 . intro i H2 R hi s2 k2;exact k2 _ (LQ _)
 . intro i H2 Q2 hi hb s2 k2;show tOp _ _ _ [none,some (.int (0+(i:Int))),some (.ref l)] H2 Q2;rw[Nl];symm;refine ixI (s2 _ _ el) (by omega) (by omega) ?_;refine ixI (s2 _ _ el) (by omega) (by omega) ?_;symm;have e1:(i:Int).toNat=i:=by omega
   have e2:((i:Int)+1).toNat=i+1:=by omega
   rw[e1,e2];exact k2 _ (LQ _)
 . intro l2 H2 hl2 s2 el2;rw[a9] at el2;refine lz (bs:=(List.range (sg.length-1)).map fun i=>decide (sg.getD i 0<sg.getD (i+1) 0)) (by rw[el2,Mv];rfl) ?_
   have e:((List.range (sg.length-1)).map fun i=>decide (sg.getD i 0<sg.getD (i+1) 0)).all id=risB sg:=by
    rw[BV,NP];rfl
   rw[e];exact q1 _ (s1.trans s2)
theorem Fh(l:List Int)(x:Int):seenN (l++[x])=if (seenN l).1<x then(x,(seenN l).2+1) else seenN l:=by
 unfold seenN;rw[Om];rfl
def qm(K:Frag)(c:RCl RK):Sp:=dt K c .Seen
def kW(K:Frag)(c:RCl RK):TS:=
 (tSeq (tAsg (tC (.int 0)) (gName 2))
  (tSeq (tAsg (tC (.int 0)) (gName 3))
  (tSeq (tFor (iList K (aF c c.ok "signs_at" (e8 K c) (tVar 0) (tCons (tVar 1) tNil))) (gName 4)
  (tIfS (tTest (tOp (cCmp fun i j=>decide (j<i)) (tVar 4) (tVar 2))) (tSeq (tAsg (tVar 4) (gName 2))
  (tAsg (tOp cAdd (tVar 3) (tC (.int 1))) (gName 3))) tNext))
  (tRet (tOp (cEq K) (tVar 3) (tFldK c (tVar 0) "amount"))))))
theorem yU(h:qm K c vs H Q E):kW K c (eD9 Q) (start ["self","filling","greatest","seen","sign"] vs) H:=by
 obtain⟨r,p,f,ws,cs,xs,n,m,h,w,g,rfl,x,ha,F,hf,hC,hx,q⟩:=h;obtain⟨dx,W,C,h1,h2,h3⟩:=x.ex;show kW K c _ [some (.ref r),some (.ref f),none,none,none] H;unfold kW;symm;refine methE rfl x.ok h1 (by rfl) ?_;symm;refine⟨r,p,f,ws,cs,xs,n,m,rfl,x,hf,hC,fun l H1 s1 hl el=>?_⟩;have q1:∀ H',Same H H'->Q (.bl (decide ((seenN (sgAt xs cs)).2=n))) H':=q;generalize sgAt xs cs=sg at*;symm;refine⟨⟨_,Mc el⟩,bq (K:=K) (xs:=sg.map V.int) (fun i σ H'=>∃ cv:Option V,σ=[some (.ref r),some (.ref f),some (.int (seenN (sg.take i)).1),some (.int (seenN (sg.take i)).2),cv]/\H'=H1) ⟨none,rfl,rfl⟩ (fun i σ H' _ ⟨_,_,e⟩=>by rw[e];exact Mc el) ?_ ?_⟩
 . rintro i y σ H2 hy ⟨cv,rfl,rfl⟩;rw[LW] at hy
   cases e:sg[i]? with
   | none=>rw[e] at hy;cases hy
   | some z=>
    rw[e] at hy;cases hy;have et:sg.take (i+1)=sg.take i++[z]:=by rw[O0,e];rfl
    have ea:=Fh (sg.take i) z;rw[← et] at ea;symm;rw[ax];symm;by_cases hz:(seenN (sg.take i)).1<z
    . rw[LU hz];rw[Md hz] at ea;refine iteT ?_;rw[ea];exact⟨_,rfl,by first | trivial | rfl⟩
    . rw[LR hz];rw[L4 hz] at ea;refine iteF ?_;rw[ea];exact⟨_,rfl,by first | trivial | rfl⟩
 . rintro σ H2 ⟨cv,rfl,rfl⟩;rw[LM,M6];symm;refine fldE rfl x.ok (s1 _ _ h1) (v:=.int n) (by rfl) ?_;symm;exact q1 _ s1
def oE(K:Frag)(c:RCl RK):Sp:=fun vs H Q E=>∃ k,iL K c k vs H Q E
def j9(K:Frag)(c:RCl RK):TS:=
 (tRet (tComp [none,none,some 1,some 0] (iTup K (tFldK c (tVar 0) "cells")) (gName 1) (tTest (tOp (cEq K) (tOp cIx (tVar 2) (tVar 1)) (tFldK c (tVar 3) "mark"))) (tVar 1)))
theorem xv(h:oE K c vs H Q E):j9 K c (eD9 Q) (start ["self","filling"] vs) H:=by
 obtain⟨k,r,p,f,ws,cs,xs,n,m,rfl,x,hf,⟨hn,hc⟩,q⟩:=h;obtain⟨dx,W,C,h1,h2,h3⟩:=x.ex;show j9 K c _ [some (.ref r),some (.ref f)] H;unfold j9;rw[cR,xi];refine fldE rfl x.ok h1 (v:=.ref C) (by rfl) ?_;refine⟨C,rfl,⟨_,PM h3⟩,?_⟩;refine yn (xs:=cs) (fun c=>decide (xs.getD c.toNat 0=m)) (fun c=>c) (by omega) h3 ?_ ?_ ?_
 . intro z H1 R hz s1 k1;show tTest _ [none,some (.int z),some (.ref f),some (.ref r)] H1 R;symm;have:=hc z hz;refine ixI (s1 _ _ hf) this.1 (by omega) ?_;refine fldE rfl x.ok (s1 _ _ h1) (v:=.int m) (by rfl) ?_;symm;exact k1 _ (LQ _)
 . intro z H1 Q1 hz hb s1 k1;exact k1 _ (LQ _)
 . intro l H1 hl s1 el;rw[Nh] at el;exact q l H1 s1 hl el
def oF(K:Frag)(c:RCl RK):Sp:=dt K c .Count
def ka(K:Frag)(c:RCl RK):TS:=
 (tRet (tOp (cEq K) (tCB kLen (tCons (aF c c.ok "marked" (iL K c) (tVar 0) (tCons (tVar 1) tNil)) tNil)) (tFldK c (tVar 0) "amount")))
theorem xw(h:oF K c vs H Q E):ka K c (eD9 Q) (start ["self","filling"] vs) H:=by
 obtain⟨r,p,f,ws,cs,xs,n,m,h,w,g,rfl,x,ha,F,hf,hC,hx,q⟩:=h;obtain⟨dx,W,C,h1,h2,h3⟩:=x.ex;show ka K c _ [some (.ref r),some (.ref f)] H;unfold ka;symm;refine methE rfl x.ok h1 (by rfl) ?_;symm;refine⟨r,p,f,ws,cs,xs,n,m,rfl,x,hf,hC,fun l H1 s1 hl el=>?_⟩;symm;rw[bc el,LM];refine fldE rfl x.ok (s1 _ _ h1) (v:=.int n) (by rfl) ?_;symm;exact q _ s1
theorem mem_rngL{j c:Int}:c∈rngL 0 j↔0<=c/\c<j:=by
 unfold rngL;rw[L1];constructor
 . rintro⟨k,hk,rfl⟩;have:=LZ.mp hk;omega
 . rintro⟨h0,h1⟩;exact⟨c.toNat,LZ.mpr (by omega),by omega⟩
def mf(K:Frag):Sp:=fun vs H Q _=>∃(S M:Addr) (sq ms:List Int),vs=[.ref S,.ref M]/\H S=some (.lst (sq.map V.int))/\H M=some (.lst (ms.map V.int))/\sq.length<=100/\∀ H',Same H H'->Q (.bl (sq.all fun c=>decide (c∈ms))) H'
def mh(K:Frag):TS:=
 (tRet (tCB kAll (tCons (tComp [none,none,some 1] (iList K (tVar 0)) (gName 1) tTrue (tOp (cIn K false) (tVar 1) (tVar 2))) tNil)))
variable{vs:List V}
theorem Ag{K:Frag}{H:Hp}{Q:VK}{E:XK}(h:mf K vs H Q E):mh K (eD9 Q) (start ["some","cells"] vs) H:=by
 obtain⟨S,M,sq,ms,rfl,hS,hM,hn,q⟩:=h;show mh K _ [some (.ref S),some (.ref M)] H;unfold mh;symm;refine⟨⟨_,Mc hS⟩,?_⟩;refine bN (xs:=sq.map V.int) (fun _=>true) (fun i=>.bl (decide (sq.getD i 0∈ms))) (by rw[LM];omega) (Mc hS) ?_ ?_ ?_
 . intro i x H1 R hx s1 k1;exact k1 _ (LQ _)
 . intro i x H1 Q1 hx hb s1 k1;rw[LW] at hx
   cases e:sq[i]? with
   | none=>rw[e] at hx;cases hx
   | some z=>
    rw[e] at hx;cases hx;have k2:=k1 _ (LQ H1);rw[List.getD,e] at k2;show tOp (cIn K false) _ _ [none,some (.int z),some (.ref M)] H1 Q1;symm;rw[qT (s1 _ _ hM)];exact k2
 . intro l H1 hl s1 el;rw[a9,LM] at el;refine lz (bs:=(List.range sq.length).map fun i=>decide (sq.getD i 0∈ms)) (by rw[el,Mv];rfl) ?_
   have e:((List.range sq.length).map fun i=>decide (sq.getD i 0∈ms)).all id=sq.all fun c=>decide (c∈ms):=by
    rw[NP,Mn,L3,L3];constructor
    . intro h c hc;obtain⟨i,hi,rfl⟩:=Nm.mp hc;have:=h i (LZ.mpr hi);dsimp only[Function.comp,id] at this;rw[List.getD,LN hi] at this;exact this
    . intro h i hi;have hi:=LZ.mp hi;have:=h _ (Mp hi);dsimp only[Function.comp,id];rw[List.getD,LN hi];exact this
   rw[e];exact q _ s1
def lj(K:Frag)(c:RCl RK):Sp:=dt K c .NoSquare
theorem Gd{h w g:Int}(F:FlOk h w g):(squL h w).length<=16:=by
 obtain⟨h0,h1,w0,w1,m16,g0,g1⟩:=F;unfold squL;rw[LM];refine L8 (L9 _ _) ?_;rw[MS];omega
def gH(K:Frag)(c:RCl RK):TS:=
 (tSeq (tAsg (aF c c.ok "marked" (iL K c) (tVar 0) (tCons (tVar 1) tNil)) (gName 2))
  (tRet (tNotV (tCB kAny (tCons (tComp [none,none,some 2] (iList K (tCall (i5 K) [] E0 (tCons (tFldK c (tVar 0) "floor") tNil))) (gName 1) tTrue (tCall (mf K) [] E0 (tCons (tVar 1) (tCons (tVar 2) tNil)))) tNil)))))
theorem tE{K:Frag}{c:RCl RK}{H:Hp}{Q:VK}{E:XK}(h:lj K c vs H Q E):gH K c (eD9 Q) (start ["self","filling","cells"] vs) H:=by
 obtain⟨r,p,f,ws,cs,xs,n,m,h,w,g,rfl,x,ha,F,hf,hC,hx,q⟩:=h;obtain⟨dx,W,C,h1,h2,h3⟩:=x.ex;show gH K c _ [some (.ref r),some (.ref f),none] H;unfold gH;symm;refine methE rfl x.ok h1 (by rfl) ?_;symm;refine⟨r,p,f,ws,cs,xs,n,m,rfl,x,hf,hC,fun l H1 s1 hl el=>?_⟩;symm;refine fldE rfl x.ok (s1 _ _ h1) (v:=.ref p) (by rfl) ?_;symm;refine⟨p,h,w,g,rfl,s1 _ _ ha,F,fun L as H2 s2 hL xL _ _ _=>?_⟩;have sl:=Gd F;refine⟨L,rfl,⟨_,Mc xL.top⟩,?_⟩;refine bN (xs:=as.map V.ref) (fun _=>true) (fun i=>.bl (((squL h w).getD i []).all fun c=>decide (c∈mkAt xs cs m))) (by rw[LM,xL.len];omega) (Mc xL.top) ?_ ?_ ?_
 . intro i x H3 R hx s3 k3;exact k3 _ (LQ _)
 . intro i y H3 Q3 hi hb s3 k3;obtain⟨b,hb,rfl⟩:=bF hi;have hlt:i < (squL h w).length:=by rw[← xL.len];exact(LP.mp hb).1
   have e:=LN hlt;have eg:(squL h w).getD i []=(squL h w)[i]:=by rw[List.getD,e];rfl
   have hq4:((squL h w)[i]).length<=100:=by
    have hm:=Mp hlt;generalize (squL h w)[i]=z at hm;unfold squL at hm;obtain⟨j,_,rfl⟩:=L1.mp hm;show 4<=100;decide
   show tCall _ _ _ _ [none,some (.ref b),some (.ref l)] H3 Q3;symm;refine⟨b,l,_,_,rfl,s3 _ _ (xL.at_ i b _ hb e),s3 _ _ (s2 _ _ el),hq4,fun H4 s4=>?_⟩;have:=k3 H4 s4;rw[eg] at this;exact this
 . intro D H3 hD s3 eD;rw[a9,LM,xL.len] at eD;refine Co (bs:=(List.range (squL h w).length).map fun i=>((squL h w).getD i []).all fun c=>decide (c∈mkAt xs cs m)) (by rw[eD,Mv];rfl) ?_
   have e:((List.range (squL h w).length).map fun i=>((squL h w).getD i []).all fun c=>decide (c∈mkAt xs cs m)).any id=(squL h w).any fun sq=>sq.all fun c=>decide (c∈mkAt xs cs m):=by
    rw[PU,Mn,NX,NX];constructor
    . rintro⟨i,hi,hh⟩;have hi:=LZ.mp hi;dsimp only[Function.comp,id] at hh;have eg:(squL h w).getD i []=(squL h w)[i]:=by rw[List.getD,LN hi];rfl
      rw[eg] at hh;exact⟨_,Mp hi,hh⟩
    . rintro⟨sq,hs,hh⟩;obtain⟨i,hi,rfl⟩:=Nm.mp hs;refine⟨i,LZ.mpr hi,?_⟩;dsimp only[Function.comp,id];have eg:(squL h w).getD i []=(squL h w)[i]:=by rw[List.getD,LN hi];rfl
      rw[eg];exact hh
   rw[e];symm;exact q _ ((s1.trans s2).trans s3)
def d3(K:Frag):Sp:=fun vs H Q _=>∃(a l:Addr) (h w g st:Int) (cs:List Int),vs=[.ref a,.ref l,.int st]/\IsFl H a h w g/\0<w/\w<100/\H l=some (.lst (cs.map V.int))/\cs.length<=63/\
 ∀(p:Addr) (H':Hp) (rs:List Int),Same H H'->H p=none->H' p=some (.lst (rs.map V.int))->rs.Pairwise (· < ·)->(∀ x,x∈rs↔RC h w cs st x)->Q (.ref p) H'
def p7(K:Frag):TS:=
 (tSeq (tIfS (tTest (tOp (cIn K true) (tVar 2) (tVar 1))) (tRet (tLst tNil)) tNext)
  (tSeq (tAsg (tLst (tCons (tVar 2) tNil)) (gName 3))
  (tSeq (tAsg (tC (.int 0)) (gName 4))
  (tSeq (Dd (tTest (tOp (cCmp fun i j=>decide (i<j)) (tVar 4) (tCB kLen (tCons (tVar 3) tNil))))
  (tSeq (tFor (iList K (tCall (dO K) [] E0 (tCons (tVar 0) (tCons (tOp cIx (tVar 3) (tVar 4)) tNil)))) (gName 5)
  (tIfS (tAnd (tTest (tOp (cIn K false) (tVar 5) (tVar 1))) (tTest (tOp (cIn K true) (tVar 5) (tVar 3)))) (tDrop (tBM K "list" bD (tVar 3) (tCons (tVar 5) tNil))) tNext))
  (tAsg (tOp cAdd (tVar 4) (tC (.int 1))) (gName 4))))
  (tRet (tCB eJ (tCons (tVar 3) tNil)))))))
variable{K:Frag}{vs:List V}{H:Hp}{Q:VK}{E:XK}
theorem CA(h:d3 K vs H Q E):p7 K (eD9 Q) (start ["floor","cells","start","found","place","cell"] vs) H:=by
 obtain⟨a,l,h,w,g,st,cs,rfl,ha,w0,w1,hl,hn,k⟩:=h;show p7 K _ [some (.ref a),some (.ref l),some (.int st),none,none,none] H;unfold p7;rw[aD,ax];symm;rw[lx hl];symm;by_cases hs:st∈cs
 . rw[L4 (by simpa using hs)];symm;refine⟨lnR rfl,fun f hf=>?_⟩
   refine⟨fun m σ H'=>∃(fs:List Int) (pl:Nat) (cv:Option V),σ=[some (.ref a),some (.ref l),some (.int st),some (.ref f),some (.int pl),cv]/\Same H H'/\H' f=some (.lst (fs.map V.int))/\BI h w cs st fs pl/\m=cs.length-pl,
    ⟨_,[st],0,none,rfl,(LQ H).laid hf,ag,BI.start hs,rfl⟩,?_⟩
   rintro m σ H1 ⟨fs,pl,cv,rfl,s1,e1,B,rfl⟩;have hfl:=B.len;symm;rw[bc e1,LM];symm;by_cases hp:pl<fs.length
   . rw[Md (by simpa using hp)];obtain⟨x,hx⟩:∃ x,fs[pl]? =some x:=⟨fs[pl],by simp[hp]⟩;have rx:RC h w cs st x:=B.rc x (LV hx)
     refine⟨fun σ H'=>∃(fs:List Int) (cv:Option V),σ=[some (.ref a),some (.ref l),some (.int st),some (.ref f),some (.int ((pl:Int)+1)),cv]/\Same H H'/\H' f=some (.lst (fs.map V.int))/\BI h w cs st fs (pl+1),
      fun σ' H' ⟨fs',cv',e,s',e',B'⟩=>⟨_,by omega,fs',pl+1,cv',by rw[e];rfl,s',e',B',rfl⟩,?_⟩
     symm;rw[Cl e1];refine aZ (pM (by omega) (by omega)) ?_;symm;rw[show((pl:Int)).toNat=pl from On _,eP hx];refine⟨a,h,w,g,x,rfl,s1 _ _ ha,w0,w1,fun b H2 s2 hb e2=>?_⟩;have s12:=s1.trans s2
     refine⟨b,rfl,⟨_,Mc e2⟩,bq (K:=K) (xs:=(besL h w x).map V.int) (fun i σ H'=>∃(f2:List Int) (cv:Option V),σ=[some (.ref a),some (.ref l),some (.int st),some (.ref f),some (.int pl),cv]/\Same H H'/\H' b=some (.lst ((besL h w x).map V.int))/\H' f=some (.lst (f2.map V.int))/\BJ h w cs st fs pl ((besL h w x).take i) f2)
      ⟨fs,cv,rfl,s12,e2,s2 _ _ e1,BJ.zero B⟩ (fun i σ H' _ ⟨_,_,_,_,q,_⟩=>Mc q) ?_ ?_⟩
     . rintro i y σ H3 hy ⟨f2,cv2,rfl,s3,eb,ef,J⟩;rw[LW] at hy
       cases hz:(besL h w x)[i]? with
       | none=>rw[hz] at hy;cases hy
       | some z=>
        rw[hz] at hy;cases hy;have hlen2:f2.length<=63:=L8 (gr J.nd fun x hx=>(J.rc x hx).mem) hn;have hmem:z∈besL h w x:=LV hz;have htake:(besL h w x).take (i+1)=(besL h w x).take i++[z]:=by rw[Ni,hz];rfl
        have J2:=J.more rx hmem;rw[← htake] at J2;symm;rw[ax];symm;rw[qT (s3 _ _ hl)];symm
        have fin:∀ H4:Hp,H4 f=some (.lst ((addC cs f2 z).map V.int))->(∀ c,c≠f->H4 c=H3 c)->∃(f2:List Int) (cv:Option V),[some (V.ref a),some (.ref l),some (.int st),some (.ref f),some (.int pl),some (.int z)]=[some (.ref a),some (.ref l),some (.int st),some (.ref f),some (.int pl),cv]/\Same H H4/\H4 b=some (.lst ((besL h w x).map V.int))/\H4 f=some (.lst (f2.map V.int))/\BJ h w cs st fs pl ((besL h w x).take (i+1)) f2:=fun H4 q1 q2=>
         ⟨_,_,rfl,fun c o e=>by rw[q2 c (aA e hf)];exact s3 c o e,by rw[q2 b (fun e=>by rw[e] at hb;rw[e1] at hb;cases hb)];exact eb,q1,J2⟩
        by_cases c1:z∈cs
        . rw[Md (by simpa using c1)];rw[lx ef];by_cases c2:z∈f2
          . simp only[c2,decide_true,NF,L4 LY,V.bl.injEq,exists_eq_left'];refine fin H3 ?_ fun _ _=>rfl;rw[ef,addC,L4 (fun q=>q.2 c2)]
          . simp only[c2,decide_false,NW,M8,V.bl.injEq,exists_eq_left'];symm;refine⟨bd ef,?_⟩;rw[dW ef];refine⟨by rw[LM];exact aE (by omega),fin _ ?_ fun c hc=>ak hc⟩;rw[ag,addC,Md ⟨c1,c2⟩];simp
        . rw[L4 (by simpa using c1)]
          try simp only[L4 LY]
          refine fin H3 ?_ fun _ _=>rfl;rw[ef,addC,L4 (fun q=>c1 q.1)]
     . rintro σ H3 ⟨f2,cv2,rfl,s3,eb,ef,J⟩;rw[LM,M6] at J;symm;exact⟨f2,cv2,rfl,s3,ef,J.done B hx⟩
   . rw[L4 (by simpa using hp)];symm;unfold eJ;dsimp only;rw[e1];refine⟨fs,rfl,by omega,fun rs p hpn pm ps=>?_⟩;refine k p _ rs (s1.laid hpn) (s1.free hpn) ag (DI pm ps B.nd) fun x=>?_;rw[pm.mem_iff];exact B.done hp x
 . rw[Md (by simpa using hs)];symm;refine⟨MV _,fun p hp=>k p _ [] ((LQ H).laid hp) hp ag .nil fun x=>⟨(fun q=>nomatch q),fun r=>absurd (RC.st r) hs⟩⟩
variable{h w:Int}{ms:List Int}
theorem joinB_iff:joinB h w ms=true↔(ms=[]\/(ms.Pairwise (· < ·)/\∀ x∈ms,RC h w ms (ms.headD 0) x)):=by
 unfold joinB;exact @O5 _ (Classical.propDecidable _)
def jR(K:Frag)(c:RCl RK):Sp:=fun vs H Q E=>∃ k,i6 K c k vs H Q E
def fh(K:Frag)(c:RCl RK):TS:=
 (tRet (tOrV (tOp (cEq K) (tVar 1) (tLst tNil)) (tOp (cEq K) (tCall (d3 K) [] E0 (tCons (tFldK c (tVar 0) "floor") (tCons (tVar 1) (tCons (tOp cIx (tVar 1) (tC (.int 0))) tNil)))) (tVar 1))))
variable{c:RCl RK}
theorem qF(h:jR K c vs H Q E):fh K c (eD9 Q) (start ["self","cells"] vs) H:=by
 obtain⟨k,r,p,C,ws,cs,ms,n,m,h,w,g,rfl,x,ha,F,hC,hn,q⟩:=h;obtain⟨h0,h1',w0,w1,m16,g0,g1⟩:=id F;obtain⟨dx,W,C',h1,h2,h3⟩:=x.ex;show fh K c _ [some (.ref r),some (.ref C)] H;unfold fh;symm;refine⟨lnR rfl,fun l hl=>?_⟩;obtain⟨H1,z9,s1,el⟩:∃ z,upd H l (.lst [])=z/\Same H z/\z l=some (.lst (([]:List Int).map V.int)):=aU _ hl;rw[z9];refine vj (s1 _ _ hC) el ?_;symm
 cases ms with
 | nil=>
  have e:joinB h w []=true:=joinB_iff.mpr (.inl rfl);have:=q _ s1;rw[e] at this;rw[LU rfl,Md rfl];exact this
 | cons z zs=>
  rw[LR (by simp),L4 (by decide)];refine fldE rfl x.ok (s1 _ _ h1) (v:=.ref p) (by rfl) ?_;symm;refine ixL (s1 _ _ hC) (v:=V.int z) (dD (j:=0) rfl) ?_;symm;refine⟨p,C,h,w,g,z,z::zs,rfl,s1 _ _ ha,by omega,by omega,s1 _ _ hC,hn,fun u H2 rs s2 hu eu rise mem=>?_⟩;refine vj eu (s2 _ _ (s1 _ _ hC)) ?_
  have e:decide (rs=z::zs)=joinB h w (z::zs):=by
   rw[Mn,LO,joinB_iff];constructor
   . intro e;subst e;exact .inr ⟨rise,fun x hx=>(mem x).mp hx⟩
   . rintro(e | ⟨rise2,all⟩)
     . cases e
     . exact vn rise rise2 fun y=>⟨fun hy=>((mem y).mp hy).mem,fun hy=>(mem y).mpr (all y hy)⟩
  rw[e];exact q _ (s1.trans s2)
def mW(K:Frag)(c:RCl RK):Sp:=dt K c .Joined
def jr(K:Frag)(c:RCl RK):TS:=
 (tRet (aF c c.ok "is_joined" (i6 K c) (tVar 0) (tCons (aF c c.ok "marked" (iL K c) (tVar 0) (tCons (tVar 1) tNil)) tNil)))
variable{xs cs:List Int}{m:Int}
theorem Ec(hn:cs.length<=63):(mkAt xs cs m).length<=63:=by
 unfold mkAt;exact L8 (L9 _ _) hn
theorem vP(h:mW K c vs H Q E):jr K c (eD9 Q) (start ["self","filling"] vs) H:=by
 obtain⟨r,p,f,ws,cs,xs,n,m,h,w,g,rfl,x,ha,F,hf,hC,hx,q⟩:=h;obtain⟨dx,W,C,h1,h2,h3⟩:=x.ex;show jr K c _ [some (.ref r),some (.ref f)] H;unfold jr;symm;refine methE rfl x.ok h1 (by rfl) ?_;symm;refine methE rfl x.ok h1 (by rfl) ?_;symm;refine⟨r,p,f,ws,cs,xs,n,m,rfl,x,hf,hC,fun l H1 s1 hl el=>?_⟩;exact⟨r,p,l,ws,cs,_,n,m,h,w,g,rfl,x.same s1,s1 _ _ ha,F,el,Ec hC.1,fun H2 s2=>q _ (s1.trans s2)⟩
def gU(K:Frag)(c:RCl RK):Sp:=gz K c .Ring
def dv(K:Frag)(c:RCl RK):TS:=
 (tRet (tOp (cEq K) (tCB kLen (tCons (tComp [none,none,some 1] (iList K (tCall (dO K) [] E0 (tCons (tFldK c (tVar 0) "floor") (tCons (tVar 2) tNil)))) (gName 1) (tTest (tOp (cIn K false) (tVar 1) (tVar 2))) (tVar 1)) tNil)) (tC (.int 2))))
theorem Ge(h w c:Int):(besL h w c).length<=4:=by
 unfold besL
 repeat rw[Mt]
 split <;> split <;> split <;> split <;> simp
theorem oe(h:gU K c vs H Q E):dv K c (eD9 Q) (start ["self","cells","cell"] vs) H:=by
 obtain⟨r,p,C,ws,cs,ms,n,m,h,w,g,z,rfl,x,ha,F,hC,hn,q⟩:=h;obtain⟨h0,h1',w0,w1,m16,g0,g1⟩:=id F;obtain⟨dx,W,C',h1,h2,h3⟩:=x.ex;show dv K c _ [some (.ref r),some (.ref C),some (.int z)] H;unfold dv;symm;refine fldE rfl x.ok h1 (v:=.ref p) (by rfl) ?_;symm;refine⟨p,h,w,g,z,rfl,ha,by omega,by omega,fun b H2 s2 hb e2=>?_⟩;have bl:=Ge h w z;refine⟨b,rfl,⟨_,Mc e2⟩,?_⟩;refine bf (xs:=besL h w z) (fun y=>decide (y∈ms)) (fun y=>y) (by omega) (Mc e2) ?_ ?_ ?_
 . intro y H3 R hy s3 k3;show tTest _ [none,some (.int y),some (.ref C)] H3 R;symm;rw[qT (s3 _ _ (s2 _ _ hC))];exact⟨_,rfl,k3 _ (LQ _)⟩
 . intro y H3 Q3 hy hb s3 k3;exact k3 _ (LQ _)
 . intro l H3 hl s3 el;rw[Nh] at el;symm;rw[bc el,LM];symm;have:=q _ (s2.trans s3);unfold twoB at this
   have e:decide ((((besL h w z).filter fun y=>decide (y∈ms)).length:Int)=2)=decide (((besL h w z).filter fun y=>decide (y∈ms)).length=2):=by
    rw[Mn,LO,LO];omega
   rw[e];exact this
def qo(K:Frag)(c:RCl RK):Sp:=dt K c .Ring
def kX(K:Frag)(c:RCl RK):TS:=
 (tSeq (tAsg (aF c c.ok "marked" (iL K c) (tVar 0) (tCons (tVar 1) tNil)) (gName 2))
  (tRet (tAndV (aF c c.ok "is_joined" (i6 K c) (tVar 0) (tCons (tVar 2) tNil)) (tCB kAll (tCons (tComp [none,none,some 2,some 0] (iList K (tVar 2)) (gName 1) tTrue (aF c c.ok "has_two_beside" (gz K c) (tVar 3) (tCons (tVar 2) (tCons (tVar 1) tNil)))) tNil)))))
theorem yV(h:qo K c vs H Q E):kX K c (eD9 Q) (start ["self","filling","cells"] vs) H:=by
 obtain⟨r,p,f,ws,cs,xs,n,m,h,w,g,rfl,x,ha,F,hf,hC,hx,q⟩:=h;obtain⟨dx,W,C,h1,h2,h3⟩:=x.ex;show kX K c _ [some (.ref r),some (.ref f),none] H;unfold kX;symm;refine methE rfl x.ok h1 (by rfl) ?_;symm;refine⟨r,p,f,ws,cs,xs,n,m,rfl,x,hf,hC,fun l H1 s1 hl el=>?_⟩;have hml:=Ec (xs:=xs) (m:=m) hC.1;have q1:∀ H',Same H H'->Q (.bl (joinB h w (mkAt xs cs m)&&(mkAt xs cs m).all (twoB h w (mkAt xs cs m)))) H':=q;generalize mkAt xs cs m=ms at*;symm;refine methE rfl x.ok (s1 _ _ h1) (by rfl) ?_;symm;refine⟨r,p,l,ws,cs,ms,n,m,h,w,g,rfl,x.same s1,s1 _ _ ha,F,el,hml,fun H2 s2=>?_⟩;have s12:=s1.trans s2;symm
 cases hj:joinB h w ms with
 | false=>
  rw[hj] at q1
  first | exact iteF (q1 _ s12) | exact q1 _ s12
 | true=>
  rw[hj] at q1;refine iteT ?_;refine⟨⟨_,Mc (s2 _ _ el)⟩,?_⟩;refine bN (xs:=ms.map V.int) (fun _=>true) (fun i=>.bl (twoB h w ms (ms.getD i 0))) (by rw[LM];omega) (Mc (s2 _ _ el)) ?_ ?_ ?_
  . intro i y H3 R hy s3 k3;exact k3 _ (LQ _)
  . intro i y H3 Q3 hy hb s3 k3;rw[LW] at hy
    cases e:ms[i]? with
    | none=>rw[e] at hy;cases hy
    | some z=>
     rw[e] at hy;cases hy;have s13:=s12.trans s3;have eg:ms.getD i 0=z:=by rw[List.getD,e];rfl
     show aF _ _ _ _ _ _ [none,some (.int z),some (.ref l),some (.ref r)] H3 Q3;refine methE rfl x.ok (s13 _ _ h1) (by rfl) ?_;symm;refine⟨r,p,l,ws,cs,ms,n,m,h,w,g,z,rfl,x.same s13,s13 _ _ ha,F,s3 _ _ (s2 _ _ el),hml,fun H4 s4=>?_⟩;have:=k3 H4 s4;rw[eg] at this;exact this
  . intro l2 H3 hl2 s3 el2;rw[a9,LM] at el2;refine lz (bs:=(List.range ms.length).map fun i=>twoB h w ms (ms.getD i 0)) (by rw[el2,Mv];rfl) ?_
    have e:((List.range ms.length).map fun i=>twoB h w ms (ms.getD i 0)).all id=ms.all (twoB h w ms):=by
     have em:(List.range ms.length).map (fun i=>ms.getD i 0)=ms:=by
      refine Pj (by simp) fun i h1 h2=>?_;simp at h1;simp[List.getD,LN h1]
     have e2:(List.range ms.length).map (fun i=>twoB h w ms (ms.getD i 0))=ms.map (twoB h w ms):=by
      rw[← em,Mv,em];rfl
     rw[e2,NP];rfl
    rw[e];exact q1 _ (s12.trans s3)
theorem Fi{α:Type}(F:Int->α)(ss:List Int):(List.range ss.length).map (fun i=>F (ss.getD i 0))=ss.map F:=by
 refine NC fun i=>?_;rw[LW,LW];by_cases h:i<ss.length
 . rw[M7 h,LN h];simp[List.getD,h]
 . rw[Mz (by simpa using h),Mz (by omega)];rfl
variable{i:Nat}
theorem yr{α:Type}{l:List α}{x:α}(h:l[i]? =some x):l.take (i+1)=l.take i++[x]:=by
 rw[O0,h];rfl
variable{l:Addr}{as:List Addr}{LH:List (List Int)}
theorem IsLL.app{bs:List Addr}{yss:List (List Int)}(x:IsLL H l as LH)(nl:l∉as)(nb:l∉bs)(len:bs.length=yss.length)(at2:∀(j:Nat) (a:Addr) (ys:List Int),bs[j]? =some a->yss[j]? =some ys->H a=some (.lst (ys.map V.int))):
  IsLL (upd H l (.lst (as.map V.ref++bs.map V.ref))) l (as++bs) (LH++yss):=by
 have hx:=x.len;refine⟨by rw[ag,NQ],by rw[Mt,Mt,x.len,len],fun j a ys h1 h2=>?_⟩;by_cases hj:j<as.length
 . rw[Mr hj] at h1;rw[Mr (by omega)] at h2;have ne:a≠l:=fun z=>nl (z ▸ LV h1);rw[ak ne];exact x.at_ j a ys h1 h2
 . rw[MD (by omega)] at h1;rw[MD (by omega)] at h2;have ne:a≠l:=fun z=>nb (z ▸ LV h1);rw[ak ne];exact at2 _ a ys h1 (by rw[hx];exact h2)
theorem IsLL.get{a:Addr}(x:IsLL H l as LH)(h:as[i]? =some a):∃ xs,LH[i]? =some xs/\H a=some (.lst (xs.map V.int)):=by
 have hi:=(LP.mp h).1;have e:LH[i]? =some (LH[i]'(by have:=x.len;omega)):=LN _;exact⟨_,e,x.at_ i a _ h e⟩
variable{n:Nat}
theorem Ed(h:n<=1100):n<sizeLine:=M3 h (by decide)
variable{p:Addr}
theorem Ee{q:Addr}{xs ys:List V}(hp:H p=some (.lst xs))(hq:H q=some (.lst ys))(hn:xs.length+ys.length<=1100)(h:Q .non (upd H p (.lst (xs++ys)))):lK (.ref p) [.ref q] H Q:=by
 show bnd (unM (H p)) _;rw[hp];show bnd (unM (H q)) _;rw[hq];exact⟨MK (Ed hn),h⟩
theorem BW(m:Int):(sgL m).length<=Builtin.Int.intBits m:=by
 unfold sgL;rw[LM];refine L8 (L9 _ _) ?_;rw[MS];exact Mj _
def prodW(ms:List Int):Nat:=ms.foldl (fun p m=>p*(sgL m).length) 1
theorem vQ{α:Type}{x:Int}(f:α->Int->α)(a:α)(h:xs[i]? =some x):(xs.take (i+1)).foldl f a=f ((xs.take i).foldl f a) x:=by
 rw[O0,h,Om];rfl
def xy(K:Frag):Sp:=fun vs H Q _=>∃(p:Addr) (ms:List Int),vs=[.ref p]/\H p=some (.lst (ms.map V.int))/\(∀ m∈ms,Builtin.Int.intBits m<=900)/\∀ H',Same H H'->Q (.int ((prodW ms:Nat):Int)) H'
def xz(K:Frag):TS:=
 (tSeq (tAsg (tC (.int 1)) (gName 1))
  (tSeq (tFor (iList K (tVar 0)) (gName 2)
  (tAsg (tOp cMul (tVar 1) (tCB kLen (tCons (tCall (bA K) [] E0 (tCons (tVar 2) tNil)) tNil))) (gName 1)))
  (tRet (tVar 1))))
theorem Gf(h:xy K vs H Q E):xz K (eD9 Q) (start ["masks","product","mask"] vs) H:=by
 obtain⟨p,ms,rfl,hp,hb,k⟩:=h;show xz K _ [some (.ref p),none,none] H;unfold xz;symm;refine⟨⟨_,Mc hp⟩,bq (K:=K) (xs:=ms.map V.int) (fun i σ H'=>∃ mv:Option V,σ=[some (.ref p),some (.int ((prodW (ms.take i):Nat):Int)),mv]/\Same H H') ⟨none,rfl,LQ H⟩ (fun i σ H' _ ⟨_,_,s⟩=>Mc (s _ _ hp)) ?_ ?_⟩
 . rintro i x σ H1 hx ⟨mv,rfl,s1⟩;obtain⟨m,hm,rfl⟩:=aP hx;have hbm:=hb m (LV hm);symm;refine⟨m,rfl,hbm,fun l H2 s2 hl el=>?_⟩;symm;rw[bc el];symm;have h1:=BW m;rw[LM];refine⟨.inr ⟨by omega,by omega⟩,some (.int m),?_,s1.trans s2⟩;unfold prodW;rw[vQ _ _ hm,Int.natCast_mul]
 . rintro σ H1 ⟨mv,rfl,s1⟩;symm;rw[MT (by rw[LM];exact Mj _)] at*;exact k _ s1
def setL(xs:List Int)(z s:Int):List Int:=(List.range xs.length).map fun(i:Nat)=>if (i:Int)=z then s else xs.getD i 0
variable{z s:Int}
theorem Ah:(setL xs z s).length=xs.length:=by unfold setL;simp
theorem BX(s0:0<=s)(s6:s<=6)(hx:∀ x∈xs,0<=x/\x<=6):∀ x∈setL xs z s,0<=x/\x<=6:=fun x h=>by
 unfold setL at h;obtain⟨i,hi,rfl⟩:=L1.mp h;have hlt:=LZ.mp hi;have hb:=hx _ (Mp hlt);have eg:xs.getD i 0=xs[i]:=by rw[List.getD,LN hlt];rfl
 rw[eg]
 split
 . exact⟨s0,s6⟩
 . exact hb
def js(K:Frag):Sp:=fun vs H Q _=>∃(F:Addr) (xs:List Int) (z s:Int),vs=[.ref F,.int z,.int s]/\H F=some (.lst (xs.map V.int))/\xs.length<=100/\∀ l H',Same H H'->H l=none->H' l=some (.lst ((setL xs z s).map V.int))->Q (.ref l) H'
def mj(K:Frag):TS:=
 (tRet (tComp [none,none,none,some 1,some 2] (iEnum K (tCons (tVar 0) tNil)) (gTup K 2 (gCons (gName 1) (gCons (gName 2) gNil))) tTrue (tIf (tTest (tOp (cEq K) (tVar 1) (tVar 3))) (tVar 4) (tVar 2))))
theorem Ai(h:js K vs H Q E):mj K (eD9 Q) (start ["filling","cell","sign"] vs) H:=by
 obtain⟨F,xs,z,s,rfl,hF,hl,q⟩:=h;show mj K _ [some (.ref F),some (.int z),some (.int s)] H;unfold mj;symm;refine⟨F,rfl,⟨_,Mc hF⟩,?_⟩;refine pL (xs:=xs.map V.int) (fun _=>true) (fun i=>.int (if (i:Int)=z then s else xs.getD i 0)) (by rw[LM];omega) (by decide) (Mc hF) ?_ ?_ ?_
 . intro i x H1 R hx s1 k1;exact k1 _ (LQ _)
 . intro i x H1 Q1 hx hb s1 k1;obtain⟨y,hy,rfl⟩:=aP hx;have q1:=k1 _ (LQ H1);rw[eP hy] at q1;show tIf _ _ _ [none,some (.int (i:Int)),some (.int y),some (.int z),some (.int s)] H1 Q1;unfold tIf;symm;by_cases h0:(i:Int)=z
   . rw[LU h0];rw[Md h0] at q1;exact iteT q1
   . rw[LR h0];rw[L4 h0] at q1;exact iteF q1
 . intro l H1 hl1 s1 el;rw[a9,LM] at el;refine q l H1 s1 hl1 ?_;rw[el];unfold setL;rw[Mv];rfl
def extS(fss:List (List Int))(z:Int)(ss:List Int):List (List Int):=fss.flatMap fun f=>ss.map fun s=>setL f z s
theorem uy(z:Int)(ss:List Int):∀ fss:List (List Int),(extS fss z ss).length=fss.length*ss.length
 | []=>by simp[extS]
 | f::r=>by
  have ih:=uy z ss r;unfold extS at ih ⊢;rw[Pa,Mt,ih,LM,Mx,Pp,Nat.add_comm]
theorem Fj(fs gs:List (List Int))(z:Int)(ss:List Int):extS (fs++gs) z ss=extS fs z ss++extS gs z ss:=by
 unfold extS;rw[Nq]
theorem Fk(f:List Int)(z:Int)(ss:List Int):extS [f] z ss=ss.map fun s=>setL f z s:=by
 unfold extS;simp
theorem mem_extS{f:List Int}{fs:List (List Int)}{ss:List Int}:f∈extS fs z ss↔∃ a∈fs,∃ s∈ss,f=setL a z s:=by
 unfold extS;rw[Nk];constructor
 . rintro⟨a,ha,h⟩;obtain⟨s,hs,rfl⟩:=L1.mp h;exact⟨a,ha,s,hs,rfl⟩
 . rintro⟨a,ha,s,hs,rfl⟩;exact⟨a,ha,L1.mpr ⟨s,hs,rfl⟩⟩
theorem Ef{H0 H1 H2:Hp}{m:Addr}{bs:List Addr}{yss:List (List Int)}(x:IsLL H1 l as LH)(nl:l∉as)(s0:Same H0 H1)(fr:∀ b∈as,H0 b=none)(s1:Same H1 H2)(nw:NewAt H1 H2 m bs (yss.map fun ys=>.lst (ys.map V.int))):
  IsLL (upd H2 l (.lst (as.map V.ref++bs.map V.ref))) l (as++bs) (LH++yss)/\l∉as++bs/\(∀ b∈as++bs,H0 b=none):=by
 have nb:l∉bs:=fun h=>by have:=nw.fr l h;rw[x.top] at this;cases this
 refine⟨?_,?_,?_⟩
 . refine(x.same s1).app nl nb (by rw[nw.len,LM]) fun j a ys h1 h2=>?_;exact nw.at_ j a _ h1 (by rw[LW,h2];rfl)
 . intro h;rcases Ml.mp h with h | h
   . exact nl h
   . exact nb h
 . intro b h;rcases Ml.mp h with h | h
   . exact fr b h
   . exact s0.free (nw.fr b h)
def gI(K:Frag):Sp:=fun vs H Q _=>∃(F S:Addr) (as:List Addr) (fss:List (List Int)) (z:Int) (ss:List Int),vs=[.ref F,.int z,.ref S]/\IsLL H F as fss/\H S=some (.lst (ss.map V.int))/\fss.length*ss.length<=1100/\ss.length<=100/\(∀ f∈fss,f.length<=16)/\
 ∀(l:Addr) (bs:List Addr) (H':Hp),Same H H'->H l=none->IsLL H' l bs (extS fss z ss)->Q (.ref l) H'
def gJ(K:Frag):TS:=
 (tSeq (tAsg (tLst tNil) (gName 3))
  (tSeq (tFor (iList K (tVar 0)) (gName 4)
  (tDrop (tBM K "list" lK (tVar 3) (tCons (tComp [none,none,some 1,some 4] (iList K (tVar 2)) (gName 1) tTrue (tCall (js K) [] E0 (tCons (tVar 3) (tCons (tVar 2) (tCons (tVar 1) tNil))))) tNil))))
  (tRet (tVar 3))))
theorem tF(h:gI K vs H Q E):gJ K (eD9 Q) (start ["fillings","cell","signs","found","filling"] vs) H:=by
 obtain⟨F,S,as,fss,z,ss,rfl,x,hS,hn,hs,hf,q⟩:=h;show gJ K _ [some (.ref F),some (.int z),some (.ref S),none,none] H;unfold gJ;symm;refine⟨lnR rfl,fun l hl=>?_⟩;obtain⟨H1,z9,s1,el⟩:=aU (.lst []) hl;rw[z9];refine⟨⟨_,Mc (s1 _ _ x.top)⟩,?_⟩
 refine bq (K:=K) (xs:=as.map V.ref) (fun i σ H'=>∃(v:Option V) (bs:List Addr),σ=[some (.ref F),some (.int z),some (.ref S),some (.ref l),v]/\Same H H'/\IsLL H' l bs (extS (fss.take i) z ss)/\l∉bs/\∀ b∈bs,H b=none)
  ⟨none,[],rfl,s1,⟨el,rfl,fun j a xs h1=>by simp at h1⟩,by simp,fun b hb=>nomatch hb⟩ (fun i σ H' _ ⟨_,_,_,s,_⟩=>s.seq (Mc x.top)) ?_ ?_
 . rintro i y σ H2 hy ⟨v,bs,rfl,s2,x2,nl,fr⟩;obtain⟨f,hfa,rfl⟩:=bF hy;obtain⟨xs,ex,ef⟩:=x.get hfa;have hxl:=hf xs (LV ex);symm;refine⟨bd x2.top,⟨_,Mc (s2 _ _ hS)⟩,?_⟩;refine pN (xs:=ss.map V.int) (fun _=>true) (fun i=>.lst ((setL xs z (ss.getD i 0)).map V.int)) (by rw[LM];omega) (Mc (s2 _ _ hS)) ?_ ?_ ?_
   . intro i x H R hx s1 k1;exact k1 _ (LQ _)
   . intro i x H3 Q3 hi hb s3 k3;obtain⟨t,ht,rfl⟩:=aP hi;rw[eP ht] at k3;show tCall _ _ _ _ [none,some (.int t),some (.int z),some (.ref f)] H3 Q3;symm;exact⟨f,xs,z,t,rfl,(s2.trans s3) _ _ ef,by omega,fun l H' s' hl el=>k3 l H' s' hl el⟩
   . intro m cs H3 hm s3 em nw;rw[a9,LM,Fi (fun s=>HO.lst ((setL xs z s).map V.int))] at nw
     have nw2:NewAt H2 H3 m cs ((extS [xs] z ss).map fun ys=>.lst (ys.map V.int)):=by
      rw[Fk,Mv];exact nw
     have hb:bs.length+cs.length<=1100:=by
      have l1:=x2.len;rw[uy,M0] at l1;have l2:=nw.len;rw[LM] at l2;have hi:=(LP.mp ex).1;have e1:min i fss.length=i:=by omega
      rw[e1] at l1;have:=OE ss.length (show i+1<=fss.length by omega);rw[Pp] at this;omega
     refine Ee (s3 _ _ x2.top) em (by rw[LM,LM];exact hb) ?_;obtain⟨z1,z2,z3⟩:=Ef x2 nl s2 fr s3 nw2;refine⟨_,bs++cs,rfl,(s2.trans s3).own hl,?_,z2,z3⟩;rw[yr ex,Fj];exact z1
 . rintro σ H2 ⟨v,bs,rfl,s2,x2,nl,fr⟩;symm;have e:fss.take (as.map V.ref).length=fss:=MT (by rw[LM,x.len];exact Mj _);rw[e] at x2;exact q l bs H2 s2 hl x2
def wfold(LA:List Int)(rest:List Int)(fs:List (List Int)):List (List Int):=rest.foldl (fun fs o=>extS fs o (sgL (LA.getD o.toNat 0))) fs
def wfill(LA rest:List Int)(z s:Int):List (List Int):=wfold LA rest [setL (List.replicate LA.length 0) z s]
noncomputable def waysB (k:RK) (h w:Int) (cs:List Int) (n m:Int) (LA:List Int) (z s:Int) (ms:List Int):Bool:=
 decide (ms=[])&&(decide (prodW (sgAt LA (othL cs z))<=32)&&(decide (0∈sgAt LA (othL cs z))||!((wfill LA (othL cs z) z s).any fun f=>hoB k h w cs n m f)))
theorem yt(LA:List Int):∀(rest:List Int) (fs:List (List Int)),(wfold LA rest fs).length=(sgAt LA rest).foldl (fun p m=>p*(sgL m).length) fs.length
 | [],_=>rfl
 | o::r,fs=>by
  unfold wfold sgAt;rw[Na,MB,Na];have:=yt LA r (extS fs o (sgL (LA.getD o.toNat 0)));unfold wfold sgAt at this;rw[this,uy]
theorem Aj:∀(ms:List Int) (n:Nat),(∀ m∈ms,1<=(sgL m).length)->n<=ms.foldl (fun p m=>p*(sgL m).length) n
 | [],_,_=>Mj _
 | m::r,n,h=>by
  rw[Na];exact L8 (Nat.le_mul_of_pos_right n (h m Ma)) (Aj r _ fun x hx=>h x (L5 _ hx))
theorem CB(i:Nat)(h:∀ m∈ms,1<=(sgL m).length):prodW (ms.take i)<=prodW ms:=by
 have e:prodW ms=(ms.drop i).foldl (fun p m=>p*(sgL m).length) (prodW (ms.take i)):=by
  unfold prodW;rw[← Om,List.take_append_drop]
 rw[e];exact Aj _ _ fun x hx=>h x (List.mem_of_mem_drop hx)
theorem p8{n:Nat}{LA:List Int}(hm:∀ m∈LA,0<=m/\m<64):∀(rest:List Int) (fs:List (List Int)),(∀ f∈fs,f.length=n/\∀ x∈f,0<=x/\x<=6)->∀ f∈wfold LA rest fs,f.length=n/\∀ x∈f,0<=x/\x<=6
 | [],_,h,f,hf=>h f hf
 | o::r,fs,h,f,hf=>by
  refine p8 hm r (extS fs o (sgL (LA.getD o.toNat 0))) (fun g hg=>?_) f hf;obtain⟨a,ha,s,hs,rfl⟩:=mem_extS.mp hg;have h1:=h a ha
  have hs6:1<=s/\s<=6:=by
   by_cases hlt:o.toNat<LA.length
   . have e:LA.getD o.toNat 0=LA[o.toNat]:=by rw[List.getD,LN hlt];rfl
     rw[e] at hs;have hb:=hm _ (Mp hlt);rw[(gS hb.1 hb.2).2] at hs;obtain⟨j,hj,rfl⟩:=L1.mp hs;have:=(LS.mp hj).1;simp at this;omega
   . have e:LA.getD o.toNat 0=0:=by rw[List.getD,Mz (by omega)];rfl
     rw[e,Hr] at hs;cases hs
  exact⟨by rw[Ah];exact h1.1,BX (by omega) hs6.2 h1.2⟩
def jt(K:Frag)(c:RCl RK):Sp:=fun vs H Q _=>∃(k:RK) (r p A M:Addr) (ws:List (List Nat)) (cs LA ms:List Int) (n m z s h w g:Int),vs=[.ref r,.ref A,.int z,.int s,.ref M]/\IsRule H c k r p ws cs n m/\IsFl H p h w g/\FlOk h w g/\aK cs LA.length/\LA.length<=16/\(∀ m∈LA,0<=m/\m<64)/\1<=s/\s<=6/\H A=some (.lst (LA.map V.int))/\H M=some (.lst (ms.map V.int))/\∀ H',Same H H'->Q (.bl (waysB k h w cs n m LA z s ms)) H'
def gi(K:Frag)(c:RCl RK):TS:=
 (tSeq (tFor (iList K (tVar 7)) (gName 9)
  (tIfS (tB (aF c c.ok "holds" (dt K c) (tVar 0) (tCons (tVar 9) tNil))) (tRet (tC (.bl false))) tNext))
  (tRet (tC (.bl true))))
def gj(K:Frag)(c:RCl RK):TS:=
 (tSeq (tAsg (tLst (tCons (tCall (js K) [] E0 (tCons (tOp cRepL (tLst (tCons (tC (.int 0)) tNil)) (tCB kLen (tCons (tVar 1) tNil))) (tCons (tVar 2) (tCons (tVar 3) tNil)))) tNil)) (gName 7))
  (tSeq (tFor (iList K (tVar 5)) (gName 8)
  (tAsg (tCall (gI K) [] E0 (tCons (tVar 7) (tCons (tVar 8) (tCons (tCall (bA K) [] E0 (tCons (tOp cIx (tVar 1) (tVar 8)) tNil)) tNil)))) (gName 7)))
  (gi K c)))
def ju(K:Frag)(c:RCl RK):TS:=
 (tSeq (tAsg (tCall (bE K c) [] E0 (tCons (tVar 0) (tCons (tVar 2) tNil))) (gName 5))
  (tSeq (tAsg (tCall (bW K) [] E0 (tCons (tVar 1) (tCons (tVar 5) tNil))) (gName 6))
  (tSeq (tIfS (tOr (tTest (tOp (cNe K) (tVar 4) (tLst tNil))) (tTest (tOp (cCmp fun i j=>decide (j<i)) (tCall (xy K) [] E0 (tCons (tVar 6) tNil)) (tC (.int 32))))) (tRet (tC (.bl false))) tNext)
  (tSeq (tIfS (tB (tCall (gu K) [] E0 (tCons (tVar 6) tNil))) (tRet (tC (.bl true))) tNext)
  (gj K c)))))
structure Wys(H:Hp)(c:RCl RK)(k:RK)(r p A:Addr)(ws:List (List Nat))(cs LA:List Int)(n m h w g:Int):Prop where
 R:IsRule H c k r p ws cs n m
 fl:IsFl H p h w g
 F:FlOk h w g
 ci:aK cs LA.length
 ml:LA.length<=16
 mo:∀ m∈LA,0<=m/\m<64
 hA:H A=some (.lst (LA.map V.int))
variable{A:Addr}{LA:List Int}{g:Int}
theorem Wys.same{H':Hp}{k:RK}{r:Addr}{ws:List (List Nat)}{n:Int}(x:Wys H c k r p A ws cs LA n m h w g)(s:Same H H'):Wys H' c k r p A ws cs LA n m h w g:=⟨x.R.same s,s _ _ x.fl,x.F,x.ci,x.ml,x.mo,s _ _ x.hA⟩
theorem CD {k:RK} {r F:Addr} {ws:List (List Nat)} {n:Int} {v2 v3 v4 v5 v6 v8:Option V} {bs:List Addr} {fss:List (List Int)} (X:Wys H c k r p A ws cs LA n m h w g) (x:IsLL H F bs fss) (hf:∀ f∈fss,f.length=LA.length/\∀ x∈f,0<=x/\x<=6)
  (q:∀ H',Same H H'->Q (.bl (!(fss.any fun f=>hoB k h w cs n m f))) H'):
  gi K c (eD9 Q) [some (.ref r),some (.ref A),v2,v3,v4,v5,v6,some (.ref F),v8,none] H:=by
 obtain⟨dx,W,C,h1,h2,h3⟩:=X.R.ex;have hxl:=x.len;unfold gi;symm;refine⟨⟨_,Mc x.top⟩,?_⟩;refine bq (K:=K) (xs:=bs.map V.ref) (fun i σ H'=>∃ v9:Option V,σ=[some (.ref r),some (.ref A),v2,v3,v4,v5,v6,some (.ref F),v8,v9]/\Same H H'/\((fss.take i).any fun f=>hoB k h w cs n m f)=false) ⟨none,rfl,LQ _,rfl⟩ (fun i σ H' _ ⟨_,_,s,_⟩=>s.seq (Mc x.top)) ?_ ?_
 . rintro i y σ H1 hy ⟨v9,rfl,s1,hno⟩;obtain⟨b,hb,rfl⟩:=bF hy;obtain⟨f,ef,eb⟩:=x.get hb;have hfm:=LV ef;obtain⟨hfl,hfx⟩:=hf f hfm;have X1:=X.same s1;symm;rw[ax];symm;refine methE (k:=k) rfl X.R.ok (s1 _ _ h1) (by rfl) ?_;symm;refine⟨r,p,b,ws,cs,f,n,m,h,w,g,rfl,X1.R,X1.fl,X1.F,s1 _ _ eb,by rw[hfl];exact X1.ci,fun y hy=>by have:=hfx y hy;omega,fun H2 s2=>?_⟩;refine⟨_,rfl,?_⟩
   cases hh:hoB k h w cs n m f with
   | true=>
    refine iteT ?_;have e:(fss.any fun f=>hoB k h w cs n m f)=true:=NX.mpr ⟨f,hfm,hh⟩;have q1:=q _ (s1.trans s2);rw[e] at q1;exact q1
   | false=>
    refine iteF ⟨_,rfl,s1.trans s2,?_⟩;rw[yr ef,List.any_append,hno,Nf]
    simpa using hh
 . rintro σ H1 ⟨v9,rfl,s1,hno⟩;rw[MT (by rw[LM,hxl];exact Mj _)] at hno;symm;rw[hno] at q;exact q _ s1
theorem CF {k:RK} {r R:Addr} {ws:List (List Nat)} {n:Int} {v4 v6:Option V} (X:Wys H c k r p A ws cs LA n m h w g) (hR:H R=some (.lst ((othL cs z).map V.int))) (s0:1<=s) (s6:s<=6) (hw:prodW (sgAt LA (othL cs z))<=32) (h0:0∉sgAt LA (othL cs z))
  (q:∀ H',Same H H'->Q (.bl (!((wfill LA (othL cs z) z s).any fun f=>hoB k h w cs n m f))) H'):
  gj K c (eD9 Q) [some (.ref r),some (.ref A),some (.int z),some (.int s),v4,some (.ref R),v6,none,none,none] H:=by
 have hml:=X.ml;unfold gj;symm;refine⟨lnR rfl,fun Z hZ=>?_⟩;obtain⟨H1,z9,s1,eZ⟩:=aU (.lst [V.int 0]) hZ;rw[z9];rw[bc (s1 _ _ X.hA),LM];refine G9 eZ (by omega) (by omega) (by show(1:Nat)<=1;decide) fun N hN=>?_;have s2:Same H1 (upd H1 N (.lst (List.replicate ((LA.length:Nat):Int).toNat [V.int 0]).flatten)):=(LQ H1).laid hN
 have eN:(upd H1 N (.lst (List.replicate ((LA.length:Nat):Int).toNat [V.int 0]).flatten)) N=some (.lst ((List.replicate LA.length (0:Int)).map V.int)):=by
  rw[ag,O1];simp
 generalize upd H1 N (.lst (List.replicate ((LA.length:Nat):Int).toNat [V.int 0]).flatten)=H2 at*;have s12:=s1.trans s2;refine⟨N,_,z,s,rfl,eN,by simp;omega,fun b H3 s3 hb eb=>?_⟩;have s13:=s12.trans s3;symm;refine⟨lnR rfl,fun F hF=>?_⟩;have s4:Same H3 (upd H3 F (.lst [V.ref b])):=(LQ H3).laid hF
 have xF:IsLL (upd H3 F (.lst [V.ref b])) F [b] [setL (List.replicate LA.length 0) z s]:=by
  refine⟨ag,rfl,fun j a xs e1 e2=>?_⟩;have hj:j=0:=by have:=(LP.mp e1).1;simp at this;omega
  subst hj;cases e1;cases e2;exact s4 _ _ eb
 generalize upd H3 F (.lst [V.ref b])=H4 at*;have s14:=s13.trans s4
 have base:∀ f∈([setL (List.replicate LA.length 0) z s]:List (List Int)),f.length=LA.length/\∀ x∈f,0<=x/\x<=6:=fun f hf=>by
  rw[L0.mp hf];exact⟨by rw[Ah];simp,BX (by omega) s6 fun x hx=>by rw[(O4.mp hx).2];omega⟩
 have pos:∀ mm∈sgAt LA (othL cs z),1<=(sgL mm).length:=fun mm hm=>by
  have hne:mm≠0:=fun e=>h0 (e ▸ hm);unfold sgAt at hm;obtain⟨o,ho,rfl⟩:=L1.mp hm;have hoc:o∈cs:=(LS.mp ho).1;have hi:=X.ci.2 o hoc;have hlt:o.toNat<LA.length:=by omega
  have e:LA.getD o.toNat 0=LA[o.toNat]:=by rw[List.getD,LN hlt];rfl
  rw[e] at hne ⊢;have hb:=X.mo _ (Mp hlt);exact(FD hb.1 hb.2 hne).1.1
 refine⟨⟨_,Mc (s14 _ _ hR)⟩,?_⟩;refine bq (K:=K) (xs:=(othL cs z).map V.int) (fun i σ H'=>∃(F:Addr) (bs:List Addr) (v8:Option V),σ=[some (.ref r),some (.ref A),some (.int z),some (.int s),v4,some (.ref R),v6,some (.ref F),v8,none]/\Same H H'/\IsLL H' F bs (wfold LA ((othL cs z).take i) [setL (List.replicate LA.length 0) z s])) ⟨F,[b],none,rfl,s14,xF⟩ (fun i σ H' _ ⟨_,_,_,_,s,_⟩=>s.seq (Mc hR)) ?_ ?_
 . rintro i y σ H5 hy ⟨F,bs,v8,rfl,s5,x5⟩;obtain⟨o,ho,rfl⟩:=aP hy;have hom:=LV ho;have hoc:o∈cs:=(LS.mp hom).1;have hi:=X.ci.2 o hoc;have hlt:o.toNat<LA.length:=by omega
   have e:LA.getD o.toNat 0=LA[o.toNat]:=by rw[List.getD,LN hlt];rfl
   have hb:=X.mo _ (Mp hlt);have sb:=gS hb.1 hb.2;symm;refine ixI (s5 _ _ X.hA) (by omega) (by omega) ?_;symm;rw[e];refine⟨_,rfl,by omega,fun S H6 s6' hS eS=>?_⟩;symm;have hsl:(sgL LA[o.toNat]).length<=6:=L8 (BW _) sb.1;refine⟨F,S,bs,_,o,_,rfl,x5.same s6',eS,?_,by omega,fun f hf=>by have:=(p8 X.mo _ _ base f hf).1;omega,fun l cs2 H7 s7 hl x7=>?_⟩
   . rw[yt];have h1:=CB i pos
     have e2:(sgAt LA ((othL cs z).take i)).foldl (fun p m=>p*(sgL m).length) ([setL (List.replicate LA.length 0) z s]:List (List Int)).length=prodW ((sgAt LA (othL cs z)).take i):=by
      unfold prodW sgAt;rw[N7];rfl
     rw[e2];have h3:prodW ((sgAt LA (othL cs z)).take i)*(sgL LA[o.toNat]).length<=32*6:=OZ (by omega) hsl;omega
   . refine⟨l,cs2,_,rfl,(s5.trans s6').trans s7,?_⟩
     have e3:wfold LA ((othL cs z).take (i+1)) [setL (List.replicate LA.length 0) z s]=extS (wfold LA ((othL cs z).take i) [setL (List.replicate LA.length 0) z s]) o (sgL LA[o.toNat]):=by
      unfold wfold;rw[vQ _ _ ho,e]
     rw[e3];exact x7
 . rintro σ H5 ⟨F,bs,v8,rfl,s5,x5⟩;rw[MT (by rw[LM];exact Mj _)] at x5;exact CD (X.same s5) x5 (p8 X.mo _ _ base) fun H' s'=>q H' (s5.trans s')
theorem vR(h:jt K c vs H Q E):ju K c (eD9 Q) (start ["rule","masks","cell","sign","more","rest","some","fillings","other","filling"] vs) H:=by
 obtain⟨k,r,p,A,M,ws,cs,LA,ms,n,m,z,s,h,w,g,rfl,hR,hp,F,ci,ml,mk,s0,s6,hA,hM,q⟩:=h;have X:Wys H c k r p A ws cs LA n m h w g:=⟨hR,hp,F,ci,ml,mk,hA⟩;have hcl:cs.length<=63:=by have:=ci.1;omega
 show ju K c _ [some (.ref r),some (.ref A),some (.int z),some (.int s),some (.ref M),none,none,none,none,none] H;unfold ju;symm;refine⟨k,r,p,ws,cs,n,m,z,rfl,hR,hcl,fun R H1 s1 hR1 eR=>?_⟩;have eR2:H1 R=some (.lst ((othL cs z).map V.int)):=eR;symm;refine⟨A,R,LA,othL cs z,rfl,s1 _ _ hA,eR2,⟨L8 (L9 _ _) ci.1,fun x hx=>ci.2 x (LS.mp hx).1⟩,fun S H2 s2 hS eS=>?_⟩;have s12:=s1.trans s2;dsimp only;rw[ax];symm;refine⟨lnR rfl,fun e he=>?_⟩;obtain⟨H3,z9,s3,ee⟩:∃ z,upd H2 e (.lst [])=z/\Same H2 z/\z e=some (.lst (([]:List Int).map V.int)):=aU _ he;rw[z9];have s13:=s12.trans s3;refine pJ (s13 _ _ hM) ee ?_;refine⟨_,rfl,?_⟩;unfold waysB at q;by_cases hm:ms=[]
 . rw[LU hm] at q ⊢;rw[Mf] at q;refine iteF ?_;symm;refine⟨S,_,rfl,s3 _ _ eS,fun x hx=>?_,fun H4 s4=>?_⟩
   . unfold sgAt at hx;obtain⟨o,ho,rfl⟩:=L1.mp hx;have hi:=ci.2 o (LS.mp ho).1;have hlt:o.toNat<LA.length:=by omega
     have e:LA.getD o.toNat 0=LA[o.toNat]:=by rw[List.getD,LN hlt];rfl
     rw[e];have hb:=mk _ (Mp hlt);have:=(gS hb.1 hb.2).1;omega
   . have s14:=s13.trans s4;symm;by_cases hw:prodW (sgAt LA (othL cs z))<=32
     . rw[LU hw,Mf] at q;rw[LR (by omega)];refine iteF ?_;rw[ax];symm;refine⟨S,_,rfl,(s3.trans s4) _ _ eS,?_⟩;refine⟨_,rfl,?_⟩;by_cases h0:0∈sgAt LA (othL cs z)
       . rw[LU h0] at q ⊢;rw[Oh] at q;exact iteT (q _ s14)
       . rw[LR h0] at q ⊢;rw[Nf] at q;refine iteF ?_;exact CF (X.same s14) (((s2.trans s3).trans s4) _ _ eR2) s0 s6 hw h0 fun H' s'=>q H' (s14.trans s')
     . rw[LR hw,Mb] at q;rw[LU (by omega)];exact iteT (q _ s14)
 . rw[LR hm,Mb] at q;rw[LR hm];exact iteT (q _ s13)
def Ak(g:Int)(t:TK)(x:RR)(LA:List Int)(z s:Int)(ms:List Int):Bool:=match t with
 | .only=>onlyB x.cs LA z s ms
 | .place=>jk g x.cs LA z s ms
 | _=>pairB x.cs LA z s ms
def eh(g:Int)(LC:List RR)(cl LA:List Int)(t:TK)(r z s:Int)(ms:List Int):Bool:=match t with
 | .clue=>clueB cl z s ms
 | _=>match LC[r.toNat]? with
  | none=>false
  | some x=>Ak g t x LA z s ms
noncomputable def rcB (h w:Int) (cs:List Int) (st x:Int):Bool:=@decide (RC h w cs st x) (Classical.propDecidable _)
theorem Al{rs:List Int}{st x:Int}(hm:x∈rs↔RC h w cs st x):decide (x∈rs)=rcB h w cs st x:=by
 unfold rcB;rw[Mn,LO];exact hm.trans (@O5 _ (Classical.propDecidable _)).symm
def anoB(h w:Int)(LA:List Int)(z m o:Int):Bool:=(decide (0<=o)&&decide (o<h*w))&&(!decide (o=z)&&decide (woI (LA.getD o.toNat 0) m=0))
def cS(K:Frag):Sp:=fun vs H Q _=>∃(f A:Addr) (h w g z o m:Int) (LA:List Int),vs=[.ref f,.ref A,.int z,.int o,.int m]/\IsFl H f h w g/\FlOk h w g/\H A=some (.lst (LA.map V.int))/\LA.length=(h*w).toNat/\m<=1000/\Q (.bl (anoB h w LA z m o)) H
def cT(K:Frag):TS:=
 (tRet (tAndV (tCall (lD K) [] E0 (tCons (tVar 0) (tCons (tVar 3) tNil))) (tAndV (tOp (cNe K) (tVar 3) (tVar 2)) (tCall (ck K) [] E0 (tCons (tOp cIx (tVar 1) (tVar 3)) (tCons (tVar 4) tNil))))))
theorem mL(h:cS K vs H Q E):cT K (eD9 Q) (start ["floor","masks","cell","other","mark"] vs) H:=by
 obtain⟨f,A,h,w,g,z,o,m,LA,rfl,hf,F,hA,hml,hm,q⟩:=h;show cT K _ [some (.ref f),some (.ref A),some (.int z),some (.int o),some (.int m)] H;unfold cT;symm;refine⟨f,h,w,g,o,rfl,hf,F,?_⟩;unfold anoB at q
 cases hb:(decide (0<=o)&&decide (o<h*w)) with
 | false=>
  rw[hb,Mb] at q;exact⟨false,rfl,iteF q⟩
 | true=>
  rw[hb,Mf] at q;rw[LT,LO,LO] at hb;refine⟨true,rfl,iteT ?_⟩;symm
  cases hb2:decide (o=z) with
  | true=>
   rw[hb2,NF,Mb] at q;symm;exact q
  | false=>
   rw[hb2,NW,Mf] at q;symm;refine ixI hA hb.1 (by omega) ?_;symm;exact⟨_,m,rfl,by omega,q⟩
def thrL(cs LA:List Int)(m z:Int):List Int:=(cs.filter fun x=>!decide (x=z)).filter fun x=>stB (LA.getD x.toNat 0) m
noncomputable def reaB (h w:Int) (cs:List Int) (m:Int) (LA:List Int) (z s:Int) (ms:List Int):Bool:=
 (ms.all fun o=>anoB h w LA z m o)&&(if s=m then decide (ms.length=1)&&!rcB h w (thrL cs LA m z++[z]) z (ms.getD 0 0)
  else decide (ms.length=2)&&(!decide (ms.getD 0 0=ms.getD 1 0)&&!rcB h w (thrL cs LA m z) (ms.getD 0 0) (ms.getD 1 0)))
def iw(K:Frag)(c:RCl RK):Sp:=fun vs H Q _=>∃(k:RK) (f r p A M:Addr) (ws:List (List Nat)) (cs LA ms:List Int) (n m z s h w g:Int),vs=[.ref f,.ref r,.ref A,.int z,.int s,.ref M]/\IsFl H f h w g/\FlOk h w g/\IsRule H c k r p ws cs n m/\aK cs LA.length/\cs.length<=60/\LA.length=(h*w).toNat/\H A=some (.lst (LA.map V.int))/\H M=some (.lst (ms.map V.int))/\ms.length<=100/\m<=1000/\∀ H',Same H H'->Q (.bl (reaB h w cs m LA z s ms)) H'
def fj(K:Frag)(c:RCl RK):TS:=
 (tSeq (tIfS (tTest (tOp (cEq K) (tVar 4) (tVar 6))) (tRet (tAndV (tOp (cEq K) (tCB kLen (tCons (tVar 5) tNil)) (tC (.int 1))) (tOp (cIn K true) (tOp cIx (tVar 5) (tC (.int 0))) (tCall (d3 K) [] E0 (tCons (tVar 0) (tCons (tOp cAdd (tVar 7) (tLst (tCons (tVar 3) tNil))) (tCons (tVar 3) tNil))))))) tNext)
  (tSeq (tIfS (tOr (tTest (tOp (cNe K) (tCB kLen (tCons (tVar 5) tNil)) (tC (.int 2)))) (tTest (tOp (cEq K) (tOp cIx (tVar 5) (tC (.int 0))) (tOp cIx (tVar 5) (tC (.int 1)))))) (tRet (tC (.bl false))) tNext)
  (tRet (tOp (cIn K true) (tOp cIx (tVar 5) (tC (.int 1))) (tCall (d3 K) [] E0 (tCons (tVar 0) (tCons (tVar 7) (tCons (tOp cIx (tVar 5) (tC (.int 0))) tNil))))))))
def fk(K:Frag)(c:RCl RK):TS:=
 (tSeq (sComp 7 [none,none,some 6,some 2] (iList K (tCall (bE K c) [] E0 (tCons (tVar 1) (tCons (tVar 3) tNil)))) (gName 1) (tB (tCall (gf K) [] E0 (tCons (tOp cIx (tVar 3) (tVar 1)) (tCons (tVar 2) tNil)))) (tVar 1))
  (fj K c))
def iy(K:Frag)(c:RCl RK):TS:=
 (tSeq (tAsg (aF c c.ok "sign" (iK K c) (tVar 1) tNil) (gName 6))
  (tSeq (tIfS (tNot (tB (tCB kAll (tCons (tComp [none,none,some 3,some 0,some 6,some 2] (iList K (tVar 5)) (gName 1) tTrue (tCall (cS K) [] E0 (tCons (tVar 3) (tCons (tVar 5) (tCons (tVar 2) (tCons (tVar 1) (tCons (tVar 4) tNil))))))) tNil)))) (tRet (tC (.bl false))) tNext)
  (fk K c)))
variable{M:Addr}{v1:V}
theorem qG {f N:Addr} {T:List Int} (hf:IsFl H f h w g) (F:FlOk h w g) (hM:H M=some (.lst (ms.map V.int))) (hN:H N=some (.lst (T.map V.int))) (hT:T.length<=60)
  (q:∀ H',Same H H'->Q (.bl (if s=m then decide (ms.length=1)&&!rcB h w (T++[z]) z (ms.getD 0 0) else decide (ms.length=2)&&(!decide (ms.getD 0 0=ms.getD 1 0)&&!rcB h w T (ms.getD 0 0) (ms.getD 1 0)))) H'):
  fj K c (eD9 Q) [some (.ref f),some v1,some (.ref A),some (.int z),some (.int s),some (.ref M),some (.int m),some (.ref N)] H:=by
 have w0:=F.w0;have w1:=F.w1;unfold fj;rw[aD,ax];symm;by_cases hs:s=m
 . rw[Md hs] at q;rw[LU hs];symm;rw[bc hM,LM];symm
   have e1:decide ((ms.length:Int)=1)=decide (ms.length=1):=by
    rw[Mn,LO,LO];omega
   rw[e1]
   cases hb:decide (ms.length=1) with
   | false=>
    rw[hb,Mb] at q;symm;exact q _ (LQ _)
   | true=>
    rw[hb,Mf] at q;have hl:=LX hb;symm;refine ixI hM (by decide) (by omega) ?_;rw[show(0:Int).toNat=0 from rfl];symm;refine⟨lnR rfl,fun l hl2=>?_⟩;obtain⟨H1,z9,s1,el⟩:=aU (.lst [V.int z]) hl2;rw[z9];refine lR (s1 _ _ hN) el (by simp;omega) fun Y hY=>?_;have s2:Same H1 (upd H1 Y (.lst (T.map V.int++[V.int z]))):=(LQ H1).laid hY;have eY:(upd H1 Y (.lst (T.map V.int++[V.int z]))) Y=some (.lst ((T++[z]).map V.int)):=by rw[ag];simp
    generalize upd H1 Y (.lst (T.map V.int++[V.int z]))=H2 at*;have s12:=s1.trans s2;symm;refine⟨f,Y,h,w,g,z,_,rfl,s12 _ _ hf,by omega,by omega,eY,by simp;omega,fun p H3 rs s3 hp ep _ hx=>?_⟩;dsimp only;rw[lx ep,Al (hx _)];exact q _ (s12.trans s3)
 . rw[L4 hs] at q;rw[LR hs];symm;rw[ax];symm;rw[bc hM,LM];symm
   have e1:decide ((ms.length:Int)=2)=decide (ms.length=2):=by
    rw[Mn,LO,LO];omega
   rw[e1]
   cases hb:decide (ms.length=2) with
   | false=>
    rw[hb,Mb] at q;symm;exact q _ (LQ _)
   | true=>
    rw[hb,Mf] at q;have hl:=LX hb;symm;refine ixI hM (by decide) (by omega) ?_;rw[show(0:Int).toNat=0 from rfl];symm;refine ixI hM (by decide) (by omega) ?_;rw[show(1:Int).toNat=1 from rfl];symm
    cases hb2:decide (ms.getD 0 0=ms.getD 1 0) with
    | true=>
     rw[hb2,NF,Mb] at q;symm;exact q _ (LQ _)
    | false=>
     rw[hb2,NW,Mf] at q;symm;refine ixI hM (by decide) (by omega) ?_;rw[show(1:Int).toNat=1 from rfl];symm;refine ixI hM (by decide) (by omega) ?_;rw[show(0:Int).toNat=0 from rfl];symm;refine⟨f,N,h,w,g,_,_,rfl,hf,by omega,by omega,hN,by omega,fun p H3 rs s3 hp ep _ hx=>?_⟩;dsimp only;rw[lx ep,Al (hx _)];exact q _ s3
theorem qH {k:RK} {f r:Addr} {ws:List (List Nat)} {n:Int} (hf:IsFl H f h w g) (F:FlOk h w g) (x:IsRule H c k r p ws cs n m) (hC:aK cs LA.length) (hml:LA.length=(h*w).toNat) (hA:H A=some (.lst (LA.map V.int))) (hM:H M=some (.lst (ms.map V.int)))
  (q:∀ H',Same H H'->Q (.bl (if s=m then decide (ms.length=1)&&!rcB h w (thrL cs LA m z++[z]) z (ms.getD 0 0) else decide (ms.length=2)&&(!decide (ms.getD 0 0=ms.getD 1 0)&&!rcB h w (thrL cs LA m z) (ms.getD 0 0) (ms.getD 1 0)))) H') (hcs:cs.length<=60):
  fk K c (eD9 Q) [some (.ref f),some (.ref r),some (.ref A),some (.int z),some (.int s),some (.ref M),some (.int m),none] H:=by
 unfold fk;symm;refine⟨k,r,p,ws,cs,n,m,z,rfl,x,hC.1,fun O H1 s1 hO eO=>?_⟩;have hfl:=L9 (fun x=>!decide (x=z)) cs;refine⟨O,rfl,⟨_,Mc eO⟩,?_⟩;refine bf (xs:=cs.filter fun x=>!decide (x=z)) (fun x=>stB (LA.getD x.toNat 0) m) (fun x=>x) (by omega) (Mc eO) ?_ ?_ ?_
 . intro y H2 R hy s2 k2;have hyc:=hC.2 y (LS.mp hy).1;show tB _ [none,some (.int y),some (.int m),some (.ref A)] H2 R;symm;refine ixI ((s1.trans s2) _ _ hA) hyc.1 hyc.2 ?_;symm;exact⟨_,m,rfl,_,rfl,k2 _ (LQ _)⟩
 . intro y H2 Q2 hy hb s2 k2;show tVar 1 [none,some (.int y),some (.int m),some (.ref A)] H2 Q2;symm;exact k2 _ (LQ _)
 . intro N H2 hN s2 eN;rw[Nh] at eN;have s12:=s1.trans s2;symm;refine qG (s12 _ _ hf) F (s12 _ _ hM) (T:=thrL cs LA m z) eN ?_ fun H' s3=>q H' (s12.trans s3);unfold thrL;have:=L9 (fun x=>stB (LA.getD x.toNat 0) m) (cs.filter fun x=>!decide (x=z));omega
theorem uz(h:iw K c vs H Q E):iy K c (eD9 Q) (start ["floor","rule","masks","cell","sign","more","mark","through"] vs) H:=by
 obtain⟨k,f,r,p,A,M,ws,cs,LA,ms,n,m,z,s,h,w,g,rfl,hf,F,x,hC,hcs,hml,hA,hM,hmn,hm,q⟩:=h;obtain⟨dx,W,C,h1,h2,h3⟩:=x.ex;show iy K c _ [some (.ref f),some (.ref r),some (.ref A),some (.int z),some (.int s),some (.ref M),none,none] H;unfold iy;rw[aD,bI];refine methE (k:=k) rfl x.ok h1 (by rfl) ?_;symm;refine⟨r,p,ws,cs,n,m,rfl,x,?_⟩;symm;rw[ax];symm;refine⟨⟨_,Mc hM⟩,?_⟩;refine bN (xs:=ms.map V.int) (fun _=>true) (fun i=>.bl (anoB h w LA z m (ms.getD i 0))) (by rw[LM];omega) (Mc hM) ?_ ?_ ?_
 . intro i y H1 R hy s1 k1;exact k1 _ (LQ _)
 . intro i y H1 Q1 hy hb s1 k1;obtain⟨v,hv,rfl⟩:=aP hy;have eg:ms.getD i 0=v:=by rw[List.getD,hv];rfl
   rw[eg] at k1;show tCall _ _ _ _ [none,some (.int v),some (.int z),some (.ref f),some (.int m),some (.ref A)] H1 Q1;symm;exact⟨f,A,h,w,g,z,v,m,LA,rfl,s1 _ _ hf,F,s1 _ _ hA,hml,hm,k1 _ (LQ _)⟩
 . intro l H1 hl s1 el
   have eb:((List.range (ms.map V.int).length).filter fun _=>true).map (fun i=>V.bl (anoB h w LA z m (ms.getD i 0)))=(ms.map fun o=>anoB h w LA z m o).map V.bl:=by
    rw[a9,LM,Mv];refine Pj (by simp) fun i h1 h2=>?_;have hi:i<ms.length:=by simpa using h2
    simp[List.getD,LN hi]
   rw[eb] at el;refine lz el ?_;have ea:(ms.map fun o=>anoB h w LA z m o).all id=ms.all fun o=>anoB h w LA z m o:=by rw[NP];rfl
   rw[ea];unfold reaB at q
   cases hb:(ms.all fun o=>anoB h w LA z m o) with
   | false=>
    rw[hb,Mb] at q;refine⟨false,rfl,?_⟩;symm;exact q _ s1
   | true=>
    rw[hb,Mf] at q;refine⟨true,rfl,?_⟩;symm;exact qH (s1 _ _ hf) F (x.same s1) hC hml (s1 _ _ hA) (s1 _ _ hM) (fun H' s2=>q H' (s1.trans s2)) hcs
theorem mX{k:RK}(h:goesB .reach k=true):sgnK k=true:=by cases k <;> first | rfl | cases h
theorem RR.len26{r:RR}(O:r.Ok h w g)(F:FlOk h w g):r.cs.length<=60:=by
 have m16:=F.m
 cases hk:allK r.k with
 | false=>
  obtain⟨c1,c2,c3,c4,e⟩:=O.cl.told hk;rw[e,LM];omega
 | true=>
  obtain⟨_,e⟩:=O.cl.all hk;rw[e,j4];omega
def Eg(p:Int->Int->Bool):Bool:=(List.range 7).all fun(h:Nat)=>(List.range 7).all fun(w:Nat)=>!(decide (1<=h)&&decide (1<=w)&&decide (h*w<=16))||p h w
theorem Eh{p:Int->Int->Bool}(a:Eg p=true){h w g:Int}(F:FlOk h w g):p h w=true:=by
 obtain⟨h0,h1,w0,w1,m16,g0,g1⟩:=F;obtain⟨n,rfl⟩:=NJ (show 0<=h by omega);obtain⟨m,rfl⟩:=NJ (show 0<=w by omega);have a1:=L3.mp a n (LZ.mpr (by omega));have a2:=L3.mp a1 m (LZ.mpr (by omega));have e1:1<=n:=by omega
 have e2:1<=m:=by omega
 have e3:n*m<=16:=by have:((n*m:Nat):Int)<=16:=by rw[Int.natCast_mul];exact m16
                     omega
 simpa [e1,e2,e3] using a2
def nearS(h w d r:Int):List Int:=if (decide (0<=d)&&decide (d<h))&&(decide (0<=r)&&decide (r<w)) then [d*w+r] else []
def nearP(w c:Int):List (Int × Int):=[(c/w-1,c%w),(c/w,c%w-1),(c/w,c%w+1),(c/w+1,c%w)]
def nearL(h w c:Int):List Int:=(nearP w c).flatMap fun p=>nearS h w p.1 p.2
theorem CG:Eg (fun h w=>(List.range (h*w).toNat).all fun(c:Nat)=>decide (nearL h w c=besL h w c)&&(besL h w c).all fun x=>decide (0<=x)&&decide (x<h*w))=true:=by decide+kernel
theorem vS{c:Int}(F:FlOk h w g)(c0:0<=c)(c1:c<h*w):nearL h w c=besL h w c/\∀ x∈besL h w c,0<=x/\x<h*w:=by
 have t:=L3.mp (Eh CG F) c.toNat (LZ.mpr (by omega));have e1:((c.toNat:Nat):Int)=c:=by omega
 rw[e1,LT,LO,L3] at t;refine⟨t.1,fun x hx=>?_⟩;have:=t.2 x hx
 simpa using this
theorem uA{c:Int}(F:FlOk h w g)(c0:0<=c)(c1:c<h*w)(hn:n=(h*w).toNat):aK (besL h w c) n:=by
 refine⟨L8 (uk ..) (by decide),fun x hx=>?_⟩;have:=(vS F c0 c1).2 x hx;omega
def arL(h w o z:Int):List Int:=(besL h w o).filter fun x=>!decide (x=z)
def rA(K:Frag):Sp:=fun vs H Q _=>∃(a:Addr) (h w g o z:Int),vs=[.ref a,.int o,.int z]/\IsFl H a h w g/\FlOk h w g/\∀ l H',Same H H'->H l=none->H' l=some (.lst ((arL h w o z).map V.int))->Q (.ref l) H'
def rB(K:Frag):TS:=
 (tRet (tComp [none,none,some 2] (iList K (tCall (dO K) [] E0 (tCons (tVar 0) (tCons (tVar 1) tNil)))) (gName 1) (tTest (tOp (cNe K) (tVar 1) (tVar 2))) (tVar 1)))
theorem Ei(h:rA K vs H Q E):rB K (eD9 Q) (start ["floor","middle","cell"] vs) H:=by
 obtain⟨a,h,w,g,o,z,rfl,ha,F,q⟩:=h;have w0:=F.w0;have w1:=F.w1;show rB K _ [some (.ref a),some (.int o),some (.int z)] H;unfold rB;rw[cR,bO];symm;refine⟨a,h,w,g,o,rfl,ha,by omega,by omega,fun l H1 s1 hl el=>?_⟩;have hb:=uk h w o;refine⟨l,rfl,⟨_,Mc el⟩,?_⟩;refine bf (xs:=besL h w o) (fun x=>!decide (x=z)) (fun x=>x) (by omega) (Mc el) ?_ ?_ ?_
 . intro y H2 R hy s2 k2;show tTest _ [none,some (.int y),some (.int z)] H2 R;symm;exact k2 _ (LQ _)
 . intro y H2 Q2 hy hb s2 k2;show tVar 1 [none,some (.int y),some (.int z)] H2 Q2;symm;exact k2 _ (LQ _)
 . intro T H2 hT s2 eT;rw[Nh] at eT;exact q T H2 (s1.trans s2) (s1.free hT) eT
def mayN(LA:List Int)(m:Int)(cs:List Int):Nat:=((sgAt LA cs).filter fun k=>stB k m).length
def onlN(LA:List Int)(m:Int)(cs:List Int):Nat:=((sgAt LA cs).filter fun k=>decide (woI k m=0)).length
def turnB(h w m:Int)(LA:List Int)(z s:Int)(ms:List Int):Bool:=
 if ms=[] then decide (s=m)&&(decide ((mayN LA m (besL h w z):Int)<2)||decide ((2:Int) < (onlN LA m (besL h w z):Int)))
 else decide (ms.length=1)&&(decide (ms.getD 0 0∈besL h w z)&&(decide (woI (LA.getD (ms.getD 0 0).toNat 0) m=0)&&
  (if s=m then decide ((2:Int)<=(onlN LA m (arL h w (ms.getD 0 0) z):Int)) else decide ((mayN LA m (arL h w (ms.getD 0 0) z):Int)<2))))
def jv(K:Frag)(c:RCl RK):Sp:=fun vs H Q _=>∃(k:RK) (f r p A M:Addr) (ws:List (List Nat)) (cs LA ms:List Int) (n m z s h w g:Int),vs=[.ref f,.ref r,.ref A,.int z,.int s,.ref M]/\IsFl H f h w g/\FlOk h w g/\IsRule H c k r p ws cs n m/\LA.length=(h*w).toNat/\H A=some (.lst (LA.map V.int))/\H M=some (.lst (ms.map V.int))/\m<=1000/\0<=z/\z<h*w/\∀ H',Same H H'->Q (.bl (turnB h w m LA z s ms)) H'
def gk(K:Frag)(c:RCl RK):TS:=
 (tSeq (tAsg (tCall (bW K) [] E0 (tCons (tVar 2) (tCons (tCall (rA K) [] E0 (tCons (tVar 0) (tCons (tOp cIx (tVar 5) (tC (.int 0))) (tCons (tVar 3) tNil)))) tNil))) (gName 7))
  (tSeq (tIfS (tTest (tOp (cEq K) (tVar 4) (tVar 6))) (tRet (tOp (cCmp fun i j=>decide (j<=i)) (tCall (dM K) [] E0 (tCons (tVar 7) (tCons (tVar 6) tNil))) (tC (.int 2)))) tNext)
  (tRet (tOp (cCmp fun i j=>decide (i<j)) (tCall (fe K) [] E0 (tCons (tVar 7) (tCons (tVar 6) tNil))) (tC (.int 2))))))
def gl(K:Frag)(c:RCl RK):TS:=
 (tSeq (tIfS (tOr (tTest (tOp (cNe K) (tCB kLen (tCons (tVar 5) tNil)) (tC (.int 1)))) (tOr (tTest (tOp (cIn K true) (tOp cIx (tVar 5) (tC (.int 0))) (tCall (dO K) [] E0 (tCons (tVar 0) (tCons (tVar 3) tNil))))) (tNot (tB (tCall (ck K) [] E0 (tCons (tOp cIx (tVar 2) (tOp cIx (tVar 5) (tC (.int 0)))) (tCons (tVar 6) tNil))))))) (tRet (tC (.bl false))) tNext)
  (gk K c))
def jw(K:Frag)(c:RCl RK):TS:=
 (tSeq (tAsg (aF c c.ok "sign" (iK K c) (tVar 1) tNil) (gName 6))
  (tSeq (tIfS (tTest (tOp (cEq K) (tVar 5) (tLst tNil))) (tSeq (tAsg (tCall (bW K) [] E0 (tCons (tVar 2) (tCons (tCall (dO K) [] E0 (tCons (tVar 0) (tCons (tVar 3) tNil))) tNil))) (gName 7))
  (tRet (tAndV (tOp (cEq K) (tVar 4) (tVar 6)) (tOrV (tOp (cCmp fun i j=>decide (i<j)) (tCall (fe K) [] E0 (tCons (tVar 7) (tCons (tVar 6) tNil))) (tC (.int 2))) (tOp (cCmp fun i j=>decide (j<i)) (tCall (dM K) [] E0 (tCons (tVar 7) (tCons (tVar 6) tNil))) (tC (.int 2))))))) tNext)
  (gl K c)))
theorem rC {f:Addr} (hf:IsFl H f h w g) (F:FlOk h w g) (hml:LA.length=(h*w).toNat) (hA:H A=some (.lst (LA.map V.int))) (hM:H M=some (.lst (ms.map V.int))) (hl:ms.length=1) (hm:m<=1000) (z0:0<=z) (z1:z<h*w) (ho:ms.getD 0 0∈besL h w z)
  (q:∀ H',Same H H'->Q (.bl (if s=m then decide ((2:Int)<=(onlN LA m (arL h w (ms.getD 0 0) z):Int)) else decide ((mayN LA m (arL h w (ms.getD 0 0) z):Int)<2))) H'):
  gk K c (eD9 Q) [some (.ref f),some v1,some (.ref A),some (.int z),some (.int s),some (.ref M),some (.int m),none] H:=by
 have oin:=(vS F z0 z1).2 _ ho;have bin:=uA (n:=LA.length) F oin.1 oin.2 hml;have hin:aK (arL h w (ms.getD 0 0) z) LA.length:=⟨L8 (L9 _ _) bin.1,fun x hx=>bin.2 x (LS.mp hx).1⟩;unfold gk;symm;refine ixI hM (by decide) (by omega) ?_;rw[show(0:Int).toNat=0 from rfl];symm;refine⟨f,h,w,g,_,z,rfl,hf,F,fun R H1 s1 hR eR=>?_⟩;symm;refine⟨A,R,LA,_,rfl,s1 _ _ hA,eR,hin,fun B H3 s3 hB eB=>?_⟩;have LJ:(sgAt LA (arL h w (ms.getD 0 0) z)).length<=63:=by unfold sgAt;rw[LM];exact hin.1
 symm;rw[ax];symm;by_cases hs:s=m
 . rw[LU hs];rw[Md hs] at q;symm;refine⟨B,_,_,rfl,eB,LJ,by omega,fun H4 s4=>?_⟩;symm;exact q _ ((s1.trans s3).trans s4)
 . rw[LR hs];rw[L4 hs] at q;symm;refine⟨B,_,_,rfl,eB,LJ,fun H4 s4=>?_⟩;symm;exact q _ ((s1.trans s3).trans s4)
theorem rD {f:Addr} (hf:IsFl H f h w g) (F:FlOk h w g) (hml:LA.length=(h*w).toNat) (hA:H A=some (.lst (LA.map V.int))) (hM:H M=some (.lst (ms.map V.int))) (hm:m<=1000) (z0:0<=z) (z1:z<h*w)
  (q:∀ H',Same H H'->Q (.bl (decide (ms.length=1)&&(decide (ms.getD 0 0∈besL h w z)&&(decide (woI (LA.getD (ms.getD 0 0).toNat 0) m=0)&&(if s=m then decide ((2:Int)<=(onlN LA m (arL h w (ms.getD 0 0) z):Int)) else decide ((mayN LA m (arL h w (ms.getD 0 0) z):Int)<2)))))) H'):
  gl K c (eD9 Q) [some (.ref f),some v1,some (.ref A),some (.int z),some (.int s),some (.ref M),some (.int m),none] H:=by
 have w0:=F.w0;have w1:=F.w1;unfold gl;rw[aD,ax];symm;rw[bc hM,LM];symm
 have e1:decide ((ms.length:Int)=1)=decide (ms.length=1):=by
  rw[Mn,LO,LO];omega
 rw[e1]
 cases hb:decide (ms.length=1) with
 | false=>
  rw[hb,Mb] at q;symm;exact q _ (LQ _)
 | true=>
  rw[hb,Mf] at q;have hl:=LX hb;symm;refine ixI hM (by decide) (by omega) ?_;rw[show(0:Int).toNat=0 from rfl];symm;refine⟨f,h,w,g,z,rfl,hf,by omega,by omega,fun R H1 s1 hR eR=>?_⟩;dsimp only;rw[lx eR]
  cases hb2:decide (ms.getD 0 0∈besL h w z) with
  | false=>
   rw[hb2,Mb] at q;refine⟨true,rfl,iteT ?_⟩;symm;exact q _ s1
  | true=>
   rw[hb2,Mf] at q;have ho:=LX hb2;have oin:=(vS F z0 z1).2 _ ho;refine⟨false,rfl,iteF ?_⟩;symm;refine ixI (s1 _ _ hM) (by decide) (by omega) ?_;rw[show(0:Int).toNat=0 from rfl];symm;refine ixI (s1 _ _ hA) (by omega) (by omega) ?_;symm;refine⟨_,m,rfl,by omega,?_⟩
   cases hb3:decide (woI (LA.getD (ms.getD 0 0).toNat 0) m=0) with
   | false=>
    rw[hb3,Mb] at q;refine⟨false,rfl,iteT ?_⟩;symm;exact q _ s1
   | true=>
    rw[hb3,Mf] at q;refine⟨true,rfl,iteF ?_⟩;exact rC (s1 _ _ hf) F hml (s1 _ _ hA) (s1 _ _ hM) hl hm z0 z1 ho fun H' s2=>q H' (s1.trans s2)
theorem vT(h:jv K c vs H Q E):jw K c (eD9 Q) (start ["floor","rule","masks","cell","sign","more","mark","some"] vs) H:=by
 obtain⟨k,f,r,p,A,M,ws,cs,LA,ms,n,m,z,s,h,w,g,rfl,hf,F,x,hml,hA,hM,hm,z0,z1,q⟩:=h;obtain⟨dx,W,C,h1,h2,h3⟩:=x.ex;have w0:=F.w0;have w1:=F.w1;show jw K c _ [some (.ref f),some (.ref r),some (.ref A),some (.int z),some (.int s),some (.ref M),none,none] H;unfold jw;rw[aD,bI];refine methE (k:=k) rfl x.ok h1 (by rfl) ?_;symm;refine⟨r,p,ws,cs,n,m,rfl,x,?_⟩;symm;rw[ax];symm;refine⟨aQ (by decide),fun Z hZ=>?_⟩;obtain⟨H1,z9,s1,eZ⟩:∃ z,upd H Z (.lst [])=z/\Same H z/\z Z=some (.lst (([]:List Int).map V.int)):=aU _ hZ;rw[z9];refine vj (s1 _ _ hM) eZ ?_;unfold turnB at q;by_cases hms:ms=[]
 . rw[Md hms] at q;rw[LU hms];refine⟨true,rfl,?_⟩;symm;refine⟨f,h,w,g,z,rfl,s1 _ _ hf,by omega,by omega,fun R H2 s2 hR eR=>?_⟩;have bin:=uA (n:=LA.length) F z0 z1 hml;symm;refine⟨A,R,LA,_,rfl,(s1.trans s2) _ _ hA,eR,bin,fun B H3 s3 hB eB=>?_⟩;have LJ:(sgAt LA (besL h w z)).length<=63:=by unfold sgAt;rw[LM];exact bin.1
   have s13:=(s1.trans s2).trans s3;symm
   cases hb:decide (s=m) with
   | false=>
    rw[hb,Mb] at q;symm;exact q _ s13
   | true=>
    rw[hb,Mf] at q;symm;refine⟨B,_,_,rfl,eB,LJ,fun H4 s4=>?_⟩;symm;have e1:decide ((((sgAt LA (besL h w z)).filter fun k=>stB k m).length:Int)<2)=decide ((mayN LA m (besL h w z):Int)<2):=rfl;rw[e1]
    cases hb2:decide ((mayN LA m (besL h w z):Int)<2) with
    | true=>
     rw[hb2,Oh] at q;symm;exact q _ (s13.trans s4)
    | false=>
     rw[hb2,Nf] at q;symm;refine⟨B,_,_,rfl,s4 _ _ eB,LJ,by omega,fun H5 s5=>?_⟩;symm;exact q _ ((s13.trans s4).trans s5)
 . rw[L4 hms] at q;rw[LR hms];refine⟨false,rfl,?_⟩;symm;exact rD (s1 _ _ hf) F hml (s1 _ _ hA) (s1 _ _ hM) hm z0 z1 fun H' s2=>q H' (s1.trans s2)
theorem uB(t:TK):decide (tkC t=[114,101,97,99,104])=decide (t=.reach):=by cases t <;> decide
theorem Ej{k:RK}(h:goesB .turn k=true):sgnK k=true:=by cases k <;> first | rfl | cases h
noncomputable def gm (h w:Int) (t:TK) (x:RR) (LA:List Int) (z s:Int) (ms:List Int):Bool:=match t with
 | .square=>squB h w x.m LA z s ms
 | .reach=>reaB h w x.cs x.m LA z s ms
 | _=>turnB h w x.m LA z s ms
noncomputable def eF (h w:Int) (LC:List RR) (LA:List Int) (t:TK) (r z s:Int) (ms:List Int):Bool:=match LC[r.toNat]? with
 | none=>false
 | some x=>gm h w t x LA z s ms
abbrev Hu(t:TK):Prop:=t=.square\/t=.reach\/t=.turn
def dw(K:Frag)(c:RCl RK)(d:RCl PzK):Sp:=fun vs H Q _=>∃(P L G A T M:Addr) (h w g:Int) (LC:List RR) (cl LA:List Int) (t:TK) (r z s:Int) (ms:List Int),vs=[.ref P,.ref A,.ref T]/\Asks H c d P L G A T M h w g LC cl LA t r z s ms/\Hu t/\formB h w g LC t r z s=true/\∀ H',Same H H'->Q (.bl (eF h w LC LA t r z s ms)) H'
def dz(K:Frag)(c:RCl RK)(d:RCl PzK):TS:=
 (tSeq (tAsg (aF d d.ok "place" (ik K c d) (tVar 0) tNil) (gName 3))
  (tSeq (tAsg (tOp cIx (aF d d.ok "rules" (cN K c d) (tVar 0) tNil) (tOp cIx (tVar 2) (tC (.int 1)))) (gName 4))
  (tSeq (tIfS (tTest (tOp (cEq K) (tOp cIx (tVar 2) (tC (.int 0))) (tC (.str (tx [115,113,117,97,114,101]))))) (tRet (tCall (gD K c) [] E0 (tCons (tVar 3) (tCons (tVar 4) (tCons (tVar 1) (tCons (tOp cIx (tVar 2) (tC (.int 2))) (tCons (tOp cIx (tVar 2) (tC (.int 3))) (tCons (tOp cIx (tVar 2) (tC (.int 4))) tNil)))))))) tNext)
  (tSeq (tIfS (tTest (tOp (cEq K) (tOp cIx (tVar 2) (tC (.int 0))) (tC (.str (tx [114,101,97,99,104]))))) (tRet (tCall (iw K c) [] E0 (tCons (tVar 3) (tCons (tVar 4) (tCons (tVar 1) (tCons (tOp cIx (tVar 2) (tC (.int 2))) (tCons (tOp cIx (tVar 2) (tC (.int 3))) (tCons (tOp cIx (tVar 2) (tC (.int 4))) tNil)))))))) tNext)
  (tRet (tCall (jv K c) [] E0 (tCons (tVar 3) (tCons (tVar 4) (tCons (tVar 1) (tCons (tOp cIx (tVar 2) (tC (.int 2))) (tCons (tOp cIx (tVar 2) (tC (.int 3))) (tCons (tOp cIx (tVar 2) (tC (.int 4))) tNil))))))))))))
variable{d:RCl PzK}
theorem og(h:dw K c d vs H Q E):dz K c d (eD9 Q) (start ["puzzle","masks","thought","floor","rule"] vs) H:=by
 obtain⟨P,L,G,A,T,M,h,w,g,LC,cl,LA,t,r,z,s,ms,rfl,X,ht,f,q⟩:=h;obtain⟨dx,p,rs,h1,h2,h3⟩:=X.P.ex;obtain⟨z0,z1,s0,s1',LL⟩:=bj f;have hg:=X.P.R.F.g1;have hnc:t≠.clue:=by rcases ht with rfl | rfl | rfl <;> decide
 obtain⟨r0,y,ey,hgo,hz⟩:=dL hnc LL;have O:=X.P.R.ok y (LV ey)
 have q2:∀ H',Same H H'->Q (.bl (gm h w t y LA z s ms)) H':=fun H' s'=>by
  have q1:=q H' s';unfold eF at q1;rw[ey] at q1;exact q1
 show dz K c d _ [some (.ref P),some (.ref A),some (.ref T),none,none] H;unfold dz;rw[aD,bI];refine methE (k:=.Puzzle) rfl X.P.ok h1 (by rfl) ?_;symm;refine⟨P,L,G,h,w,g,LC,cl,rfl,X.P,fun p3 hp3=>?_⟩;symm;refine methE (k:=.Puzzle) rfl X.P.ok h1 (by rfl) ?_;symm;refine⟨P,L,G,h,w,g,LC,cl,rfl,X.P,fun l p2 rs2 hl hp2 Y=>?_⟩;have s2:Same H (upd H l (.lst (rs2.map V.ref))):=(LQ H).laid hl;generalize upd H l (.lst (rs2.map V.ref))=H1 at*;have hlt:=(LP.mp ey).1;have LJ:=Y.len;have ea:rs2[r.toNat]? =some rs2[r.toNat]:=LN (by omega);dsimp only;refine ixT (s2 _ _ X.T.T) (v:=V.int r) rfl ?_;refine ixL Y.top (f7 r0 ea) ?_;symm;rw[ax];symm;refine ixT (s2 _ _ X.T.T) (v:=V.str (tx (tkC t))) rfl ?_;symm;rw[bg,yq];rcases ht with rfl | rfl | rfl
 . rw[LU rfl];refine iteT ?_;symm;refine ixT (s2 _ _ X.T.T) (v:=V.int z) rfl ?_;symm;refine ixT (s2 _ _ X.T.T) (v:=V.int s) rfl ?_;symm;refine ixT (s2 _ _ X.T.T) (v:=V.ref M) rfl ?_;symm;exact⟨_,p3,_,p2,A,M,_,y.cs,LA,ms,_,_,z,s,h,w,g,rfl,s2 _ _ hp3,X.P.R.F,Y.at_ _ _ _ ea ey,X.n,s2 _ _ X.A,s2 _ _ X.T.M,by omega,fun H' s3=>q2 H' (s2.trans s3)⟩
 . have ym:=(O.m0 (mX hgo)).2;rw[LR (show ¬ TK.reach=TK.square by decide)];refine iteF ?_;rw[ax];symm;refine ixT (s2 _ _ X.T.T) (v:=V.str (tx (tkC .reach))) rfl ?_;symm;rw[bg,uB,LU rfl];refine iteT ?_;symm;refine ixT (s2 _ _ X.T.T) (v:=V.int z) rfl ?_;symm;refine ixT (s2 _ _ X.T.T) (v:=V.int s) rfl ?_;symm;refine ixT (s2 _ _ X.T.T) (v:=V.ref M) rfl ?_;symm;have hin:aK y.cs LA.length:=by rw[X.n];exact N8 O X.P.R.F
   exact⟨_,p3,_,p2,A,M,_,y.cs,LA,ms,_,_,z,s,h,w,g,rfl,s2 _ _ hp3,X.P.R.F,Y.at_ _ _ _ ea ey,hin,RR.len26 O X.P.R.F,X.n,s2 _ _ X.A,s2 _ _ X.T.M,X.T.n,by omega,fun H' s3=>q2 H' (s2.trans s3)⟩
 . have ym:=(O.m0 (Ej hgo)).2;rw[LR (show ¬ TK.turn=TK.square by decide)];refine iteF ?_;rw[ax];symm;refine ixT (s2 _ _ X.T.T) (v:=V.str (tx (tkC .turn))) rfl ?_;symm;rw[bg,uB,LR (show ¬ TK.turn=TK.reach by decide)];refine iteF ?_;symm;refine ixT (s2 _ _ X.T.T) (v:=V.int z) rfl ?_;symm;refine ixT (s2 _ _ X.T.T) (v:=V.int s) rfl ?_;symm;refine ixT (s2 _ _ X.T.T) (v:=V.ref M) rfl ?_;symm;exact⟨_,p3,_,p2,A,M,_,y.cs,LA,ms,_,_,z,s,h,w,g,rfl,s2 _ _ hp3,X.P.R.F,Y.at_ _ _ _ ea ey,X.n,s2 _ _ X.A,s2 _ _ X.T.M,by omega,z0,z1,fun H' s3=>q2 H' (s2.trans s3)⟩
theorem kb(m0:0<=m)(x:Int):x∈sgL m↔stB m x=true:=by
 unfold sgL;rw[L1];constructor
 . rintro⟨i,hi,rfl⟩;exact(LS.mp hi).2
 . intro h;have h':=h;unfold stB at h';rw[LT,LT] at h';have a:=LX h'.1;have b:=LX h'.2.1;refine⟨(x-1).toNat,LS.mpr ⟨LZ.mpr (by omega),?_⟩,by omega⟩;rw[show 1+(((x-1).toNat:Nat):Int)=x by omega];exact h
theorem Am{f:Nat->Int}(hf:∀ a b,f a=f b->a=b):∀{xs:List Nat},xs.Nodup->(xs.map f).Nodup
 | [],_=>Oj
 | x::r,h=>by
  rw[MX] at h;rw[MB,MX];refine⟨fun hx=>?_,Am hf h.2⟩;obtain⟨y,hy,e⟩:=L1.mp hx;exact h.1 (hf _ _ e ▸ hy)
theorem rE(m:Int):(sgL m).Nodup:=by
 unfold sgL;exact Am (f:=fun(i:Nat)=>1+(i:Int)) (fun a b e=>by have e':(1:Int)+(a:Int)=1+(b:Int):=e;omega) (List.Nodup.sublist List.filter_sublist List.nodup_range)
theorem Fl:((List.range 64).all fun a=>(List.range 64).all fun b=>(List.range 6).all fun i=>decide (stB (Builtin.bitOr (a:Int) (b:Int)) (1+(i:Int))=(stB (a:Int) (1+(i:Int))||stB (b:Int) (1+(i:Int)))))=true:=by decide+kernel
theorem An:((List.range 64).all fun m=>decide (Builtin.Int.intBits (m:Int)<=6))=true:=by decide+kernel
theorem zv{a b x:Int}(a0:0<=a)(a1:a<64)(b0:0<=b)(b1:b<64)(x0:1<=x)(x6:x<=6):stB (Builtin.bitOr a b) x=(stB a x||stB b x):=by
 have t:=LX (L3.mp (L3.mp (L3.mp Fl a.toNat (LZ.mpr (by omega))) b.toNat (LZ.mpr (by omega))) (x-1).toNat (LZ.mpr (by omega)));rw[show((a.toNat:Nat):Int)=a by omega,show((b.toNat:Nat):Int)=b by omega,show 1+(((x-1).toNat:Nat):Int)=x by omega] at t;exact t
theorem CH{k:RK}{m:Nat}{ns:List Nat}(F:FlOk h w g)(ne:ns≠[])(lt:∀ c∈ns,(c:Int)<h*w)(nd:ns.Nodup)(len:ns.length<=16)(hk:allK k=false)(k0:k≠.Rule)(n0:n<=99)(nz:numK k=false->n=0)(m0:sgnK k=true->1<=(m:Int)/\(m:Int)<=g)(mz:sgnK k=false->m=0):
  RR.Ok ⟨k,n,m,ns,ns.map fun(n:Nat)=>(n:Int)⟩ h w g:=by
 have m16:=F.m;refine⟨k0,n0,nz,m0,mz,⟨fun _=>⟨ne,len,lt,nd,rfl⟩,fun e=>?_⟩,fun x hx=>?_,len⟩
 . rw[show allK k=false from hk] at e;cases e
 . have:=lt x hx;omega
def dTh(t:TK)(r z s:Int)(ms:List Int):PyData:=.tuple [.str (tx (tkC t)),.int r,.int z,.int s,.list (ms.map PyData.int)]
theorem Hv(t:TK)(r z s:Int)(ms:List Int):PyData.eqv (dTh t r z s ms) (dTh t r z s ms)=true:=by
 unfold dTh;rw[PyData.eqv,PyData.eqvAll,PyData.eqvAll,PyData.eqvAll,PyData.eqvAll,PyData.eqvAll,PyData.eqvAll,yT,xu,xu,xu,PyData.eqv];simp
theorem yu(t:TK)(r z s:Int)(ms:List Int):SeqAt.shaped (dTh t r z s ms)=true:=by
 have a1:PyData.strOk (tx (tkC t))=true:=zu (by cases t <;> decide);unfold dTh;simp[SeqAt.shaped,PyData.canLay0,PyData.canLayAll0,a1,lO,PyData.depth,PyData.depthAll,iP]
variable{t:TK}
theorem CI{T:Addr}{r:Int}(x:IsTh H T M t r z s ms):DV K H (.ref T) (dTh t r z s ms):=
 .tup (PM x.T) (.cons (.str _) (.cons (.int _) (.cons (.int _) (.cons (.int _) (.cons (.lst (Mc x.M) (.ints ms)) .nil)))))
theorem Gg(t:TK):decide (tkC t=[112,97,105,114])=decide (t=.pair):=by cases t <;> decide
theorem Gh(t:TK):decide (tkC t=[116,117,114,110])=decide (t=.turn):=by cases t <;> decide
noncomputable def dk (h w:Int) (x:RR) (LA:List Int) (t:TK) (z s:Int) (ms:List Int):Bool:=match t with
 | .count=>cntB x.cs x.n x.m LA z s ms
 | .sum=>sumB x.cs x.n LA z s ms
 | .step=>stepB x.cs LA z s ms
 | _=>waysB x.k h w x.cs x.n x.m LA z s ms
noncomputable def b3 (h w:Int) (LC:List RR) (LA:List Int) (t:TK) (r z s:Int) (ms:List Int):Bool:=match LC[r.toNat]? with
  | none=>false
  | some x=>dk h w x LA t z s ms
def dA(K:Frag)(c:RCl RK)(d:RCl PzK):Sp:=fun vs H Q _=>∃(P L G A T M:Addr) (h w g:Int) (LC:List RR) (cl LA:List Int) (t:TK) (r z s:Int) (ms:List Int),vs=[.ref P,.ref A,.ref T]/\Asks H c d P L G A T M h w g LC cl LA t r z s ms/\(t=.count\/t=.sum\/t=.ways)/\(∀ m∈LA,0<=m/\m<64)/\formB h w g LC t r z s=true/\∀ H',Same H H'->Q (.bl (b3 h w LC LA t r z s ms)) H'
def dB(K:Frag)(c:RCl RK)(d:RCl PzK):TS:=
 (tSeq (tAsg (tOp cIx (aF d d.ok "rules" (cN K c d) (tVar 0) tNil) (tOp cIx (tVar 2) (tC (.int 1)))) (gName 3))
  (tSeq (tIfS (tTest (tOp (cEq K) (tOp cIx (tVar 2) (tC (.int 0))) (tC (.str (tx [99,111,117,110,116]))))) (tRet (tCall (io K c) [] E0 (tCons (tVar 3) (tCons (tVar 1) (tCons (tOp cIx (tVar 2) (tC (.int 2))) (tCons (tOp cIx (tVar 2) (tC (.int 3))) (tCons (tOp cIx (tVar 2) (tC (.int 4))) tNil))))))) tNext)
  (tSeq (tIfS (tTest (tOp (cEq K) (tOp cIx (tVar 2) (tC (.int 0))) (tC (.str (tx [115,117,109]))))) (tRet (tCall (j7 K c) [] E0 (tCons (tVar 3) (tCons (tVar 1) (tCons (tOp cIx (tVar 2) (tC (.int 2))) (tCons (tOp cIx (tVar 2) (tC (.int 3))) (tCons (tOp cIx (tVar 2) (tC (.int 4))) tNil))))))) tNext)
  (tRet (tCall (jt K c) [] E0 (tCons (tVar 3) (tCons (tVar 1) (tCons (tOp cIx (tVar 2) (tC (.int 2))) (tCons (tOp cIx (tVar 2) (tC (.int 3))) (tCons (tOp cIx (tVar 2) (tC (.int 4))) tNil))))))))))
theorem oh(h:dA K c d vs H Q E):dB K c d (eD9 Q) (start ["puzzle","masks","thought","rule"] vs) H:=by
 obtain⟨P,L,G,A,T,M,h,w,g,LC,cl,LA,t,r,z,s,ms,rfl,X,ht,mo,f,q⟩:=h;obtain⟨dx,p,rs,h1,h2,h3⟩:=X.P.ex;obtain⟨z0,z1,s0,s1',LL⟩:=bj f;have hg:=X.P.R.F.g1;have hmm:=X.P.R.F.m;obtain⟨r0,y,ey,hgo,hz⟩:=dL (by rcases ht with rfl | rfl | rfl <;> decide) LL;have O:=X.P.R.ok y (LV ey);have hin:aK y.cs LA.length:=by rw[X.n];exact N8 O X.P.R.F
 show dB K c d _ [some (.ref P),some (.ref A),some (.ref T),none] H;unfold dB;rw[aD,bI,gy];refine methE (k:=.Puzzle) rfl X.P.ok h1 (by rfl) ?_;symm;refine⟨P,L,G,h,w,g,LC,cl,rfl,X.P,fun l p2 rs2 hl hp2 Y=>?_⟩;have s2:Same H (upd H l (.lst (rs2.map V.ref))):=(LQ H).laid hl;generalize upd H l (.lst (rs2.map V.ref))=H1 at*;have hlt:=(LP.mp ey).1;have LJ:=Y.len;have ea:rs2[r.toNat]? =some rs2[r.toNat]:=LN (by omega)
 have fin:∀ H',Same H1 H'->Q (.bl (dk h w y LA t z s ms)) H':=fun H' s3=>by
  have q1:=q H' (s2.trans s3);unfold b3 at q1;rw[ey] at q1;exact q1
 dsimp only;refine ixT (s2 _ _ X.T.T) (v:=V.int r) rfl ?_;refine ixL Y.top (f7 r0 ea) ?_;symm;rw[ax];symm;refine ixT (s2 _ _ X.T.T) (v:=V.str (tx (tkC t))) rfl ?_;symm;rw[bg,Fg];rcases ht with rfl | rfl | rfl
 . rw[LU rfl];refine iteT ?_;symm;refine ixT (s2 _ _ X.T.T) (v:=V.int z) rfl ?_;symm;refine ixT (s2 _ _ X.T.T) (v:=V.int s) rfl ?_;symm;refine ixT (s2 _ _ X.T.T) (v:=V.ref M) rfl ?_;symm;exact⟨_,_,p2,A,M,_,y.cs,LA,ms,_,_,z,s,rfl,Y.at_ _ _ _ ea ey,hin,s2 _ _ X.A,s2 _ _ X.T.M,by omega,fin⟩
 . rw[LR (by decide)];refine iteF ?_;rw[ax];symm;refine ixT (s2 _ _ X.T.T) (v:=V.str (tx (tkC .sum))) rfl ?_;symm;rw[bg,Ea,LU rfl];refine iteT ?_;symm;refine ixT (s2 _ _ X.T.T) (v:=V.int z) rfl ?_;symm;refine ixT (s2 _ _ X.T.T) (v:=V.int s) rfl ?_;symm;refine ixT (s2 _ _ X.T.T) (v:=V.ref M) rfl ?_;symm;exact⟨_,_,p2,A,M,_,y.cs,LA,ms,_,_,z,s,rfl,Y.at_ _ _ _ ea ey,hin,mo,s2 _ _ X.A,s2 _ _ X.T.M,fin⟩
 . rw[LR (by decide)];refine iteF ?_;rw[ax];symm;refine ixT (s2 _ _ X.T.T) (v:=V.str (tx (tkC .ways))) rfl ?_;symm;rw[bg,Ea,LR (by decide)];refine iteF ?_;symm;refine ixT (s2 _ _ X.T.T) (v:=V.int z) rfl ?_;symm;refine ixT (s2 _ _ X.T.T) (v:=V.int s) rfl ?_;symm;refine ixT (s2 _ _ X.T.T) (v:=V.ref M) rfl ?_;symm;exact⟨_,_,p2,A,M,_,y.cs,LA,ms,_,_,z,s,h,w,g,rfl,Y.at_ _ _ _ ea ey,hp2,X.P.R.F,hin,by rw[X.n];omega,mo,by omega,by omega,s2 _ _ X.A,s2 _ _ X.T.M,fin⟩
noncomputable def strA (h w g:Int) (LC:List RR) (cl LA:List Int) (t:TK) (r z s:Int) (ms:List Int):Bool:=
 if lineK t then(if t=.step then b3 h w LC LA t r z s ms else eh g LC cl LA t r z s ms) else if nbrK t then b3 h w LC LA t r z s ms else eF h w LC LA t r z s ms
def fm(K:Frag)(c:RCl RK)(d:RCl PzK):Sp:=fun vs H Q _=>∃(P L G A T M:Addr) (h w g:Int) (LC:List RR) (cl LA:List Int) (t:TK) (r z s:Int) (ms:List Int),vs=[.ref P,.ref A,.ref T]/\Asks H c d P L G A T M h w g LC cl LA t r z s ms/\lineK t=true/\(∀ m∈LA,0<=m/\m<64)/\formB h w g LC t r z s=true/\∀ H',Same H H'->Q (.bl (strA h w g LC cl LA t r z s ms)) H'
def fq(K:Frag)(c:RCl RK)(d:RCl PzK):TS:=
 (tSeq (tAsg (tOp cIx (tVar 2) (tC (.int 0))) (gName 3))
  (tSeq (tAsg (tOp cIx (tVar 2) (tC (.int 2))) (gName 4))
  (tSeq (tAsg (tOp cIx (tVar 2) (tC (.int 3))) (gName 5))
  (tSeq (tAsg (tOp cIx (tVar 2) (tC (.int 4))) (gName 6))
  (tSeq (tIfS (tTest (tOp (cEq K) (tVar 3) (tC (.str (tx [99,108,117,101]))))) (tRet (tCall (jg K) [] E0 (tCons (aF d d.ok "clues" (uu K c d) (tVar 0) tNil) (tCons (tVar 4) (tCons (tVar 5) (tCons (tVar 6) tNil)))))) tNext)
  (tSeq (tAsg (tOp cIx (aF d d.ok "rules" (cN K c d) (tVar 0) tNil) (tOp cIx (tVar 2) (tC (.int 1)))) (gName 7))
  (tSeq (tIfS (tTest (tOp (cEq K) (tVar 3) (tC (.str (tx [111,110,108,121]))))) (tRet (tCall (ji K c) [] E0 (tCons (tVar 7) (tCons (tVar 1) (tCons (tVar 4) (tCons (tVar 5) (tCons (tVar 6) tNil))))))) tNext)
  (tSeq (tIfS (tTest (tOp (cEq K) (tVar 3) (tC (.str (tx [112,108,97,99,101]))))) (tRet (tCall (il K c) [] E0 (tCons (aF d d.ok "place" (ik K c d) (tVar 0) tNil) (tCons (tVar 7) (tCons (tVar 1) (tCons (tVar 4) (tCons (tVar 5) (tCons (tVar 6) tNil)))))))) tNext)
  (tSeq (tIfS (tTest (tOp (cEq K) (tVar 3) (tC (.str (tx [115,116,101,112]))))) (tRet (tCall (jo K c) [] E0 (tCons (tVar 7) (tCons (tVar 1) (tCons (tVar 4) (tCons (tVar 5) (tCons (tVar 6) tNil))))))) tNext)
  (tRet (tCall (jm K c) [] E0 (tCons (tVar 7) (tCons (tVar 1) (tCons (tVar 4) (tCons (tVar 5) (tCons (tVar 6) tNil))))))))))))))))
theorem qI(h:fm K c d vs H Q E):fq K c d (eD9 Q) (start ["puzzle","masks","thought","kind","cell","sign","more","rule"] vs) H:=by
 obtain⟨P,L,G,A,T,M,h,w,g,LC,cl,LA,t,r,z,s,ms,rfl,X,ht,mm,f,q⟩:=h;obtain⟨dx,p,rs,h1,h2,h3⟩:=X.P.ex;obtain⟨z0,z1,s0,s1',LL⟩:=bj f;have hcl:=X.P.C.len;have hg:=X.P.R.F.g1;unfold strA at q;rw[ht,Md rfl] at q;show fq K c d _ [some (.ref P),some (.ref A),some (.ref T),none,none,none,none,none] H;unfold fq;symm;refine ixT X.T.T (v:=V.str (tx (tkC t))) rfl ?_;symm;refine ixT X.T.T (v:=V.int z) rfl ?_;symm;refine ixT X.T.T (v:=V.int s) rfl ?_;symm;refine ixT X.T.T (v:=V.ref M) rfl ?_;symm;rw[ax];symm;rw[bg,sW];by_cases hc:t=.clue
 . subst hc;rw[L4 (by decide)] at q;rw[LU rfl];refine iteT ?_;refine methE (k:=.Puzzle) rfl X.P.ok h1 (by rfl) ?_;symm;refine⟨P,L,G,h,w,g,LC,cl,rfl,X.P,fun l hl=>?_⟩;have s2:Same H (upd H l (.lst (cl.map V.int))):=(LQ H).laid hl;exact⟨l,M,z,s,cl,ms,rfl,ag,z0,by omega,s2 _ _ X.T.M,fun H' s3=>q H' (s2.trans s3)⟩
 . rw[LR hc];obtain⟨r0,y,ey,_,hz⟩:=dL hc LL
   have q2:t≠.step->∀ H',Same H H'->Q (.bl (Ak g t y LA z s ms)) H':=fun hn H' s'=>by
    have q1:=q H' s';rw[L4 hn] at q1
    have e:eh g LC cl LA t r z s ms=Ak g t y LA z s ms:=by
     unfold eh;cases t <;> first | exact absurd rfl hc | (dsimp only;rw[ey])
    rw[e] at q1;exact q1
   refine iteF ?_;refine methE (k:=.Puzzle) rfl X.P.ok h1 (by rfl) ?_;symm;refine⟨P,L,G,h,w,g,LC,cl,rfl,X.P,fun l p2 rs2 hl hp2 Y=>?_⟩;have s2:Same H (upd H l (.lst (rs2.map V.ref))):=(LQ H).laid hl;generalize upd H l (.lst (rs2.map V.ref))=H1 at*;have hlt:=(LP.mp ey).1;have LJ:=Y.len;have ea:rs2[r.toNat]? =some rs2[r.toNat]:=LN (by omega);have O:=X.P.R.ok y (LV ey);have hin:aK y.cs LA.length:=by rw[X.n];exact N8 O X.P.R.F
   dsimp only;refine ixT (s2 _ _ X.T.T) (v:=V.int r) rfl ?_;refine ixL Y.top (f7 r0 ea) ?_;symm;rw[ax];symm;rw[bg,BT];by_cases ho:t=.only
   . subst ho;rw[LU rfl];refine iteT ?_;symm;exact⟨_,_,p2,A,M,_,y.cs,LA,ms,_,_,z,s,rfl,Y.at_ _ _ _ ea ey,hin,s2 _ _ X.A,s2 _ _ X.T.M,by omega,fun H' s3=>q2 (by decide) H' (s2.trans s3)⟩
   . rw[LR ho];refine iteF ?_;rw[ax];symm;rw[bg,Ab];by_cases hp:t=.place
     . subst hp;rw[LU rfl];refine iteT ?_;refine methE (k:=.Puzzle) rfl X.P.ok (s2 _ _ h1) (by rfl) ?_;symm;refine⟨P,L,G,h,w,g,LC,cl,rfl,X.P.same s2,fun p3 hp3=>?_⟩;symm;exact⟨_,p3,_,p2,A,M,_,y.cs,LA,ms,_,_,z,s,h,w,g,rfl,hp3,Y.at_ _ _ _ ea ey,hin,s2 _ _ X.A,s2 _ _ X.T.M,fun H' s3=>q2 (by decide) H' (s2.trans s3)⟩
     . rw[LR hp];refine iteF ?_;rw[ax];symm;rw[bg,Ga];by_cases hs:t=.step
       . subst hs;rw[LU rfl];refine iteT ?_;symm;refine⟨_,_,p2,A,M,_,y.cs,LA,ms,_,_,z,s,rfl,Y.at_ _ _ _ ea ey,hin,hz,mm,s2 _ _ X.A,s2 _ _ X.T.M,fun H' s3=>?_⟩;have q1:=q H' (s2.trans s3);rw[Md rfl] at q1;unfold b3 at q1;rw[ey] at q1;exact q1
       . rw[LR hs]
         have hpr:t=.pair:=by
          revert ht hc ho hp hs
          cases t <;> intro ht hc ho hp hs <;> first | rfl | exact absurd rfl hc | exact absurd rfl ho | exact absurd rfl hp | exact absurd rfl hs | cases ht
         subst hpr;refine iteF ?_;symm;exact⟨_,_,p2,A,M,_,y.cs,LA,ms,_,_,z,s,rfl,Y.at_ _ _ _ ea ey,hin,mm,s2 _ _ X.A,s2 _ _ X.T.M,fun H' s3=>q2 (by decide) H' (s2.trans s3)⟩
def kB(K:Frag)(c:RCl RK)(d:RCl PzK):Sp:=fun vs H Q _=>∃(P L G A T M:Addr) (h w g:Int) (LC:List RR) (cl LA:List Int) (t:TK) (r z s:Int) (ms:List Int),vs=[.ref P,.ref A,.ref T]/\Asks H c d P L G A T M h w g LC cl LA t r z s ms/\(∀ m∈LA,0<=m/\m<64)/\formB h w g LC t r z s=true/\∀ H',Same H H'->Q (.bl (strA h w g LC cl LA t r z s ms)) H'
def oi(K:Frag)(c:RCl RK)(d:RCl PzK):TS:=
 (tSeq (tIfS (tB (tInG g7 false (tOp cIx (tVar 2) (tC (.int 0))))) (tRet (tCall (fm K c d) [] E0 (tCons (tVar 0) (tCons (tVar 1) (tCons (tVar 2) tNil))))) tNext)
  (tSeq (tIfS (tB (tInG fS false (tOp cIx (tVar 2) (tC (.int 0))))) (tRet (tCall (dA K c d) [] E0 (tCons (tVar 0) (tCons (tVar 1) (tCons (tVar 2) tNil))))) tNext)
  (tRet (tCall (dw K c d) [] E0 (tCons (tVar 0) (tCons (tVar 1) (tCons (tVar 2) tNil)))))))
theorem nbrA(h:nbrK t=true):t=.count\/t=.sum\/t=.ways:=by cases t <;> first | exact .inl rfl | exact .inr (.inl rfl) | exact .inr (.inr rfl) | cases h
theorem regA(h1:lineK t=false)(h2:nbrK t=false):Hu t:=by cases t <;> first | exact .inl rfl | exact .inr (.inl rfl) | exact .inr (.inr rfl) | (cases h1;done) | (cases h2;done)
theorem Bj(h:kB K c d vs H Q E):oi K c d (eD9 Q) (start ["puzzle","masks","thought"] vs) H:=by
 obtain⟨P,L,G,A,T,M,h,w,g,LC,cl,LA,t,r,z,s,ms,rfl,X,mm,f,q⟩:=h;show oi K c d _ [some (.ref P),some (.ref A),some (.ref T)] H;unfold oi;rw[aD,ax];symm;refine ixT X.T.T (v:=V.str (tx (tkC t))) rfl ?_;symm;rw[F6]
 cases e1:lineK t with
 | true=>
  refine iteT ?_;exact⟨P,L,G,A,T,M,h,w,g,LC,cl,LA,t,r,z,s,ms,rfl,X,e1,mm,f,q⟩
 | false=>
  unfold strA at q;rw[e1,L4 LY] at q;refine iteF ?_;rw[ax];symm;refine ixT X.T.T (v:=V.str (tx (tkC t))) rfl ?_;symm;rw[Hm]
  cases e2:nbrK t with
  | true=>
   rw[e2,Md rfl] at q;refine iteT ?_;exact⟨P,L,G,A,T,M,h,w,g,LC,cl,LA,t,r,z,s,ms,rfl,X,nbrA e2,mm,f,q⟩
  | false=>
   rw[e2,L4 LY] at q;refine iteF ?_;symm;exact⟨P,L,G,A,T,M,h,w,g,LC,cl,LA,t,r,z,s,ms,rfl,X,regA e1 e2,f,q⟩
noncomputable def alwA (h w g:Int) (LC:List RR) (cl LA:List Int) (t:TK) (r z s:Int) (ms:List Int):Bool:=formB h w g LC t r z s&&strA h w g LC cl LA t r z s ms
def oj(K:Frag)(c:RCl RK)(d:RCl PzK):Sp:=fun vs H Q _=>∃(P L G A T M:Addr) (h w g:Int) (LC:List RR) (cl LA:List Int) (t:TK) (r z s:Int) (ms:List Int),vs=[.ref P,.ref A,.ref T]/\Asks H c d P L G A T M h w g LC cl LA t r z s ms/\(∀ m∈LA,0<=m/\m<64)/\∀ H',Same H H'->Q (.bl (alwA h w g LC cl LA t r z s ms)) H'
def oo(K:Frag)(c:RCl RK)(d:RCl PzK):TS:=
 (tRet (tAndV (tCall (l8 K c d) [] E0 (tCons (tVar 0) (tCons (tVar 2) tNil))) (tCall (kB K c d) [] E0 (tCons (tVar 0) (tCons (tVar 1) (tCons (tVar 2) tNil))))))
theorem Bl(h:oj K c d vs H Q E):oo K c d (eD9 Q) (start ["puzzle","masks","thought"] vs) H:=by
 obtain⟨P,L,G,A,T,M,h,w,g,LC,cl,LA,t,r,z,s,ms,rfl,X,mm,q⟩:=h;show oo K c d _ [some (.ref P),some (.ref A),some (.ref T)] H;unfold oo;symm;refine⟨t,P,L,G,T,M,h,w,g,r,z,s,LC,cl,ms,rfl,X.P,X.T,fun H1 s1=>?_⟩;unfold alwA at q
 cases hb:formB h w g LC t r z s with
 | false=>
  rw[hb,Mb] at q;exact⟨false,rfl,iteF (q _ s1)⟩
 | true=>
  rw[hb,Mf] at q;refine⟨true,rfl,iteT ?_⟩;symm;exact⟨P,L,G,A,T,M,h,w,g,LC,cl,LA,t,r,z,s,ms,rfl,X.same s1,mm,hb,fun H' s2=>q H' (s1.trans s2)⟩
def tGT(K:Frag)(ws:List Str):TE:=fun _ H Q=>∀ q,SqT K H q (ws.map V.str)->Q (.ref q) H
section
variable{X:Cx}{pos:Pos}{x:Str}{ws:List Str}
theorem CJ(G:GTup X.K X.mg x ws)(hg:Gl X x)(hdb:(x==("__debug__":Str))=false:=by decide):PE X (.Name x pos) (tGT X.K ws):=by
 obtain⟨q,o,LF,n,h1,h2⟩:=G.ex;intro LB s σ H Q I h;exact cp (v:=V.ref q) hg h1 rfl hdb LB s σ H Q I (h q (.inr ⟨o,LF,n,h2⟩))
end
theorem Fm{K:Frag}{ws:List Str}{σ:St}{H:Hp}{Q:VK}:tGT K ws σ H Q=∀ q,SqT K H q (ws.map V.str)->Q (.ref q) H:=rfl
def stL(ms:List Int)(c s:Int):List Int:=(List.range ms.length).map fun(i:Nat)=>if (i:Int)=c then woI (ms.getD i 0) s else ms.getD i 0
def rF(K:Frag):Sp:=fun vs H Q _=>∃(p:Addr) (ms:List Int) (c s:Int),vs=[.ref p,.int c,.int s]/\H p=some (.lst (ms.map V.int))/\ms.length<=900/\s<=100000/\∀ l H',Same H H'->H l=none->H' l=some (.lst ((stL ms c s).map V.int))->Q (.ref l) H'
def rG(K:Frag):TS:=
 (tRet (tComp [none,none,none,some 1,some 2] (iEnum K (tCons (tVar 0) tNil)) (gTup K 2 (gCons (gName 1) (gCons (gName 2) gNil))) tTrue (tIf (tTest (tOp (cEq K) (tVar 1) (tVar 3))) (tCall (lC K) [] E0 (tCons (tVar 2) (tCons (tVar 4) tNil))) (tVar 2))))
variable{K:Frag}{vs:List V}{H:Hp}{Q:VK}{E:XK}
theorem Ek(h:rF K vs H Q E):rG K (eD9 Q) (start ["masks","cell","sign"] vs) H:=by
 obtain⟨p,ms,c,s,rfl,hp,hn,hs,k⟩:=h;show rG K _ [some (.ref p),some (.int c),some (.int s)] H;unfold rG;symm;refine⟨p,rfl,⟨_,Mc hp⟩,?_⟩;refine pL (xs:=ms.map V.int) (fun _=>true) (fun i=>.int (if (i:Int)=c then woI (ms.getD i 0) s else ms.getD i 0)) (by rw[LM];exact hn) (by decide) (Mc hp) ?_ ?_ ?_
 . intro i x H1 R hx s1 k1;exact k1 _ (LQ _)
 . intro i x H1 Q1 hx hb s1 k1;obtain⟨m,hm,rfl⟩:=aP hx;have q:=k1 _ (LQ H1);rw[eP hm] at q;show tIf _ _ _ [none,some (.int i),some (.int m),some (.int c),some (.int s)] H1 Q1;symm;by_cases hc:(i:Int)=c
   . rw[Md hc] at q;rw[LU hc];exact iteT ⟨m,s,rfl,hs,q⟩
   . rw[L4 hc] at q;rw[LR hc];exact iteF q
 . intro l H1 hl s1 el;refine k l H1 s1 hl ?_;rw[el,a9,LM];unfold stL;rw[Mv];rfl
theorem rfmA{α β:Type}(d:α)(b:α->Bool)(f:α->β)(xs:List α):((List.range xs.length).filter fun i=>b (xs.getD i d)).map (fun i=>f (xs.getD i d))=(xs.filter b).map f:=by
 have e:xs=(List.range xs.length).map fun i=>xs.getD i d:=by
  refine Pj (by simp) fun i h1 h2=>?_;simp[List.getD,LN h1]
 conv=>rhs;rw[e,Oa,Mv]
 rfl
def LLp(Q:VK)(H:Hp)(LH:List (List Int)):Prop:=∀(l:Addr) (as:List Addr) (H':Hp),Same H H'->H l=none->(∀ a∈as,H a=none)->IsLL H' l as LH->Q (.ref l) H'
variable{H1:Hp}{LH:List (List Int)}
theorem LLp.of(q:LLp Q H LH)(s:Same H H1):LLp Q H1 LH:=fun l as H' s' hl ha x=>q l as H' (s.trans s') (s.free hl) (fun a h=>s.free (ha a h)) x
variable{a:Addr}{xs:List Int}
theorem rH {k:Nat} {σ0:St} {tt:TT} {te:TE} {fin:Addr->Hp->Prop} (b:Int->Bool) (f:Int->List Int) (hn:xs.length<=900) (hq:SqL K H1 a (xs.map V.int))
  (ht:∀ x H R,x∈xs->Same H1 H->(∀ H',Same H H'->R (b x) H')->tt (σ0.set k (some (.int x))) H R)
  (he:∀ x H Q,x∈xs->b x=true->Same H1 H->(∀ a H',Same H H'->H a=none->H' a=some (.lst ((f x).map V.int))->Q (.ref a) H')->te (σ0.set k (some (.int x))) H Q)
  (hd:LLp (fun v H=>∀ l,v=.ref l->fin l H) H1 ((xs.filter b).map f)):CompR (Itl K a) (gName k) tt te fin σ0 H1:=by
 refine pN (xs:=xs.map V.int) (fun i=>b (xs.getD i 0)) (fun i=>.lst ((f (xs.getD i 0)).map V.int)) (by rw[LM];exact hn) hq ?_ ?_ ?_
 . intro i x H R hx s1 k1;obtain⟨y,hy,rfl⟩:=aP hx;rw[eP hy] at k1;exact ht y H R (LV hy) s1 k1
 . intro i x H Q hx hb s1 k1;obtain⟨y,hy,rfl⟩:=aP hx;rw[eP hy] at k1 hb;exact he y H Q (LV hy) hb s1 k1
 . intro l as H hl s1 el N;rw[LM] at N
   have e:((List.range xs.length).filter fun i=>b (xs.getD i 0)).map (fun i=>HO.lst ((f (xs.getD i 0)).map V.int))=((xs.filter b).map f).map fun ys=>.lst (ys.map V.int):=by
    rw[rfmA 0 b (fun x=>HO.lst ((f x).map V.int)) xs,Mv];rfl
   rw[e] at N;exact hd l as H s1 hl N.fr (N.ll el) l rfl
variable{x:Int}
theorem sY(q:∀ a H',Same H H'->H a=none->H' a=some (.lst (([x]:List Int).map V.int))->Q (.ref a) H'):([V.int x]:List V).length<=sizeLine/\∀ p,H p=none->Q (.ref p) (upd H p (.lst [V.int x])):=
 ⟨lnR rfl,fun p hp=>q p _ ((LQ H).laid hp) hp ag⟩
def srtI(xs:List Int):List Int:=xs.mergeSort (fun a b=>decide (a<=b))
theorem BY:∀{xs ys:List Int},xs.Perm ys->xs.Pairwise (· <=·)->ys.Pairwise (· <=·)->xs=ys
 | [],ys,p,_,_=>(List.nil_perm.mp p).symm ▸ rfl
 | x::r,[],p,_,_=>absurd p (by simp)
 | x::r,y::t,p,h1,h2=>by
  rw[M4] at h1 h2
  have e:x=y:=by
   rcases L6.mp (p.mem_iff.mp Ma) with e | m1
   . exact e
   . rcases L6.mp (p.mem_iff.mpr Ma) with e | m2
     . exact e.symm
     . have a:=h2.1 x m1;have b:=h1.1 y m2;omega
  subst e;rw[BY (List.Perm.cons_inv p) h1.2 h2.2]
theorem Hw{ns:List Int}(p:ns.Perm xs)(h:ns.Pairwise (· <=·)):ns=srtI xs:=by
 refine BY (p.trans (N5 xs _).symm) h ?_;have:=Pk (le:=fun a b:Int=>decide (a<=b)) (fun a b c h1 h2=>by simp at h1 h2 ⊢;omega) (fun a b=>by simp;omega) xs;exact this.imp fun h=>LX h
theorem srt_mem:x∈srtI xs↔x∈xs:=(N5 xs _).mem_iff
theorem sZ:(srtI xs).length=xs.length:=(N5 xs _).length_eq
variable{p:Addr}
theorem Ao{ns:List Int}(hp:H p=some (.lst (ns.map V.int)))(hn:ns.length<64)(h:∀ l,H l=none->Q (.ref l) (upd H l (.lst ((srtI ns).map V.int)))):eJ [.ref p] H Q:=
 EX hp hn fun ns' l hl pe pw=>by rw[Hw pe pw];exact h l hl
abbrev othA(cs:List Int)(z:Int):List Int:=cs.filter fun x=>!decide (x=z)
def onlM(cs LA:List Int)(z s:Int):List (List Int):=((srtI (othA cs z)).filter fun o=>decide (woI (LA.getD o.toNat 0) s=0)).map fun o=>[o]
def kY(K:Frag)(c:RCl RK):Sp:=fun vs H Q _=>∃(k:RK) (r p A:Addr) (ws:List (List Nat)) (cs LA:List Int) (n m z s:Int),vs=[.ref r,.ref A,.int z,.int s]/\IsRule H c k r p ws cs n m/\aK cs LA.length/\H A=some (.lst (LA.map V.int))/\s<=1000/\LLp Q H (onlM cs LA z s)
def kZ(K:Frag)(c:RCl RK):TS:=
 (tRet (tComp [none,none,some 1,some 3] (iList K (tCB eJ (tCons (tCall (bE K c) [] E0 (tCons (tVar 0) (tCons (tVar 2) tNil))) tNil))) (gName 1) (tB (tCall (ck K) [] E0 (tCons (tOp cIx (tVar 2) (tVar 1)) (tCons (tVar 3) tNil)))) (tLst (tCons (tVar 1) tNil))))
variable{c:RCl RK}
theorem yW(h:kY K c vs H Q E):kZ K c (eD9 Q) (start ["rule","masks","cell","sign"] vs) H:=by
 obtain⟨k,r,p,A,ws,cs,LA,n,m,z,s,rfl,x,hin,hA,hs,q⟩:=h;have ol:(othA cs z).length<=cs.length:=L9 _ _;have hc:=hin.1;show kZ K c _ [some (.ref r),some (.ref A),some (.int z),some (.int s)] H;unfold kZ;symm;refine⟨k,r,p,ws,cs,n,m,z,rfl,x,hc,fun l H1 s1 hl el=>?_⟩;refine Ao (ns:=othA cs z) el (by omega) fun l2 hl2=>?_;obtain⟨H2,z9,s2,e2⟩:=aU (.lst ((srtI (othA cs z)).map V.int)) hl2;rw[z9];have s12:=s1.trans s2;refine⟨l2,rfl,⟨_,Mc e2⟩,?_⟩;refine rH (xs:=srtI (othA cs z)) (fun o=>decide (woI (LA.getD o.toNat 0) s=0)) (fun o=>[o]) (by rw[sZ];omega) (Mc e2) ?_ ?_ ?_
 . intro y H3 R hy s3 k3;have yi:=hin.2 y (LS.mp (srt_mem.mp hy)).1;show tB _ [none,some (.int y),some (.ref A),some (.int s)] H3 R;symm;refine ixI ((s12.trans s3) _ _ hA) yi.1 (by omega) ?_;symm;exact⟨_,s,rfl,by omega,_,rfl,k3 _ (LQ _)⟩
 . intro y H3 Q3 hy hb s3 k3;show tLst _ [none,some (.int y),some (.ref A),some (.int s)] H3 Q3;symm;exact sY k3
 . exact fun l as H' s' hl ha xx l' e=>by cases e;exact q l as H' (s12.trans s') (s12.free hl) (fun a h=>s12.free (ha a h)) xx
def plaM(g s:Int):List (List Int):=((rngL 1 (g+1)).filter fun o=>!decide (o=s)).map fun o=>[o]
def kc(K:Frag):Sp:=fun vs H Q _=>∃(p:Addr) (h w g s:Int),vs=[.ref p,.int s]/\IsFl H p h w g/\1<=g/\g<=6/\LLp Q H (plaM g s)
def ke(K:Frag):TS:=
 (tRet (tComp [none,none,some 1] (pF (tCons (tC (.int 1)) (tCons (tOp cAdd (tOp cIx (tVar 0) (tC (.int 2))) (tC (.int 1))) tNil))) (gName 1) (tTest (tOp (cNe K) (tVar 1) (tVar 2))) (tLst (tCons (tVar 1) tNil))))
theorem xA(h:kc K vs H Q E):ke K (eD9 Q) (start ["floor","sign"] vs) H:=by
 obtain⟨p,h,w,g,s,rfl,hp,g0,g1,q⟩:=h;show ke K _ [some (.ref p),some (.int s)] H;unfold ke;symm;refine ixT hp (v:=V.int g) rfl ?_;symm;refine⟨1,g+1,rfl,⟨by omega,by omega,by omega,by omega⟩,?_⟩;refine nM (fun i=>!decide (1+(i:Int)=s)) (fun i=>.lst (([1+(i:Int)]:List Int).map V.int)) (by omega) ?_ ?_ ?_
 . intro i H2 R hi s2 k2;show tTest _ [none,some (.int (1+(i:Int))),some (.int s)] H2 R;symm;exact k2 _ (LQ _)
 . intro i H2 Q2 hi _ s2 k2;show tLst _ [none,some (.int (1+(i:Int))),some (.int s)] H2 Q2;symm;exact sY k2
 . intro l as H2 hl s2 el N
   have e:((List.range (g+1-1).toNat).filter fun(i:Nat)=>!decide (1+(i:Int)=s)).map (fun(i:Nat)=>HO.lst (([1+(i:Int)]:List Int).map V.int))=(plaM g s).map fun ys=>.lst (ys.map V.int):=by
    unfold plaM rngL;rw[Oa,Mv,Mv];rfl
   rw[e] at N;exact q l as H2 s2 hl N.fr (N.ll el)
def squM(h w z:Int):List (List Int):=((squL h w).filter fun q=>decide (z∈q)).map fun q=>[q.getD 0 0]
def jx(K:Frag):Sp:=fun vs H Q _=>∃(p:Addr) (h w g z:Int),vs=[.ref p,.int z]/\IsFl H p h w g/\FlOk h w g/\LLp Q H (squM h w z)
def jy(K:Frag):TS:=
 (tRet (tComp [none,none,some 1] (iList K (tCall (i5 K) [] E0 (tCons (tVar 0) tNil))) (gName 1) (tTest (tOp (cIn K false) (tVar 2) (tVar 1))) (tLst (tCons (tOp cIx (tVar 1) (tC (.int 0))) tNil))))
variable{h w g:Int}
theorem Fn(F:FlOk h w g):(squL h w).length<=16:=by
 have:=F.m;unfold squL;rw[LM];refine L8 (L9 _ _) ?_;rw[MS];omega
theorem vU(h:jx K vs H Q E):jy K (eD9 Q) (start ["floor","cell"] vs) H:=by
 obtain⟨p,h,w,g,z,rfl,hp,F,q⟩:=h;have sl:=Fn F;show jy K _ [some (.ref p),some (.int z)] H;unfold jy;symm;refine⟨p,h,w,g,rfl,hp,F,fun l as H1 s1 hl X nd nl fr=>?_⟩;have al:=X.len;refine⟨l,rfl,⟨_,Mc X.top⟩,?_⟩;refine pN (xs:=as.map V.ref) (fun i=>decide (z∈(squL h w).getD i [])) (fun i=>.lst (([((squL h w).getD i []).getD 0 0]:List Int).map V.int)) (by rw[LM];omega) (Mc X.top) ?_ ?_ ?_
 . intro i x H2 R hx s2 k2;obtain⟨b,hb,rfl⟩:=bF hx;have hi:i<as.length:=(LP.mp hb).1;have e:(squL h w)[i]? =some (squL h w)[i]:=LN (by omega);have eb:=s2 _ _ (X.at_ i b _ hb e);have eg:(squL h w).getD i []=(squL h w)[i]:=by rw[List.getD,e];rfl
   rw[eg] at k2;show tTest _ [none,some (.ref b),some (.int z)] H2 R;symm;rw[qT eb];exact⟨_,rfl,k2 _ (LQ _)⟩
 . intro i x H2 Q2 hx hb2 s2 k2;obtain⟨b,hb,rfl⟩:=bF hx;have hi:i<as.length:=(LP.mp hb).1;have e:(squL h w)[i]? =some (squL h w)[i]:=LN (by omega);have eb:=s2 _ _ (X.at_ i b _ hb e);have eg:(squL h w).getD i []=(squL h w)[i]:=by rw[List.getD,e];rfl
   rw[eg] at k2;obtain⟨j,_,_,ej⟩:=sX (Mp (show i < (squL h w).length by omega));rw[ej] at eb k2;show tLst _ [none,some (.ref b),some (.int z)] H2 Q2;symm;refine ixI eb (by decide) (by show(0:Int)<4;decide) ?_;exact sY k2
 . intro T bs H2 hT s2 eT N;rw[LM,al,rfmA [] (fun q=>decide (z∈q)) (fun q=>HO.lst (([q.getD 0 0]:List Int).map V.int)) (squL h w)] at N;have e:((squL h w).filter fun q=>decide (z∈q)).map (fun q=>HO.lst (([q.getD 0 0]:List Int).map V.int))=(squM h w z).map fun ys=>.lst (ys.map V.int):=by unfold squM;rw[Mv];rfl
   rw[e] at N;exact q T bs H2 (s1.trans s2) (s1.free hT) (fun a h=>s1.free (N.fr a h)) (N.ll eT)
def turM(h w z:Int):List (List Int):=[]::(besL h w z).map fun o=>[o]
def k9(K:Frag):Sp:=fun vs H Q _=>∃(p:Addr) (h w g z:Int),vs=[.ref p,.int z]/\IsFl H p h w g/\FlOk h w g/\LLp Q H (turM h w z)
def lc(K:Frag):TS:=
 (tRet (tOp cAdd (tLst (tCons (tLst tNil) tNil)) (tComp [none,none] (iList K (tCall (dO K) [] E0 (tCons (tVar 0) (tCons (tVar 1) tNil)))) (gName 1) tTrue (tLst (tCons (tVar 1) tNil)))))
theorem yX(h:k9 K vs H Q E):lc K (eD9 Q) (start ["floor","cell"] vs) H:=by
 obtain⟨p,h,w,g,z,rfl,hp,F,q⟩:=h;have w0:=F.w0;have w1:=F.w1;have bl:=uk h w z;show lc K _ [some (.ref p),some (.int z)] H;unfold lc;symm;refine⟨aQ (by decide),fun E0' hE=>?_⟩;obtain⟨H1,z9,s1,e1⟩:∃ z,upd H E0' (.lst [])=z/\Same H z/\z E0'=some (.lst (([]:List Int).map V.int)):=aU _ hE;rw[z9];refine⟨lnR rfl,fun Z hZ=>?_⟩;obtain⟨H2,z9,s2,e2⟩:=aU (.lst [V.ref E0']) hZ;rw[z9];have s12:=s1.trans s2;refine⟨p,h,w,g,z,rfl,s12 _ _ hp,by omega,by omega,fun l H3 s3 hl el=>?_⟩;refine⟨l,rfl,⟨_,Mc el⟩,?_⟩;refine rH (xs:=besL h w z) (fun _=>true) (fun o=>[o]) (by omega) (Mc el) ?_ ?_ ?_
 . intro y H4 R hy s4 k4;exact k4 _ (LQ _)
 . intro y H4 Q4 hy hb s4 k4;show tLst _ [none,some (.int y)] H4 Q4;symm;exact sY k4
 . intro T as H4 s4 hT ha X T' e;cases e;have s13:=s12.trans s3;have s34:=s3.trans s4;have s14:=s13.trans s4;have X':IsLL H4 T as ((besL h w z).map fun o=>[o]):=by rw[a9] at X;exact X
   have al:=X'.len;rw[LM] at al;symm;refine lR (s34 _ _ e2) X'.top (by simp;omega) fun R hR=>?_;have s5:Same H4 (upd H4 R (.lst ([V.ref E0']++as.map V.ref))):=(LQ H4).laid hR;refine q R (E0'::as) _ (s14.trans s5) (s14.free hR) (fun a h=>?_) ⟨ag,?_,fun j a xs h1 h2=>?_⟩
   . rcases L6.mp h with rfl | h
     . exact hE
     . exact s13.free (ha a h)
   . unfold turM;simp[al]
   . cases j with
     | zero=>cases h1;cases h2;exact s5 _ _ (s34 _ _ (s2 _ _ e1))
     | succ j=>exact s5 _ _ (X'.at_ j a xs h1 h2)
def sureA(cs LA:List Int)(m z:Int):List Int:=(othA cs z).filter fun o=>decide (woI (LA.getD o.toNat 0) m=0)
noncomputable def reaM (h w:Int) (cs:List Int) (m:Int) (LA:List Int) (z s:Int):List (List Int):=
 if s=m then((sureA cs LA m z).filter fun o=>!rcB h w (thrL cs LA m z++[z]) z o).map fun o=>[o]
 else((sureA cs LA m z).filter fun o=>!rcB h w (thrL cs LA m z) ((sureA cs LA m z).getD 0 0) o).map fun o=>[(sureA cs LA m z).getD 0 0,o]
def kf(K:Frag)(c:RCl RK):Sp:=fun vs H Q _=>∃(k:RK) (f r p A:Addr) (ws:List (List Nat)) (cs LA:List Int) (n m z s h w g:Int),vs=[.ref f,.ref r,.ref A,.int z,.int s]/\IsFl H f h w g/\FlOk h w g/\IsRule H c k r p ws cs n m/\aK cs LA.length/\cs.length<=60/\H A=some (.lst (LA.map V.int))/\m<=1000/\LLp Q H (reaM h w cs m LA z s)
def gK(K:Frag)(c:RCl RK):TS:=
 (tRet (tComp [none,none,some 8,some 6] (iList K (tVar 6)) (gName 1) (tTest (tOp (cIn K true) (tVar 1) (tVar 2))) (tLst (tCons (tOp cIx (tVar 3) (tC (.int 0))) (tCons (tVar 1) tNil)))))
def lm(K:Frag)(c:RCl RK):TS:=
 (tSeq (tAsg (tIf (tTest (tOp (cNe K) (tVar 6) (tLst tNil))) (tCall (d3 K) [] E0 (tCons (tVar 0) (tCons (tVar 7) (tCons (tOp cIx (tVar 6) (tC (.int 0))) tNil)))) (tLst tNil)) (gName 8))
  (gK K c))
def gL(K:Frag)(c:RCl RK):TS:=
 (tSeq (tIfS (tTest (tOp (cEq K) (tVar 4) (tVar 5))) (tSeq (tAsg (tCall (d3 K) [] E0 (tCons (tVar 0) (tCons (tOp cAdd (tVar 7) (tLst (tCons (tVar 3) tNil))) (tCons (tVar 3) tNil)))) (gName 8))
  (tRet (tComp [none,none,some 8] (iList K (tVar 6)) (gName 1) (tTest (tOp (cIn K true) (tVar 1) (tVar 2))) (tLst (tCons (tVar 1) tNil))))) tNext)
  (lm K c))
def kg(K:Frag)(c:RCl RK):TS:=
 (tSeq (tAsg (aF c c.ok "sign" (iK K c) (tVar 1) tNil) (gName 5))
  (tSeq (tAsg (tComp [none,none,some 5,some 2] (iList K (tCall (bE K c) [] E0 (tCons (tVar 1) (tCons (tVar 3) tNil)))) (gName 1) (tB (tCall (ck K) [] E0 (tCons (tOp cIx (tVar 3) (tVar 1)) (tCons (tVar 2) tNil)))) (tVar 1)) (gName 6))
  (tSeq (sComp 7 [none,none,some 5,some 2] (iList K (tCall (bE K c) [] E0 (tCons (tVar 1) (tCons (tVar 3) tNil)))) (gName 1) (tB (tCall (gf K) [] E0 (tCons (tOp cIx (tVar 3) (tVar 1)) (tCons (tVar 2) tNil)))) (tVar 1))
  (gL K c))))
variable{cs:List Int}
theorem ninA{rs:List Int}{st o:Int}(ep:H p=some (.lst (rs.map V.int)))(hx:∀ x,x∈rs↔RC h w cs st x)(q:Q (.bl (!rcB h w cs st o)) H):cIn K true (.int o) (.ref p) H Q:=by
 rw[lx ep,Al (hx o)];exact q
theorem FE{y:Int}(q:∀ a H',Same H H'->H a=none->H' a=some (.lst (([x,y]:List Int).map V.int))->Q (.ref a) H'):([V.int x,V.int y]:List V).length<=sizeLine/\∀ p,H p=none->Q (.ref p) (upd H p (.lst [V.int x,V.int y])):=
 ⟨lnR rfl,fun p hp=>q p _ ((LQ H).laid hp) hp ag⟩
theorem LLp.fin(q:LLp Q H LH)(s:Same H H1):LLp (fun v H'=>∀ l,v=.ref l->Q (.ref l) H') H1 LH:=fun l as H' s' hl ha xx l' e=>by cases e;exact q l as H' (s.trans s') (s.free hl) (fun a h=>s.free (ha a h)) xx
variable{z s m:Int}{v2:Option V}
theorem tG {f S T:Addr} {LG thr:List Int} {v1:Option V} (hf:IsFl H f h w g) (F:FlOk h w g) (eS:H S=some (.lst (LG.map V.int))) (eT:H T=some (.lst (thr.map V.int))) (sn:LG.length<=60) (tn:thr.length<=60)
  (q:LLp Q H (if s=m then(LG.filter fun o=>!rcB h w (thr++[z]) z o).map fun o=>[o] else(LG.filter fun o=>!rcB h w thr (LG.getD 0 0) o).map fun o=>[LG.getD 0 0,o])):
  gL K c (eD9 Q) [some (.ref f),v1,v2,some (.int z),some (.int s),some (.int m),some (.ref S),some (.ref T),none] H:=by
 have w0:=F.w0;have w1:=F.w1;unfold gL;rw[aD,ax];symm;by_cases e:s=m
 . rw[Md e] at q;rw[LU e];symm;refine⟨lnR rfl,fun l hl=>?_⟩;obtain⟨H1,z9,s1,el⟩:=aU (.lst [V.int z]) hl;rw[z9];refine lR (s1 _ _ eT) el (by simp;omega) fun Y hY=>?_;have s2:Same H1 (upd H1 Y (.lst (thr.map V.int++[V.int z]))):=(LQ H1).laid hY;have eY:(upd H1 Y (.lst (thr.map V.int++[V.int z]))) Y=some (.lst ((thr++[z]).map V.int)):=by rw[ag];simp
   generalize upd H1 Y (.lst (thr.map V.int++[V.int z]))=H2 at*;have s12:=s1.trans s2;symm;refine⟨f,Y,h,w,g,z,_,rfl,s12 _ _ hf,by omega,by omega,eY,by simp;omega,fun p H3 rs s3 hp ep _ hx=>?_⟩;have s13:=s12.trans s3;symm;have eS3:=s13 _ _ eS;refine⟨⟨_,Mc eS3⟩,?_⟩;refine rH (xs:=LG) (fun o=>!rcB h w (thr++[z]) z o) (fun o=>[o]) (by omega) (Mc eS3) ?_ ?_ (q.fin s13)
   . intro y H4 R hy s4 k4;show tTest _ [none,some (.int y),some (.ref p)] H4 R;symm;exact ninA (s4 _ _ ep) hx ⟨_,rfl,k4 _ (LQ _)⟩
   . intro y H4 Q4 hy hb s4 k4;show tLst _ [none,some (.int y),some (.ref p)] H4 Q4;symm;exact sY k4
 . rw[L4 e] at q;rw[LR e];symm;unfold lm
   have fin:∀(p:Addr) (rs:List Int) (H3:Hp),Same H H3->H3 p=some (.lst (rs.map V.int))->(LG≠[]->∀ x,x∈rs↔RC h w thr (LG.getD 0 0) x)->gK K c (eD9 Q) [some (.ref f),v1,v2,some (.int z),some (.int s),some (.int m),some (.ref S),some (.ref T),some (.ref p)] H3:=fun p rs H3 s3 ep hx=>by
    have eS3:=s3 _ _ eS;unfold gK;symm;refine⟨⟨_,Mc eS3⟩,?_⟩;refine rH (xs:=LG) (fun o=>!rcB h w thr (LG.getD 0 0) o) (fun o=>[LG.getD 0 0,o]) (by omega) (Mc eS3) ?_ ?_ (q.fin s3)
    . intro y H4 R hy s4 k4;show tTest _ [none,some (.int y),some (.ref p),some (.ref S)] H4 R;symm;exact ninA (s4 _ _ ep) (hx (List.ne_nil_of_mem hy)) ⟨_,rfl,k4 _ (LQ _)⟩
    . intro y H4 Q4 hy hb s4 k4;have:0<LG.length:=NO hy;show tLst _ [none,some (.int y),some (.ref p),some (.ref S)] H4 Q4;symm;refine ixI (s4 _ _ eS3) (by decide) (by omega) ?_;exact FE k4
   symm;refine⟨aQ (by decide),fun O hO=>?_⟩;obtain⟨H1,z9,s1,eO⟩:∃ z,upd H O (.lst [])=z/\Same H z/\z O=some (.lst (([]:List Int).map V.int)):=aU _ hO;rw[z9];refine pJ (s1 _ _ eS) eO ?_;by_cases c1:LG=[]
   . rw[LU c1];refine⟨_,rfl,iteF ?_⟩;refine⟨aQ (by decide),fun O2 hO2=>?_⟩;exact fin O2 [] _ (s1.trans ((LQ H1).laid hO2)) ag fun h=>absurd c1 h
   . rw[LR c1];have:0<LG.length:=List.length_pos_iff.mpr c1;refine⟨_,rfl,iteT ?_⟩;refine ixI (s1 _ _ eS) (by decide) (by omega) ?_;rw[show(0:Int).toNat=0 from rfl];refine⟨f,T,h,w,g,_,_,rfl,s1 _ _ hf,by omega,by omega,s1 _ _ eT,by omega,fun p H3 rs s3 hp ep _ hx=>?_⟩;exact fin p rs H3 (s1.trans s3) ep fun _=>hx
theorem xB(h:kf K c vs H Q E):kg K c (eD9 Q) (start ["floor","rule","masks","cell","sign","mark","sure","through","joined"] vs) H:=by
 obtain⟨k,f,r,p,A,ws,cs,LA,n,m,z,s,h,w,g,rfl,hf,F,x,hin,hcs,hA,hm,q⟩:=h;obtain⟨dx,W,C,h1,h2,h3⟩:=x.ex;have ol:(othA cs z).length<=cs.length:=L9 _ _;show kg K c _ [some (.ref f),some (.ref r),some (.ref A),some (.int z),some (.int s),none,none,none,none] H;unfold kg;rw[aD,bI];refine methE (k:=k) rfl x.ok h1 (by rfl) ?_;symm;refine⟨r,p,ws,cs,n,m,rfl,x,?_⟩;symm;refine⟨k,r,p,ws,cs,n,m,z,rfl,x,hin.1,fun O H1 s1 hO eO=>?_⟩;refine⟨O,rfl,⟨_,Mc eO⟩,?_⟩;refine bf (xs:=othA cs z) (fun o=>decide (woI (LA.getD o.toNat 0) m=0)) (fun o=>o) (by omega) (Mc eO) ?_ ?_ ?_
 . intro y H2 R hy s2 k2;have yi:=hin.2 y (LS.mp hy).1;show tB _ [none,some (.int y),some (.int m),some (.ref A)] H2 R;symm;refine ixI ((s1.trans s2) _ _ hA) yi.1 yi.2 ?_;symm;exact⟨_,m,rfl,by omega,_,rfl,k2 _ (LQ _)⟩
 . intro y H2 Q2 hy hb s2 k2;show tVar 1 [none,some (.int y),some (.int m),some (.ref A)] H2 Q2;symm;exact k2 _ (LQ _)
 . intro S H2 hS s2 eS;rw[Nh] at eS;have s12:=s1.trans s2;have x2:=x.same s12;symm;refine⟨k,r,p,ws,cs,n,m,z,rfl,x2,hin.1,fun O2 H3 s3 hO2 eO2=>?_⟩;have s13:=s12.trans s3;refine⟨O2,rfl,⟨_,Mc eO2⟩,?_⟩;refine bf (xs:=othA cs z) (fun o=>stB (LA.getD o.toNat 0) m) (fun o=>o) (by omega) (Mc eO2) ?_ ?_ ?_
   . intro y H4 R hy s4 k4;have yi:=hin.2 y (LS.mp hy).1;show tB _ [none,some (.int y),some (.int m),some (.ref A)] H4 R;symm;refine ixI ((s13.trans s4) _ _ hA) yi.1 yi.2 ?_;symm;exact⟨_,m,rfl,_,rfl,k4 _ (LQ _)⟩
   . intro y H4 Q4 hy hb s4 k4;show tVar 1 [none,some (.int y),some (.int m),some (.ref A)] H4 Q4;symm;exact k4 _ (LQ _)
   . intro T H4 hT s4 eT;rw[Nh] at eT;have s14:=s13.trans s4;have l1:=L9 (fun o=>decide (woI (LA.getD o.toNat 0) m=0)) (othA cs z);have l2:=L9 (fun o=>stB (LA.getD o.toNat 0) m) (othA cs z);exact tG (s14 _ _ hf) F ((s3.trans s4) _ _ eS) eT (by omega) (by omega) (q.of s14)
def fewA(cs LA:List Int)(z:Int):List Int:=(srtI (othA cs z)).filter fun o=>decide (((sgL (LA.getD o.toNat 0)).length:Int)<=2)
def paiR(cs few:List Int)(a:Int):List (List Int):=(few.filter fun b=>decide (((cs.findIdx (· ==a):Nat):Int) < ((cs.findIdx (· ==b):Nat):Int))).map fun b=>[a,b]
def paiM(cs LA:List Int)(z:Int):List (List Int):=(fewA cs LA z).flatMap (paiR cs (fewA cs LA z))
def ld(K:Frag)(c:RCl RK):Sp:=fun vs H Q _=>∃(k:RK) (r p A:Addr) (ws:List (List Nat)) (cs LA:List Int) (n m z:Int),vs=[.ref r,.ref A,.int z]/\IsRule H c k r p ws cs n m/\aK cs LA.length/\cs.length<=16/\H A=some (.lst (LA.map V.int))/\(∀ m∈LA,0<=m/\m<64)/\LLp Q H (paiM cs LA z)
def iz(K:Frag)(c:RCl RK):TS:=
 (tSeq (tAsg (tLst tNil) (gName 5))
  (tSeq (tFor (iList K (tVar 4)) (gName 6)
  (tDrop (tBM K "list" lK (tVar 5) (tCons (tComp [none,none,some 6,some 3] (iList K (tVar 4)) (gName 1) (tTest (tOp (cCmp fun i j=>decide (i<j)) (tBM K "list" (iU K) (tVar 3) (tCons (tVar 2) tNil)) (tBM K "list" (iU K) (tVar 3) (tCons (tVar 1) tNil)))) (tLst (tCons (tVar 2) (tCons (tVar 1) tNil)))) tNil))))
  (tRet (tVar 5))))
def lf(K:Frag)(c:RCl RK):TS:=
 (tSeq (tAsg (aF c c.ok "spots" (dX K c) (tVar 0) tNil) (gName 3))
  (tSeq (sComp 4 [none,none,some 1] (iList K (tCB eJ (tCons (tCall (bE K c) [] E0 (tCons (tVar 0) (tCons (tVar 2) tNil))) tNil))) (gName 1) (tTest (tOp (cCmp fun i j=>decide (i<=j)) (tCB kLen (tCons (tCall (bA K) [] E0 (tCons (tOp cIx (tVar 2) (tVar 1)) tNil)) tNil)) (tC (.int 2)))) (tVar 1))
  (iz K c)))
theorem bitsA(m0:0<=m)(m1:m<64):Builtin.Int.intBits m<=900:=by
 have t:=LX (L3.mp An m.toNat (LZ.mpr (by omega)));rw[show((m.toNat:Nat):Int)=m by omega] at t;omega
theorem Ap{few:List Int}{a:Int}:(paiR cs few a).length<=few.length:=by
 unfold paiR;rw[LM];exact L9 _ _
theorem Aq{cs few:List Int}:∀ xs:List Int,(xs.flatMap (paiR cs few)).length<=xs.length*few.length
 | []=>by simp
 | x::r=>by
  have ih:=Aq (cs:=cs) (few:=few) r;have:=Ap (cs:=cs) (few:=few) (a:=x);rw[Pa,Mt,Mx,Nat.add_mul];omega
theorem uC{S W:Addr}{few:List Int}{v0 v1:Option V}(eS:H S=some (.lst (cs.map V.int)))(eW:H W=some (.lst (few.map V.int)))(cn:cs.length<=16)(fn:few.length<=16)(fi:∀ o∈few,o∈cs)(q:LLp Q H (few.flatMap (paiR cs few))):
  iz K c (eD9 Q) [v0,v1,v2,some (.ref S),some (.ref W),none,none] H:=by
 unfold iz;symm;refine⟨aQ (by decide),fun F hF=>?_⟩;obtain⟨H1,z9,s1,e1⟩:∃ z,upd H F (.lst [])=z/\Same H z/\z F=some (.lst (([]:List Addr).map V.ref)):=aU _ hF;rw[z9];refine⟨⟨_,Mc (s1 _ _ eW)⟩,?_⟩;refine bq (K:=K) (xs:=few.map V.int) (fun i σ H'=>∃(v6:Option V) (as:List Addr),σ=[v0,v1,v2,some (.ref S),some (.ref W),some (.ref F),v6]/\Same H H'/\IsLL H' F as ((few.take i).flatMap (paiR cs few))/\(∀ a∈as,H a=none)/\F∉as) ⟨none,[],rfl,s1,⟨e1,rfl,fun j a xs e _=>by simp at e⟩,(fun a ha=>by cases ha),by simp⟩ (fun i σ H' _ ⟨_,_,_,s,_⟩=>Mc (s _ _ eW)) ?_ ?_
 . rintro i v σ H2 hv ⟨v6,as,rfl,s2,X,fr,nF⟩;obtain⟨a,ha,rfl⟩:=aP hv;have am:=LV ha;have hi:i<few.length:=(LP.mp ha).1;have al:=X.len;have fl:=Aq (cs:=cs) (few:=few) (few.take i);rw[M0] at fl;have fl2:min i few.length*few.length<=16*16:=OZ (by omega) fn;symm;refine⟨bd X.top,⟨_,Mc (s2 _ _ eW)⟩,?_⟩;refine rH (xs:=few) (fun b=>decide (((cs.findIdx (· ==a):Nat):Int) < ((cs.findIdx (· ==b):Nat):Int))) (fun b=>[a,b]) (by omega) (Mc (s2 _ _ eW)) ?_ ?_ ?_
   . intro y H3 R hy s3 k3;have eS3:=(s2.trans s3) _ _ eS;show tTest _ [none,some (.int y),some (.int a),some (.ref S)] H3 R;symm;refine⟨bd eS3,?_⟩;refine j6 eS3 (fi a am) (by omega) ?_;symm;refine⟨bd eS3,?_⟩;refine j6 eS3 (fi y hy) (by omega) ?_;symm;exact k3 _ (LQ _)
   . intro y H3 Q3 hy hb s3 k3;show tLst _ [none,some (.int y),some (.int a),some (.ref S)] H3 Q3;symm;exact FE k3
   . intro T bs H3 s3 hT hb Y T' e;cases e;have pl:=Ap (cs:=cs) (few:=few) (a:=a);have bl:=Y.len;have Yl:bs.length<=16:=by rw[bl];exact L8 pl fn
     refine E5 (s3 _ _ X.top) Y.top (by rw[LM,LM,al];omega) ?_;have nb:∀ b∈bs,b≠F:=fun b hb' e=>by have:=hb b hb';rw[e,X.top] at this;cases this
     refine⟨_,as++bs,rfl,(s2.trans s3).own hF,⟨by rw[ag,NQ],?_,fun j b xs h1 h2=>?_⟩,fun b hb'=>?_,fun hm=>?_⟩
     . rw[Ni,ha,Nq,Mt,Mt,al,bl];simp[paiR]
     . rw[Ni,ha,Nq] at h2;have e2:(some a).toList.flatMap (paiR cs few)=paiR cs few a:=by simp
       rw[e2] at h2;by_cases hj:j<as.length
       . rw[Mr hj] at h1;rw[Mr (by omega)] at h2;have nj:b≠F:=fun e=>nF (by rw[← e];exact LV h1);rw[ak nj];exact s3 _ _ (X.at_ j b xs h1 h2)
       . rw[MD (by omega)] at h1;rw[MD (by omega),← al] at h2;rw[ak (nb b (LV h1))];exact Y.at_ _ b xs h1 h2
     . rcases Ml.mp hb' with h | h
       . exact fr b h
       . exact s2.free (hb b h)
     . rcases Ml.mp hm with h | h
       . exact nF h
       . exact nb _ h rfl
 . rintro σ H2 ⟨v6,as,rfl,s2,X,fr,nF⟩;rw[LM,M6] at X;symm;exact q F as H2 s2 hF fr X
theorem yY(h:ld K c vs H Q E):lf K c (eD9 Q) (start ["rule","masks","cell","spots","few","found","first"] vs) H:=by
 obtain⟨k,r,p,A,ws,cs,LA,n,m,z,rfl,x,hin,hc,hA,mm,q⟩:=h;obtain⟨dx,Wd,C,h1,h2,h3⟩:=x.ex;have ol:(othA cs z).length<=cs.length:=L9 _ _;show lf K c _ [some (.ref r),some (.ref A),some (.int z),none,none,none,none] H;unfold lf;symm;refine methE (k:=k) rfl x.ok h1 (by rfl) ?_;symm;refine⟨r,p,ws,cs,n,m,rfl,x,fun S hS=>?_⟩;obtain⟨H1,z9,s1,eS⟩:=aU (.lst (cs.map V.int)) hS;rw[z9];symm;refine⟨k,r,p,ws,cs,n,m,z,rfl,x.same s1,hin.1,fun l H2 s2 hl el=>?_⟩;refine Ao (ns:=othA cs z) el (by omega) fun l2 hl2=>?_;obtain⟨H3,z9,s3,e3⟩:=aU (.lst ((srtI (othA cs z)).map V.int)) hl2;rw[z9];have s13:=(s1.trans s2).trans s3;refine⟨l2,rfl,⟨_,Mc e3⟩,?_⟩;refine bf (xs:=srtI (othA cs z)) (fun o=>decide (((sgL (LA.getD o.toNat 0)).length:Int)<=2)) (fun o=>o) (by rw[sZ];omega) (Mc e3) ?_ ?_ ?_
 . intro y H4 R hy s4 k4;have yi:=hin.2 y (LS.mp (srt_mem.mp hy)).1;have ym:LA.getD y.toNat 0∈LA:=by rw[List.getD,LN (by omega)];exact Mp _
   show tTest _ [none,some (.int y),some (.ref A)] H4 R;symm;refine ixI ((s13.trans s4) _ _ hA) yi.1 yi.2 ?_;symm;refine⟨_,rfl,bitsA (mm _ ym).1 (mm _ ym).2,fun U H5 s5 hU eU=>?_⟩;symm;rw[bc eU,LM];symm;exact k4 _ s5
 . intro y H4 Q4 hy hb s4 k4;show tVar 1 [none,some (.int y),some (.ref A)] H4 Q4;symm;exact k4 _ (LQ _)
 . intro W H4 hW s4 eW;rw[Nh] at eW;have s34:=(s2.trans s3).trans s4;have l1:=L9 (fun o=>decide (((sgL (LA.getD o.toNat 0)).length:Int)<=2)) (srtI (othA cs z));rw[sZ] at l1;exact uC (few:=fewA cs LA z) (s34 _ _ eS) eW hc (by unfold fewA;omega) (fun o ho=>(LS.mp (srt_mem.mp (LS.mp ho).1)).1) (q.of (s1.trans s34))
structure Tho where
 t:TK
 r:Int
 z:Int
 s:Int
 ms:List Int
noncomputable def mtF (h w g:Int) (LC:List RR) (LA:List Int) (t:TK) (r z s:Int):List (List Int):=
 if t=.place then plaM g s else if t=.square then squM h w z else if t=.turn then turM h w z else match LC[r.toNat]? with
  | none=>[[]]
  | some x=>if t=.only then onlM x.cs LA z s else if t=.reach then reaM h w x.cs x.m LA z s else if t=.pair then paiM x.cs LA z else [[]]
structure Lk(H:Hp)(c:RCl RK)(d:RCl PzK)(P L G A:Addr)(h w g:Int)(LC:List RR)(cl LA:List Int):Prop where
 P:IsPz H c d P L G h w g LC cl
 A:H A=some (.lst (LA.map V.int))
 n:LA.length=(h*w).toNat
 mm:∀ m∈LA,0<=m/\m<2^g.toNat
variable{H':Hp}{d:RCl PzK}{P L G A:Addr}{LC:List RR}{cl LA:List Int}
theorem Lk.same(x:Lk H c d P L G A h w g LC cl LA)(s:Same H H'):Lk H' c d P L G A h w g LC cl LA:=⟨x.P.same s,s _ _ x.A,x.n,x.mm⟩
theorem mY(g0:1<=g)(g6:g<=6):(2:Int)^g.toNat<=64:=by
 have e:g=1\/g=2\/g=3\/g=4\/g=5\/g=6:=by omega
 rcases e with rfl | rfl | rfl | rfl | rfl | rfl <;> decide
theorem Lk.m64(x:Lk H c d P L G A h w g LC cl LA):∀ m∈LA,0<=m/\m<64:=fun m hm=>by
 have:=mY x.P.R.F.g0 x.P.R.F.g1;have:=x.mm m hm;omega
def jz(K:Frag)(c:RCl RK)(d:RCl PzK):Sp:=fun vs H Q _=>∃(P L G A:Addr) (h w g:Int) (LC:List RR) (cl LA:List Int) (t:TK) (r z s:Int),vs=[.ref P,.ref A,.str (tx (tkC t)),.int r,.int z,.int s]/\Lk H c d P L G A h w g LC cl LA/\formB h w g LC t r z s=true/\LLp Q H (mtF h w g LC LA t r z s)
def gn(K:Frag)(c:RCl RK)(d:RCl PzK):TS:=
 (tSeq (tIfS (tTest (tOp (cEq K) (tVar 2) (tC (.str (tx [111,110,108,121]))))) (tRet (tCall (kY K c) [] E0 (tCons (tOp cIx (aF d d.ok "rules" (cN K c d) (tVar 0) tNil) (tVar 3)) (tCons (tVar 1) (tCons (tVar 4) (tCons (tVar 5) tNil)))))) tNext)
  (tSeq (tIfS (tTest (tOp (cEq K) (tVar 2) (tC (.str (tx [114,101,97,99,104]))))) (tRet (tCall (kf K c) [] E0 (tCons (tVar 6) (tCons (tOp cIx (aF d d.ok "rules" (cN K c d) (tVar 0) tNil) (tVar 3)) (tCons (tVar 1) (tCons (tVar 4) (tCons (tVar 5) tNil))))))) tNext)
  (tSeq (tIfS (tTest (tOp (cEq K) (tVar 2) (tC (.str (tx [112,97,105,114]))))) (tRet (tCall (ld K c) [] E0 (tCons (tOp cIx (aF d d.ok "rules" (cN K c d) (tVar 0) tNil) (tVar 3)) (tCons (tVar 1) (tCons (tVar 4) tNil))))) tNext)
  (tRet (tLst (tCons (tLst tNil) tNil))))))
def jA(K:Frag)(c:RCl RK)(d:RCl PzK):TS:=
 (tSeq (tAsg (aF d d.ok "place" (ik K c d) (tVar 0) tNil) (gName 6))
  (tSeq (tIfS (tTest (tOp (cEq K) (tVar 2) (tC (.str (tx [112,108,97,99,101]))))) (tRet (tCall (kc K) [] E0 (tCons (tVar 6) (tCons (tVar 5) tNil)))) tNext)
  (tSeq (tIfS (tTest (tOp (cEq K) (tVar 2) (tC (.str (tx [115,113,117,97,114,101]))))) (tRet (tCall (jx K) [] E0 (tCons (tVar 6) (tCons (tVar 4) tNil)))) tNext)
  (tSeq (tIfS (tTest (tOp (cEq K) (tVar 2) (tC (.str (tx [116,117,114,110]))))) (tRet (tCall (k9 K) [] E0 (tCons (tVar 6) (tCons (tVar 4) tNil)))) tNext)
  (gn K c d)))))
variable{t:TK}{r:Int}
theorem Bm(X:Lk H c d P L G A h w g LC cl LA)(hp:IsFl H p h w g)(f:formB h w g LC t r z s=true)(n1:t≠.place)(n2:t≠.square)(n3:t≠.turn)(q:LLp Q H (mtF h w g LC LA t r z s)):
  gn K c d (eD9 Q) [some (.ref P),some (.ref A),some (.str (tx (tkC t))),some (.int r),some (.int z),some (.int s),some (.ref p)] H:=by
 obtain⟨dx,p0,rs,h1,h2,h3⟩:=X.P.ex;obtain⟨z0,z1,s0,s1',LL⟩:=bj f;have hg:=X.P.R.F.g1;unfold mtF at q;rw[L4 n1,L4 n2,L4 n3] at q
 have row:t≠.clue->∃ y,0<=r/\LC[r.toNat]? =some y/\goesB t y.k=true:=fun hc=>by
  obtain⟨r0,y,ey,hgo,hz⟩:=dL hc LL;exact⟨y,r0,ey,hgo⟩
 unfold gn;rw[aD,ax];symm;rw[bg,BT];by_cases e1:t=.only
 . subst e1;obtain⟨y,r0,ey,hgo⟩:=row (by decide);have O:=X.P.R.ok y (LV ey);have hin:aK y.cs LA.length:=by rw[X.n];exact N8 O X.P.R.F
   rw[ey] at q;rw[LU rfl];refine iteT ?_;refine methE (k:=.Puzzle) rfl X.P.ok h1 (by rfl) ?_;symm;refine⟨P,L,G,h,w,g,LC,cl,rfl,X.P,fun l p2 rs2 hl hp2 Y=>?_⟩;have s2:Same H (upd H l (.lst (rs2.map V.ref))):=(LQ H).laid hl;generalize upd H l (.lst (rs2.map V.ref))=H1 at*;have hlt:=(LP.mp ey).1;have LJ:=Y.len;have ea:rs2[r.toNat]? =some rs2[r.toNat]:=LN (by omega);dsimp only;refine ixL Y.top (f7 r0 ea) ?_;symm;exact⟨_,_,p2,A,_,y.cs,LA,_,_,z,s,rfl,Y.at_ _ _ _ ea ey,hin,s2 _ _ X.A,by omega,q.of s2⟩
 . rw[LR e1];refine iteF ?_;rw[ax];symm;rw[bg,uB];by_cases e2:t=.reach
   . subst e2;obtain⟨y,r0,ey,hgo⟩:=row (by decide);have O:=X.P.R.ok y (LV ey);have ym:=(O.m0 (mX hgo)).2;have hin:aK y.cs LA.length:=by rw[X.n];exact N8 O X.P.R.F
     rw[ey] at q;rw[LU rfl];refine iteT ?_;refine methE (k:=.Puzzle) rfl X.P.ok h1 (by rfl) ?_;symm;refine⟨P,L,G,h,w,g,LC,cl,rfl,X.P,fun l p2 rs2 hl hp2 Y=>?_⟩;have s2:Same H (upd H l (.lst (rs2.map V.ref))):=(LQ H).laid hl;generalize upd H l (.lst (rs2.map V.ref))=H1 at*;have hlt:=(LP.mp ey).1;have LJ:=Y.len;have ea:rs2[r.toNat]? =some rs2[r.toNat]:=LN (by omega);dsimp only;refine ixL Y.top (f7 r0 ea) ?_;symm;exact⟨_,p,_,p2,A,_,y.cs,LA,_,_,z,s,h,w,g,rfl,s2 _ _ hp,X.P.R.F,Y.at_ _ _ _ ea ey,hin,RR.len26 O X.P.R.F,s2 _ _ X.A,by omega,q.of s2⟩
   . rw[LR e2];refine iteF ?_;symm;rw[ax];symm;rw[bg,Gg];by_cases e3:t=.pair
     . subst e3;obtain⟨y,r0,ey,hgo⟩:=row (by decide);have O:=X.P.R.ok y (LV ey);have hin:aK y.cs LA.length:=by rw[X.n];exact N8 O X.P.R.F
       have yk:allK y.k=false:=by revert hgo;cases y.k <;> intro hgo <;> first | rfl | (cases hgo;done)
       have y16:y.cs.length<=16:=by
        obtain⟨_,c2,_,_,e⟩:=O.cl.told yk;rw[e,LM];exact c2
       rw[ey] at q;rw[LU rfl];refine iteT ?_;refine methE (k:=.Puzzle) rfl X.P.ok h1 (by rfl) ?_;symm;refine⟨P,L,G,h,w,g,LC,cl,rfl,X.P,fun l p2 rs2 hl hp2 Y=>?_⟩;have s2:Same H (upd H l (.lst (rs2.map V.ref))):=(LQ H).laid hl;generalize upd H l (.lst (rs2.map V.ref))=H1 at*;have hlt:=(LP.mp ey).1;have LJ:=Y.len;have ea:rs2[r.toNat]? =some rs2[r.toNat]:=LN (by omega);dsimp only;refine ixL Y.top (f7 r0 ea) ?_;symm;exact⟨_,_,p2,A,_,y.cs,LA,_,_,z,rfl,Y.at_ _ _ _ ea ey,hin,y16,s2 _ _ X.A,X.m64,q.of s2⟩
     . rw[LR e3]
       have q':LLp Q H [[]]:=by
        cases ey:LC[r.toNat]? with
        | none=>rw[ey] at q;exact q
        | some y=>
         rw[ey] at q;dsimp only at q;rw[L4 e1,L4 e2,L4 e3] at q;exact q
       refine iteF ?_;symm;refine⟨aQ (by decide),fun a ha=>?_⟩;obtain⟨H1,z9,s1,e1⟩:∃ z,upd H a (.lst [])=z/\Same H z/\z a=some (.lst (([]:List Int).map V.int)):=aU _ ha;rw[z9];refine⟨lnR rfl,fun l hl=>?_⟩;have s2:Same H1 (upd H1 l (.lst [V.ref a])):=(LQ H1).laid hl;refine q' l [a] _ (s1.trans s2) (s1.free hl) (fun b hb=>by rw[L0.mp hb];exact ha) ⟨ag,rfl,fun j b xs h1 h2=>?_⟩
       cases j with
       | zero=>cases h1;cases h2;exact s2 _ _ e1
       | succ j=>simp at h1
theorem vV(h:jz K c d vs H Q E):jA K c d (eD9 Q) (start ["puzzle","masks","kind","number","cell","sign","floor"] vs) H:=by
 obtain⟨P,L,G,A,h,w,g,LC,cl,LA,t,r,z,s,rfl,X,f,q⟩:=h;obtain⟨dx,p0,rs,h1,h2,h3⟩:=X.P.ex;show jA K c d _ [some (.ref P),some (.ref A),some (.str (tx (tkC t))),some (.int r),some (.int z),some (.int s),none] H;unfold jA;symm;refine methE (k:=.Puzzle) rfl X.P.ok h1 (by rfl) ?_;symm;refine⟨P,L,G,h,w,g,LC,cl,rfl,X.P,fun p hp=>?_⟩;symm;rw[ax];symm;rw[bg,Ab];by_cases e1:t=.place
 . subst e1;rw[LU rfl];unfold mtF at q;rw[Md rfl] at q;symm;exact⟨p,h,w,g,s,rfl,hp,X.P.R.F.g0,X.P.R.F.g1,q⟩
 . rw[LR e1];symm;rw[ax];symm;rw[bg,yq];by_cases e2:t=.square
   . subst e2;rw[LU rfl];unfold mtF at q;rw[L4 (by decide),Md rfl] at q;symm;exact⟨p,h,w,g,z,rfl,hp,X.P.R.F,q⟩
   . rw[LR e2];symm;rw[ax];symm;rw[bg,Gh];by_cases e3:t=.turn
     . subst e3;rw[LU rfl];unfold mtF at q;rw[L4 (by decide),L4 (by decide),Md rfl] at q;symm;exact⟨p,h,w,g,z,rfl,hp,X.P.R.F,q⟩
     . rw[LR e3];symm;exact Bm X hp f e1 e2 e3 q
theorem Hx:∀ ms∈mtF h w g LC LA t r z s,ms.length<=2:=fun ms hm=>by
 unfold mtF at hm
 split at hm
 . unfold plaM at hm;obtain⟨_,_,rfl⟩:=L1.mp hm;simp
 . split at hm
   . unfold squM at hm;obtain⟨_,_,rfl⟩:=L1.mp hm;simp
   . split at hm
     . unfold turM at hm;rcases L6.mp hm with rfl | hm
       . simp
       . obtain⟨_,_,rfl⟩:=L1.mp hm;simp
     . split at hm
       . rw[L0.mp hm];simp
       . split at hm
         . unfold onlM at hm;obtain⟨_,_,rfl⟩:=L1.mp hm;simp
         . split at hm
           . unfold reaM at hm
             split at hm <;> (obtain⟨_,_,rfl⟩:=L1.mp hm;simp)
           . split at hm
             . unfold paiM at hm;obtain⟨a,_,hm⟩:=Nk.mp hm;unfold paiR at hm;obtain⟨_,_,rfl⟩:=L1.mp hm;simp
             . rw[L0.mp hm];simp
noncomputable def faF (h w g:Int) (LC:List RR) (cl LA:List Int) (t:TK) (r z s:Int):Option (List Int):=(mtF h w g LC LA t r z s).find? fun ms=>strA h w g LC cl LA t r z s ms
def oq(K:Frag)(c:RCl RK)(d:RCl PzK):Sp:=fun vs H Q _=>∃(P L G A:Addr) (h w g:Int) (LC:List RR) (cl LA:List Int) (t:TK) (r z s:Int),vs=[.ref P,.ref A,.str (tx (tkC t)),.int r,.int z,.int s]/\Lk H c d P L G A h w g LC cl LA/\formB h w g LC t r z s=true/\
 (faF h w g LC cl LA t r z s=none->∀ H',Same H H'->Q .non H')/\(∀(ms:List Int) (T M:Addr) (H':Hp),faF h w g LC cl LA t r z s=some ms->Same H H'->H T=none->H M=none->IsTh H' T M t r z s ms->Q (.ref T) H')
def or(K:Frag)(c:RCl RK)(d:RCl PzK):TS:=
 (tSeq (tFor (iList K (tCall (jz K c d) [] E0 (tCons (tVar 0) (tCons (tVar 1) (tCons (tVar 2) (tCons (tVar 3) (tCons (tVar 4) (tCons (tVar 5) tNil)))))))) (gName 6)
  (tSeq (tAsg (tTup (tCons (tVar 2) (tCons (tVar 3) (tCons (tVar 4) (tCons (tVar 5) (tCons (tVar 6) tNil)))))) (gName 7))
  (tIfS (tB (tCall (kB K c d) [] E0 (tCons (tVar 0) (tCons (tVar 1) (tCons (tVar 7) tNil))))) (tRet (tVar 7)) tNext)))
  (tRet (tC .non)))
theorem Bn(h:oq K c d vs H Q E):or K c d (eD9 Q) (start ["puzzle","masks","kind","number","cell","sign","more","thought"] vs) H:=by
 obtain⟨P,L,G,A,h,w,g,LC,cl,LA,t,r,z,s,rfl,X,f,q1,q2⟩:=h;show or K c d _ [some (.ref P),some (.ref A),some (.str (tx (tkC t))),some (.int r),some (.int z),some (.int s),none,none] H;unfold or;symm;refine⟨P,L,G,A,h,w,g,LC,cl,LA,t,r,z,s,rfl,X,f,fun l as H1 s1 hl fr Y=>?_⟩;have al:=Y.len;have ml:=Hx (h:=h) (w:=w) (g:=g) (LC:=LC) (LA:=LA) (t:=t) (r:=r) (z:=z) (s:=s);unfold faF at q1 q2;generalize mtF h w g LC LA t r z s=LH at*;refine⟨l,rfl,⟨_,Mc Y.top⟩,?_⟩;refine bq (K:=K) (xs:=as.map V.ref) (fun i σ H'=>∃(v6 v7:Option V),σ=[some (.ref P),some (.ref A),some (.str (tx (tkC t))),some (.int r),some (.int z),some (.int s),v6,v7]/\Same H1 H'/\∀ ms∈LH.take i,strA h w g LC cl LA t r z s ms=false) ⟨none,none,rfl,LQ H1,fun ms hm=>by cases hm⟩ (fun i σ H' _ ⟨_,_,_,s,_⟩=>Mc (s _ _ Y.top)) ?_ ?_
 . rintro i v σ H2 hv ⟨v6,v7,rfl,s2,hno⟩;obtain⟨b,hb,rfl⟩:=bF hv;have hi:i<as.length:=(LP.mp hb).1;have ex:LH[i]? =some LH[i]:=LN (by omega);have ebm:=s2 _ _ (Y.at_ i b _ hb ex);have xl:=ml _ (Mp (show i<LH.length by omega));have et:LH.take (i+1)=LH.take i++[LH[i]]:=by rw[Ni,ex];rfl
   have hfind:strA h w g LC cl LA t r z s LH[i]=true->LH.find? (fun ms=>strA h w g LC cl LA t r z s ms)=some LH[i]:=fun ht=>by
    rw[Ox];refine⟨ht,i,by omega,rfl,fun j hj=>?_⟩;have:=hno LH[j] (by rw[NY];exact⟨j,by omega,rfl⟩);rw[this];rfl
   generalize LH[i]=ms at*;have frb:=fr b (LV hb);symm;refine⟨lnR rfl,fun T hT=>?_⟩;have s3:Same H2 (upd H2 T (.tup [V.str (tx (tkC t)),V.int r,V.int z,V.int s,V.ref b])):=(LQ H2).laid hT;have Th:IsTh (upd H2 T (.tup [V.str (tx (tkC t)),V.int r,V.int z,V.int s,V.ref b])) T b t r z s ms:=⟨ag,s3 _ _ ebm,by omega⟩;generalize upd H2 T (.tup [V.str (tx (tkC t)),V.int r,V.int z,V.int s,V.ref b])=H3 at*;have s12:=s1.trans s2;have s13:=s12.trans s3;have X3:=X.same s13;rw[ax];symm;refine⟨P,L,G,A,T,b,h,w,g,LC,cl,LA,t,r,z,s,ms,rfl,⟨X3.P,Th,X3.A,X.n⟩,X.m64,f,fun H4 s4=>?_⟩
   cases hb2:strA h w g LC cl LA t r z s ms with
   | true=>
    refine⟨true,rfl,iteT ?_⟩;symm;exact q2 ms T b H4 (hfind hb2) (s13.trans s4) (s12.free hT) frb (Th.same s4)
   | false=>
    refine⟨false,rfl,iteF ?_⟩;refine⟨_,_,rfl,(s2.trans s3).trans s4,fun y hy=>?_⟩;rw[et] at hy;rcases Ml.mp hy with hy | hy
    . exact hno y hy
    . rw[L0.mp hy];exact hb2
 . rintro σ H2 ⟨v6,v7,rfl,s2,hno⟩;rw[LM,al,M6] at hno;symm;exact q1 (Od.mpr fun ms hm=>by rw[hno ms hm];exact LY) H2 (s1.trans s2)
def rnF(LC:List RR)(t:TK):List Int:=if t=.clue then [0] else((List.range LC.length).filter fun i=>goesB t ((LC[i]?.map RR.k).getD .Rule)).map fun(i:Nat)=>(i:Int)
def jB(K:Frag)(c:RCl RK)(d:RCl PzK):Sp:=fun vs H Q _=>∃(P L G:Addr) (h w g:Int) (LC:List RR) (cl:List Int) (t:TK),vs=[.ref P,.str (tx (tkC t))]/\IsPz H c d P L G h w g LC cl/\∀ l H',Same H H'->H l=none->H' l=some (.lst ((rnF LC t).map V.int))->Q (.ref l) H'
def jC(K:Frag)(c:RCl RK)(d:RCl PzK):TS:=
 (tSeq (tIfS (tTest (tOp (cEq K) (tVar 1) (tC (.str (tx [99,108,117,101]))))) (tRet (tLst (tCons (tC (.int 0)) tNil))) tNext)
  (tRet (tComp [none,none,none,some 1] (iEnum K (tCons (aF d d.ok "rules" (cN K c d) (tVar 0) tNil) tNil)) (gTup K 2 (gCons (gName 1) (gCons (gName 2) gNil))) (tB (tCall (lF K c) [] E0 (tCons (tVar 3) (tCons (tVar 2) tNil)))) (tVar 1))))
theorem vW(h:jB K c d vs H Q E):jC K c d (eD9 Q) (start ["puzzle","kind"] vs) H:=by
 obtain⟨P,L,G,h,w,g,LC,cl,t,rfl,X,q⟩:=h;obtain⟨dx,p0,rs,h1,h2,h3⟩:=X.ex;have rn:=X.R.n;show jC K c d _ [some (.ref P),some (.str (tx (tkC t)))] H;unfold jC;rw[aD,ax];symm;rw[bg,sW];unfold rnF at q;by_cases hc:t=.clue
 . rw[Md hc] at q;rw[LU hc];symm;exact⟨lnR rfl,fun l hl=>q l _ ((LQ H).laid hl) hl ag⟩
 . rw[L4 hc] at q;rw[LR hc];symm
   first
   | refine methE (k:=.Puzzle) rfl X.ok h1 (by rfl) ?_
   | (rw[aF];symm;refine methE (k:=.Puzzle) rfl X.ok h1 (by rfl) ?_)
   symm;refine⟨P,L,G,h,w,g,LC,cl,rfl,X,fun l p2 rs2 hl hp2 Y=>?_⟩;have s2:Same H (upd H l (.lst (rs2.map V.ref))):=(LQ H).laid hl;generalize upd H l (.lst (rs2.map V.ref))=H1 at*;have LJ:=Y.len;symm;refine⟨l,rfl,⟨_,Mc Y.top⟩,?_⟩;refine pL (xs:=rs2.map V.ref) (fun i=>goesB t ((LC[i]?.map RR.k).getD .Rule)) (fun i=>.int (i:Int)) (by rw[LM];omega) (by decide) (Mc Y.top) ?_ ?_ ?_
   . intro i x H2 R hx s3 k3;obtain⟨b,hb,rfl⟩:=bF hx;have hi:i<rs2.length:=(LP.mp hb).1;have er:LC[i]? =some LC[i]:=LN (by omega);have zz:=(Y.at_ i b _ hb er).same s3;rw[er] at k3;show tB _ [none,some (.int (i:Int)),some (.ref b),some (.str (tx (tkC t)))] H2 R;symm;exact⟨t,LC[i].k,b,p2,_,_,_,_,rfl,hc,zz,_,rfl,k3 _ (LQ _)⟩
   . intro i x H2 Q2 hx hb s3 k3;obtain⟨b,hb,rfl⟩:=bF hx;show tVar 1 [none,some (.int (i:Int)),some (.ref b),some (.str (tx (tkC t)))] H2 Q2;symm;exact k3 _ (LQ _)
   . intro T H2 hT s3 eT;rw[LM,LJ] at eT;refine q T H2 (s2.trans s3) (s2.free hT) ?_;rw[eT,Mv];rfl
def celF(h w:Int)(LC:List RR)(t:TK)(r:Int):List Int:=if t=.clue then rngL 0 (h*w) else match LC[r.toNat]? with
 | none=>[]
 | some x=>srtI x.cs
def jD(K:Frag)(c:RCl RK)(d:RCl PzK):Sp:=fun vs H Q _=>∃(P L G:Addr) (h w g:Int) (LC:List RR) (cl:List Int) (t:TK) (r:Int),vs=[.ref P,.str (tx (tkC t)),.int r]/\IsPz H c d P L G h w g LC cl/\(t≠.clue->0<=r/\r<LC.length)/\∀ l H',Same H H'->H l=none->H' l=some (.lst ((celF h w LC t r).map V.int))->Q (.ref l) H'
def jE(K:Frag)(c:RCl RK)(d:RCl PzK):TS:=
 (tSeq (tIfS (tTest (tOp (cEq K) (tVar 1) (tC (.str (tx [99,108,117,101]))))) (tRet (kE (tCons (tCall (bR K) [] E0 (tCons (aF d d.ok "place" (ik K c d) (tVar 0) tNil) tNil)) tNil))) tNext)
  (tRet (tCB eJ (tCons (aF c c.ok "spots" (dX K c) (tOp cIx (aF d d.ok "rules" (cN K c d) (tVar 0) tNil) (tVar 2)) tNil) tNil))))
theorem vX(h:jD K c d vs H Q E):jE K c d (eD9 Q) (start ["puzzle","kind","number"] vs) H:=by
 obtain⟨P,L,G,h,w,g,LC,cl,t,r,rfl,X,hr,q⟩:=h;obtain⟨dx,p0,rs,h1,h2,h3⟩:=X.ex;have F:=X.R.F;have m16:=F.m;have mpos:0<=h*w:=NK (by have:=F.h0;omega) (by have:=F.w0;omega);show jE K c d _ [some (.ref P),some (.str (tx (tkC t))),some (.int r)] H;unfold jE;rw[aD,ax];symm;rw[bg,sW];unfold celF at q;by_cases hc:t=.clue
 . rw[Md hc] at q;rw[LU hc];symm;refine methE (k:=.Puzzle) rfl X.ok h1 (by rfl) ?_;symm;refine⟨P,L,G,h,w,g,LC,cl,rfl,X,fun p hp=>?_⟩;symm;refine⟨p,h,w,g,rfl,hp,F.h0,F.h1,?_⟩;exact⟨h*w,rfl,by omega,by omega,fun l hl=>q l _ ((LQ H).laid hl) hl ag⟩
 . obtain⟨r0,r1⟩:=hr hc;have ey:LC[r.toNat]? =some LC[r.toNat]:=LN (by omega);rw[L4 hc,ey] at q;have O:=X.R.ok _ (LV ey);have yl:=RR.len26 O F;rw[LR hc];symm
   first
   | refine methE (k:=.Puzzle) rfl X.ok h1 (by rfl) ?_
   | (rw[aF];symm;refine methE (k:=.Puzzle) rfl X.ok h1 (by rfl) ?_)
   symm;refine⟨P,L,G,h,w,g,LC,cl,rfl,X,fun l p2 rs2 hl hp2 Y=>?_⟩;have s2:Same H (upd H l (.lst (rs2.map V.ref))):=(LQ H).laid hl;generalize upd H l (.lst (rs2.map V.ref))=H1 at*;have LJ:=Y.len;have ea:rs2[r.toNat]? =some rs2[r.toNat]:=LN (by omega);have y:=Y.at_ _ _ _ ea ey;generalize rs2[r.toNat]=b at*;obtain⟨dy,Wy,Cy,y1,y2,y3⟩:=y.ex;dsimp only;refine ixL Y.top (f7 r0 ea) ?_;refine⟨b,LC[r.toNat].k,dy,_,rfl,y.ok,y1,by rfl,?_⟩;symm;refine⟨b,p2,_,_,_,_,rfl,y,fun l2 hl2=>?_⟩;obtain⟨H2,z9,s3,e3⟩:=aU (.lst (LC[r.toNat].cs.map V.int)) hl2;rw[z9];refine Ao e3 (by omega) fun l3 hl3=>?_;have s4:=(s2.trans s3).trans ((LQ H2).laid (o:=.lst ((srtI LC[r.toNat].cs).map V.int)) hl3);exact q l3 _ s4 ((s2.trans s3).free hl3) ag
structure IsBk(H:Hp)(l:Addr)(bs Ms:List Addr)(LI:List Tho):Prop where
 top:H l=some (.lst (bs.map V.ref))
 len:bs.length=LI.length
 lnM:Ms.length=LI.length
 nl:l∉Ms
 at_:∀(i:Nat) (b M:Addr) (th:Tho),bs[i]? =some b->Ms[i]? =some M->LI[i]? =some th->IsTh H b M th.t th.r th.z th.s th.ms
variable{l:Addr}{Ms:List Addr}{LI:List Tho}
theorem IsBk.same{bs:List Addr}(x:IsBk H l bs Ms LI)(s:Same H H'):IsBk H' l bs Ms LI:=⟨s _ _ x.top,x.len,x.lnM,x.nl,fun i b M th h1 h2 h3=>(x.at_ i b M th h1 h2 h3).same s⟩
theorem IsBk.nil(h:H l=some (.lst [])):IsBk H l [] [] []:=⟨h,rfl,rfl,by simp,fun i b M th e _ _=>by simp at e⟩
theorem IsBk.app{T M:Addr}{bs:List Addr}{th:Tho}(x:IsBk H l bs Ms LI)(s:Same H H')(y:IsTh H' T M th.t th.r th.z th.s th.ms)(hM:M≠l):IsBk (upd H' l (.lst (bs.map V.ref++[V.ref T]))) l (bs++[T]) (Ms++[M]) (LI++[th]):=by
 have e:=s _ _ x.top;have up:∀{b N:Addr} {t:Tho},IsTh H' b N t.t t.r t.z t.s t.ms->N≠l->IsTh (upd H' l (.lst (bs.map V.ref++[V.ref T]))) b N t.t t.r t.z t.s t.ms:=fun z hn=>⟨by rw[ak (fun e'=>by have:=z.T;rw[e',e] at this;cases this)];exact z.T,by rw[ak hn];exact z.M,z.n⟩;have l1:=x.len;have l2:=x.lnM;refine⟨by rw[ag];simp,by simp[l1],by simp[l2],fun hm=>?_,fun i b N t h1 h2 h3=>?_⟩
 . rcases Ml.mp hm with hm | hm
   . exact x.nl hm
   . exact hM (L0.mp hm).symm
 . by_cases hi:i<LI.length
   . rw[Mr (by omega)] at h1;rw[Mr (by omega)] at h2;rw[Mr hi] at h3;exact up ((x.at_ i b N t h1 h2 h3).same s) fun e'=>x.nl (by rw[← e'];exact LV h2)
   . rw[MD (by omega)] at h1 h2 h3;have i0:i-LI.length=0:=by have:=(LP.mp h3).1;simp at this;omega
     rw[i0] at h3;rw[show i-bs.length=0 by omega] at h1;rw[show i-Ms.length=0 by omega] at h2;cases h1;cases h2;cases h3;exact up y hM
def BkP(Q:VK)(H:Hp)(LI:List Tho):Prop:=∀(l:Addr) (bs Ms:List Addr) (H':Hp),Same H H'->H l=none->(∀ b∈bs,H b=none)->(∀ M∈Ms,H M=none)->IsBk H' l bs Ms LI->Q (.ref l) H'
theorem BkP.of(q:BkP Q H LI)(s:Same H H1):BkP Q H1 LI:=fun l bs Ms H' s' hl hb hM x=>q l bs Ms H' (s.trans s') (s.free hl) (fun b h=>s.free (hb b h)) (fun b h=>s.free (hM b h)) x
structure MkP(g:Int)(n:Nat)(ms:List Int):Prop where
 len:ms.length=n
 mm:∀ m∈ms,0<=m/\m<2^g.toNat
theorem Gi:((List.range 64).all fun m=>(List.range 6).all fun s=>decide (0<=woI (m:Int) (1+(s:Int))/\woI (m:Int) (1+(s:Int))<=m)&&((List.range 6).all fun x=>decide (x=s)||decide (stB (woI (m:Int) (1+(s:Int))) (1+(x:Int))=stB (m:Int) (1+(x:Int))))&&(!stB (m:Int) (1+(s:Int))||decide ((sgL (woI (m:Int) (1+(s:Int)))).length+1=(sgL (m:Int)).length)))=true:=by decide+kernel
theorem El(m0:0<=m)(m1:m<64)(s0:1<=s)(s6:s<=6):(0<=woI m s/\woI m s<=m)/\(∀ x,1<=x->x<=6->x≠s->stB (woI m s) x=stB m x)/\(stB m s=true->(sgL (woI m s)).length+1=(sgL m).length):=by
 have t:=L3.mp (L3.mp Gi m.toNat (LZ.mpr (by omega))) (s-1).toNat (LZ.mpr (by omega));rw[show((m.toNat:Nat):Int)=m by omega,show 1+(((s-1).toNat:Nat):Int)=s by omega,LT,LT] at t;refine⟨LX t.1.1,fun x x0 x6 ne=>?_,fun hs=>?_⟩
 . have:=L3.mp t.1.2 (x-1).toNat (LZ.mpr (by omega));rw[show 1+(((x-1).toNat:Nat):Int)=x by omega,LR (by omega),Nf] at this;exact LX this
 . have:=t.2;rw[hs,NF,Nf] at this;exact LX this
theorem Gj:((List.range 7).all fun g=>(List.range 64).all fun m=>!decide ((m:Int)<2^g)||(sgL (m:Int)).all fun x=>decide (1<=x/\x<=(g:Int)))=true:=by decide+kernel
theorem vY(g0:1<=g)(g6:g<=6)(m0:0<=m)(m1:m<2^g.toNat)(hx:x∈sgL m):1<=x/\x<=g:=by
 have p:=mY g0 g6;have t:=L3.mp (L3.mp Gj g.toNat (LZ.mpr (by omega))) m.toNat (LZ.mpr (by omega));rw[show((m.toNat:Nat):Int)=m by omega,LU m1,NF,Nf] at t;have:=LX (L3.mp t x hx);omega
variable{ms:List Int}
theorem Em{k:Nat}(hk:k<ms.length):(stL ms z s).getD k 0=if (k:Int)=z then woI (ms.getD k 0) s else ms.getD k 0:=by
 unfold stL;rw[List.getD,LW,M7 hk];rfl
theorem Gk:(stL ms z s).length=ms.length:=by unfold stL;rw[LM,MS]
theorem bU{k:Nat}(hk:k<ms.length):ms.getD k 0∈ms:=by rw[List.getD,LN hk];exact Mp _
theorem MkP.stL{n:Nat}(X:MkP g n ms)(g0:1<=g)(g6:g<=6)(s0:1<=s)(s6:s<=6):MkP g n (stL ms z s):=by
 have p:=mY g0 g6;refine⟨by rw[Gk];exact X.len,fun m hm=>?_⟩;unfold L2.stL at hm;obtain⟨i,hi,rfl⟩:=L1.mp hm;have b:=X.mm _ (bU (LZ.mp hi))
 split
 . have:=(El (s:=s) b.1 (by omega) s0 s6).1;omega
 . exact b
theorem Lk.mkp(x:Lk H c d P L G A h w g LC cl LA):MkP g (h*w).toNat LA:=⟨x.n,x.mm⟩
def RuOk(LC:List RR)(t:TK)(r:Int):Prop:=(t=.clue->r=0)/\(t≠.clue->0<=r/\∃ x,LC[r.toNat]? =some x/\goesB t x.k=true)
theorem FF(h:r∈rnF LC t):RuOk LC t r:=by
 unfold rnF at h;by_cases hc:t=.clue
 . rw[Md hc] at h;exact⟨fun _=>L0.mp h,fun n=>absurd hc n⟩
 . rw[L4 hc] at h;obtain⟨i,hi,rfl⟩:=L1.mp h;obtain⟨hi,hg⟩:=LS.mp hi;have hl:=LZ.mp hi;have e:LC[i]? =some LC[i]:=LN hl;refine⟨fun n=>absurd n hc,fun _=>⟨by omega,LC[i],by rw[On];exact e,?_⟩⟩;rw[e] at hg;exact hg
theorem Ar(R:bn c h w g LC)(ok:RuOk LC t r)(hz:z∈celF h w LC t r)(s0:1<=s)(s1:s<=g):formB h w g LC t r z s=true:=by
 have inn:(0<=z/\z<h*w)/\hitB t LC r z=true:=by
  unfold celF at hz;unfold hitB;by_cases hc:t=.clue
  . rw[Md hc] at hz;rw[ok.1 hc,L4 (by decide),Md hc];exact⟨xq hz,rfl⟩
  . obtain⟨r0,x,ex,hg⟩:=ok.2 hc;rw[L4 hc,ex] at hz;have hz':=srt_mem.mp hz;have ci:=(N8 (R.ok x (LV ex)) R.F).2 z hz';rw[L4 (by omega),L4 hc,ex];refine⟨by omega,?_⟩;dsimp only;rw[hg,LU hz'];rfl
 unfold formB;rw[LU inn.1.1,LU inn.1.2,LU s0,LU s1,inn.2];rfl
noncomputable def fbS (h w g:Int) (LC:List RR) (cl:List Int) (t:TK) (r z:Int) (nb:List Int × List Tho) (s:Int):List Int × List Tho:=match faF h w g LC cl nb.1 t r z s with
 | none=>nb
 | some ms=>(stL nb.1 z s,nb.2++[⟨t,r,z,s,ms⟩])
noncomputable def fbC (h w g:Int) (LC:List RR) (cl:List Int) (t:TK) (r:Int) (nb:List Int × List Tho) (z:Int):List Int × List Tho:=(sgL (nb.1.getD z.toNat 0)).foldl (fbS h w g LC cl t r z) nb
noncomputable def fbL (h w g:Int) (LC:List RR) (cl:List Int) (t:TK) (r:Int):List Int->List Int × List Tho->List Tho
 | [],nb=>nb.2
 | z::zs,nb=>if 0∈(fbC h w g LC cl t r nb z).1 then(fbC h w g LC cl t r nb z).2 else fbL h w g LC cl t r zs (fbC h w g LC cl t r nb z)
noncomputable def fbF (h w g:Int) (LC:List RR) (cl LA:List Int) (t:TK) (r:Int):List Tho:=fbL h w g LC cl t r (celF h w LC t r) (LA,[])
variable{nb:List Int × List Tho}
theorem Hy{n:Nat}(X:MkP g n nb.1)(g0:1<=g)(g6:g<=6)(s0:1<=s)(s6:s<=6):MkP g n (fbS h w g LC cl t r z nb s).1:=by
 unfold fbS
 split
 . exact X
 . exact X.stL g0 g6 s0 s6
def iA(K:Frag)(c:RCl RK)(d:RCl PzK):Sp:=fun vs H Q _=>∃(P L G A:Addr) (h w g:Int) (LC:List RR) (cl LA:List Int) (t:TK) (r:Int),vs=[.ref P,.ref A,.str (tx (tkC t)),.int r]/\Lk H c d P L G A h w g LC cl LA/\RuOk LC t r/\BkP Q H (fbF h w g LC cl LA t r)
def fbin(K:Frag)(c:RCl RK)(d:RCl PzK):TS:=
 (tFor (iList K (tCall (bA K) [] E0 (tCons (tOp cIx (tVar 4) (tVar 6)) tNil))) (gName 7)
  (tSeq (tAsg (tCall (oq K c d) [] E0 (tCons (tVar 0) (tCons (tVar 4) (tCons (tVar 2) (tCons (tVar 3) (tCons (tVar 6) (tCons (tVar 7) tNil))))))) (gName 8))
  (tIfS (tTest (tOp rNotN (tVar 8) (tC .non))) (tSeq (tDrop (tBM K "list" bD (tVar 5) (tCons (tVar 8) tNil)))
  (tAsg (tCall (rF K) [] E0 (tCons (tVar 4) (tCons (tVar 6) (tCons (tVar 7) tNil)))) (gName 4))) tNext)))
def iB(K:Frag)(c:RCl RK)(d:RCl PzK):TS:=
 (tSeq (tAsg (tCB kList (tCons (tVar 1) tNil)) (gName 4))
  (tSeq (tAsg (tLst tNil) (gName 5))
  (tSeq (tFor (iList K (tCall (jD K c d) [] E0 (tCons (tVar 0) (tCons (tVar 2) (tCons (tVar 3) tNil))))) (gName 6)
  (tSeq (fbin K c d)
  (tIfS (tB (tCall (gu K) [] E0 (tCons (tVar 4) tNil))) (tRet (tVar 5)) tNext)))
  (tRet (tVar 5)))))
structure Fb(H0 H:Hp)(c:RCl RK)(d:RCl PzK)(P L G N B:Addr)(bs Ms:List Addr)(h w g:Int)(LC:List RR)(cl:List Int)(nb:List Int × List Tho):Prop where
 sm:Same H0 H
 pz:IsPz H0 c d P L G h w g LC cl
 nw:H N=some (.lst (nb.1.map V.int))
 mp:MkP g (h*w).toNat nb.1
 bk:IsBk H B bs Ms nb.2
 nB:N≠B
 fB:H0 B=none
 fb:∀ b∈bs,H0 b=none
 fM:∀ M∈Ms,H0 M=none
theorem Fb.same{H0:Hp}{N B:Addr}{bs:List Addr}(X:Fb H0 H c d P L G N B bs Ms h w g LC cl nb)(t:Same H H'):Fb H0 H' c d P L G N B bs Ms h w g LC cl nb:=⟨X.sm.trans t,X.pz,t _ _ X.nw,X.mp,X.bk.same t,X.nB,X.fB,X.fb,X.fM⟩
theorem Fb.lk{H0:Hp}{N B:Addr}{bs:List Addr}(X:Fb H0 H c d P L G N B bs Ms h w g LC cl nb):Lk H c d P L G N h w g LC cl nb.1:=⟨X.pz.same X.sm,X.nw,X.mp.len,X.mp.mm⟩
theorem En{α:Type}{f:α->Int->α}{x:α}{ss:List Int}{i:Nat}(e:ss[i]? =some s):(ss.take (i+1)).foldl f x=f ((ss.take i).foldl f x) s:=by
 rw[Ni,e,Om];rfl
theorem Gm:(fbS h w g LC cl t r z nb s).2.length<=nb.2.length+1:=by
 unfold fbS
 split
 . omega
 . simp
theorem Fo(m0:0<=m)(m1:m<64):(sgL m).length<=6:=by
 have t:=LX (L3.mp An m.toNat (LZ.mpr (by omega)));rw[show((m.toNat:Nat):Int)=m by omega] at t;unfold sgL;rw[LM];refine L8 (L9 _ _) ?_;rw[MS];exact t
theorem Fp {D:Ends} {H0:Hp} {N B:Addr} {bs:List Addr} {v7 v8:Option V} (X:Fb H0 H c d P L G N B bs Ms h w g LC cl nb) (ok:RuOk LC t r) (hz:z∈celF h w LC t r) (bl:nb.2.length<=800) {C:Addr} {cs:List Int} (eC:H C=some (.lst (cs.map V.int))) (nCB:C≠B)
  (k:∀(N2:Addr) (bs2 Ms2:List Addr) (v7 v8:Option V) (H':Hp),Fb H0 H' c d P L G N2 B bs2 Ms2 h w g LC cl (fbC h w g LC cl t r nb z)->H' C=some (.lst (cs.map V.int))->(fbC h w g LC cl t r nb z).2.length<=nb.2.length+6->D.nx [some (.ref P),some (.ref A),some (.str (tx (tkC t))),some (.int r),some (.ref N2),some (.ref B),some (.int z),v7,v8] H'):
  fbin K c d D [some (.ref P),some (.ref A),some (.str (tx (tkC t))),some (.int r),some (.ref N),some (.ref B),some (.int z),v7,v8] H:=by
 have g0:=X.pz.R.F.g0;have g6:=X.pz.R.F.g1;have p64:=mY g0 g6;have zf:=bj (Ar (s:=1) X.pz.R ok hz (by decide) g0);have nl:=X.mp.len;have mz:=X.mp.mm _ (bU (k:=z.toNat) (ms:=nb.1) (by omega));have sb:∀ s∈sgL (nb.1.getD z.toNat 0),1<=s/\s<=g:=fun s hs=>vY g0 g6 mz.1 mz.2 hs;have sl6:=Fo mz.1 (by omega);unfold fbin;symm;refine ixI X.nw zf.1 (by omega) ?_;symm;unfold fbC at k;refine⟨_,rfl,bitsA mz.1 (by omega),fun S H1 s1 hS eS=>?_⟩;generalize sgL (nb.1.getD z.toNat 0)=ss at*;refine⟨S,rfl,⟨_,Mc eS⟩,?_⟩
 refine bq (K:=K) (xs:=ss.map V.int) (fun i σ H'=>∃(N2:Addr) (bs2 Ms2:List Addr) (v7 v8:Option V),σ=[some (.ref P),some (.ref A),some (.str (tx (tkC t))),some (.int r),some (.ref N2),some (.ref B),some (.int z),v7,v8]/\Fb H0 H' c d P L G N2 B bs2 Ms2 h w g LC cl ((ss.take i).foldl (fbS h w g LC cl t r z) nb)/\H' S=some (.lst (ss.map V.int))/\H' C=some (.lst (cs.map V.int))/\((ss.take i).foldl (fbS h w g LC cl t r z) nb).2.length<=nb.2.length+i)
  ⟨N,bs,Ms,_,_,rfl,X.same s1,eS,s1 _ _ eC,Mj _⟩ (fun i σ H' _ ⟨_,_,_,_,_,_,_,e,_⟩=>Mc e) ?_ ?_
 . rintro i v σ H2 hv ⟨N2,bs2,Ms2,v7,v8,rfl,X2,eS2,eC2,l2⟩;obtain⟨s,hs,rfl⟩:=aP hv;have hi:i<ss.length:=(LP.mp hs).1;have sm:=sb s (LV hs);rw[En hs];generalize (ss.take i).foldl (fbS h w g LC cl t r z) nb=n2 at*;have f:=Ar (s:=s) X.pz.R ok hz sm.1 sm.2;have l3:=Gm (h:=h) (w:=w) (g:=g) (LC:=LC) (cl:=cl) (t:=t) (r:=r) (z:=z) (s:=s) (nb:=n2);have o3:=Hy (h:=h) (w:=w) (LC:=LC) (cl:=cl) (t:=t) (r:=r) (z:=z) X2.mp g0 g6 sm.1 (by omega);symm;refine⟨P,L,G,N2,h,w,g,LC,cl,n2.1,t,r,z,s,rfl,X2.lk,f,fun e H3 s3=>?_,fun ms T M H3 e s3 hT hM Th=>?_⟩
   . have e2:fbS h w g LC cl t r z n2 s=n2:=by unfold fbS;rw[e]
     rw[e2];symm;rw[ax];symm;exact⟨N2,bs2,Ms2,_,_,rfl,X2.same s3,s3 _ _ eS2,s3 _ _ eC2,by omega⟩
   . have e2:fbS h w g LC cl t r z n2 s=(stL n2.1 z s,n2.2++[⟨t,r,z,s,ms⟩]):=by unfold fbS;rw[e]
     rw[e2] at l3 o3;rw[e2];have X3:=X2.same s3;have hMB:M≠B:=fun e'=>by rw[e',X2.bk.top] at hM;cases hM
     have b2:=X2.bk.len;have nSB:S≠B:=fun e'=>by rw[e',X.bk.top] at hS;cases hS
     symm;rw[ax];symm;rw[LR (fun e'=>by cases e')];symm;refine⟨bd X3.bk.top,?_⟩;rw[dW X3.bk.top];refine⟨by rw[LM];exact aE (by omega),?_⟩;have Bk:=X2.bk.app (th:=⟨t,r,z,s,ms⟩) s3 Th hMB;have s4:=X3.sm.own (o:=.lst (bs2.map V.ref++[V.ref T])) X.fB;have n4:(upd H3 B (.lst (bs2.map V.ref++[V.ref T]))) N2=some (.lst (n2.1.map V.int)):=by rw[ak X2.nB];exact X3.nw
     have S4:(upd H3 B (.lst (bs2.map V.ref++[V.ref T]))) S=some (.lst (ss.map V.int)):=by rw[ak nSB];exact s3 _ _ eS2
     have C4:(upd H3 B (.lst (bs2.map V.ref++[V.ref T]))) C=some (.lst (cs.map V.int)):=by rw[ak nCB];exact s3 _ _ eC2
     generalize upd H3 B (.lst (bs2.map V.ref++[V.ref T]))=H4 at*;symm;refine⟨N2,n2.1,z,s,rfl,n4,by have:=X2.mp.len;have:=X.pz.R.F.m;omega,by omega,fun N3 H5 s5 hN3 eN3=>?_⟩;refine⟨N3,bs2++[T],Ms2++[M],_,_,rfl,⟨s4.trans s5,X.pz,eN3,o3,Bk.same s5,fun e'=>?_,X.fB,fun b hb=>?_,fun b hb=>?_⟩,s5 _ _ S4,s5 _ _ C4,L8 l3 (by omega)⟩
     . rw[e',Bk.top] at hN3;cases hN3
     . rcases Ml.mp hb with hb | hb
       . exact X2.fb b hb
       . rw[L0.mp hb];exact X2.sm.free hT
     . rcases Ml.mp hb with hb | hb
       . exact X2.fM b hb
       . rw[L0.mp hb];exact X2.sm.free hM
 . rintro σ H2 ⟨N2,bs2,Ms2,v7,v8,rfl,X2,eS2,eC2,l2⟩;rw[LM,M6] at X2 l2;exact k N2 bs2 Ms2 v7 v8 H2 X2 eC2 (by omega)
theorem Gn(R:bn c h w g LC):(celF h w LC t r).length<=60:=by
 have:=R.F.m;unfold celF
 split
 . rw[j4];omega
 . split
   . simp
   . rename_i x e
     rw[sZ];exact RR.len26 (R.ok x (LV e)) R.F
theorem uD(h:iA K c d vs H Q E):iB K c d (eD9 Q) (start ["puzzle","masks","kind","number","now","book","cell","sign","thought"] vs) H:=by
 obtain⟨P,L,G,A,h,w,g,LC,cl,LA,t,r,rfl,X,ok,q⟩:=h;show iB K c d _ [some (.ref P),some (.ref A),some (.str (tx (tkC t))),some (.int r),none,none,none,none,none] H;have cln:=Gn (t:=t) (r:=r) X.P.R;unfold iB;symm;refine oz X.A fun N hN=>?_;obtain⟨H1,z9,s1,eN⟩:=aU (.lst (LA.map V.int)) hN;rw[z9];symm;refine⟨aQ (by decide),fun B hB=>?_⟩;have s2:Same H1 (upd H1 B (.lst [])):=(LQ H1).laid hB;have eB:(upd H1 B (.lst [])) B=some (.lst []):=ag;have nNB:N≠B:=fun e=>by rw[e] at eN;rw[eN] at hB;cases hB
 generalize upd H1 B (.lst [])=H2 at*;have s12:=s1.trans s2;have X0:Fb H H2 c d P L G N B [] [] h w g LC cl (LA,[]):=⟨s12,X.P,s2 _ _ eN,X.mkp,IsBk.nil eB,nNB,s1.free hB,(fun b hb=>by cases hb),(fun b hb=>by cases hb)⟩;refine⟨P,L,G,h,w,g,LC,cl,t,r,rfl,X.P.same s12,fun hc=>?_,fun C H3 s3 hC eC=>?_⟩
 . obtain⟨r0,x,ex,_⟩:=ok.2 hc;have:=(LP.mp ex).1;omega
 . have nCB:C≠B:=fun e=>by rw[e,eB] at hC;cases hC
   unfold fbF at q;have hce:∀ z∈celF h w LC t r,z∈celF h w LC t r:=fun z hz=>hz;generalize hcs:celF h w LC t r=cs at*;refine⟨C,rfl,⟨_,Mc eC⟩,?_⟩
   refine bq (K:=K) (xs:=cs.map V.int) (fun i σ H'=>∃(N2:Addr) (bs2 Ms2:List Addr) (v6 v7 v8:Option V) (nb:List Int × List Tho),σ=[some (.ref P),some (.ref A),some (.str (tx (tkC t))),some (.int r),some (.ref N2),some (.ref B),v6,v7,v8]/\Fb H H' c d P L G N2 B bs2 Ms2 h w g LC cl nb/\H' C=some (.lst (cs.map V.int))/\fbL h w g LC cl t r cs (LA,[])=fbL h w g LC cl t r (cs.drop i) nb/\nb.2.length<=6*i)
    ⟨N,[],[],none,none,none,(LA,[]),rfl,X0.same s3,eC,rfl,Mj _⟩ (fun i σ H' _ ⟨_,_,_,_,_,_,_,_,_,e,_⟩=>Mc e) ?_ ?_
   . rintro i v σ H4 hv ⟨N2,bs2,Ms2,v6,v7,v8,nb,rfl,X4,eC4,ef,bl⟩;obtain⟨z,hz,rfl⟩:=aP hv;have hi:i<cs.length:=(LP.mp hz).1;have zm:z∈celF h w LC t r:=by rw[hcs];exact LV hz
     have ed:cs.drop i=z::cs.drop (i+1):=by
      rw[Ny hi]
      congr 1
      exact(LP.mp hz).2
     rw[ed] at ef;symm;refine Fp X4 ok zm (by omega) eC4 nCB fun N3 bs3 Ms3 v7 v8 H5 X5 eC5 l5=>?_;have ef':fbL h w g LC cl t r cs (LA,[])=if 0∈(fbC h w g LC cl t r nb z).1 then(fbC h w g LC cl t r nb z).2 else fbL h w g LC cl t r (cs.drop (i+1)) (fbC h w g LC cl t r nb z):=ef;generalize fbC h w g LC cl t r nb z=n5 at*;symm;rw[ax];symm;refine⟨N3,n5.1,rfl,X5.nw,?_⟩;by_cases h0:(0:Int)∈n5.1
     . rw[Md h0] at ef';rw[LU h0];refine⟨true,rfl,iteT ?_⟩;symm;rw[ef'] at q;exact q B bs3 Ms3 H5 X5.sm X5.fB X5.fb X5.fM X5.bk
     . rw[L4 h0] at ef';rw[LR h0];refine⟨false,rfl,iteF ?_⟩;exact⟨N3,bs3,Ms3,_,_,_,n5,rfl,X5,eC5,ef',by omega⟩
   . rintro σ H4 ⟨N2,bs2,Ms2,v6,v7,v8,nb,rfl,X4,eC4,ef,bl⟩;rw[LM,Oy] at ef;symm;rw[ef] at q;exact q B bs2 Ms2 H4 X4.sm X4.fB X4.fb X4.fM X4.bk
theorem Same.sqt{xs:List V}(e:Same H H')(h:SqT K H a xs):SqT K H' a xs:=by
 rcases h with (h | ⟨o,h⟩) | h
 . exact .inl (.inl (e _ _ h))
 . exact .inl (.inr ⟨o,e _ _ h⟩)
 . exact .inr h
theorem yw {k:Nat} {tt:TT} {te:TE} {fin:Addr->Hp->Prop} {σ0:St} {xs:List Str} (b:Str->Bool) (hn:xs.length<=900) (hq:SqT K H1 a (xs.map V.str))
  (ht:∀ x H R,x∈xs->Same H1 H->(∀ H',Same H H'->R (b x) H')->tt (σ0.set k (some (.str x))) H R)
  (he:∀ x H Q,x∈xs->b x=true->Same H1 H->(∀ H',Same H H'->Q (.str x) H')->te (σ0.set k (some (.str x))) H Q)
  (hd:∀ l H,H1 l=none->Same H1 H->H l=some (.lst ((xs.filter b).map V.str))->fin l H):CompR (Itt K a) (gName k) tt te fin σ0 H1:=by
 refine zU (xs:=xs.map V.str) (fun l i σ H=>(σ=σ0\/∃ cv,σ=σ0.set k cv)/\Same H1 H/\H l=some (.lst (((xs.take i).filter b).map V.str))) (fun l hl=>⟨.inl rfl,(LQ H1).laid hl,by rw[ag];rfl⟩) (fun l i σ H _ _ p=>p.2.1.sqt hq) ?_ (fun l σ H hl p=>hd l H hl p.2.1 (by have:=p.2.2;rw[LM,M6] at this;exact this));rintro l i x σ H hl hx ⟨hσ,s1,el⟩;rw[LW] at hx;obtain⟨z,hz,rfl⟩:=M5.mp hx;have hi:i<xs.length:=(LP.mp hz).1;have et:xs.take (i+1)=xs.take i++[z]:=by rw[Ni,hz];rfl
 rw[a7]
 have e:σ.set k (some (.str z))=σ0.set k (some (.str z)):=by
  rcases hσ with rfl | ⟨cv,rfl⟩
  . rfl
  . exact Nr ..
 rw[e];refine ht z H _ (LV hz) s1 fun H2 s2=>?_;have el2:=s2 _ _ el;have s12:=s1.trans s2
 cases hb:b z with
 | false=>
  rw[L4 LY];refine⟨.inr ⟨_,rfl⟩,s12,?_⟩;rw[et,MG,MI,hb]
  simpa using el2
 | true=>
  rw[Md rfl];refine he z H2 _ (LV hz) hb s12 fun H3 s3=>⟨_,s3 _ _ el2,?_,.inr ⟨_,rfl⟩,(s12.trans s3).own hl,?_⟩
  . rw[LM];exact aE (L8 (L9 _ _) (by rw[M0];omega))
  . rw[ag,et,MG,MI,hb];simp
def dBk(th:Tho):PyData:=dTh th.t th.r th.z th.s th.ms
theorem Ik{bs:List Addr}(x:IsBk H l bs Ms LI):DV K H (.ref l) (.list (LI.map dBk)):=by
 have l1:=x.len;have l2:=x.lnM;refine .lst (Mc x.top) (DVs.of_get (by simp[x.len]) fun i y d h1 h2=>?_);obtain⟨a,ha,rfl⟩:=bF h1;rw[LW] at h2;obtain⟨th,hth,rfl⟩:=M5.mp h2;have hi:i<LI.length:=(LP.mp hth).1;exact CI (x.at_ i a _ th ha (LN (by omega)) hth)
theorem BZ(t:TK)(r z s:Int)(ms:List Int):PyData.canLay0 (dTh t r z s ms)=true/\PyData.depth (dTh t r z s ms)<=2:=by
 have a1:PyData.strOk (tx (tkC t))=true:=zu (by cases t <;> decide);unfold dTh;simp[PyData.canLay0,PyData.canLayAll0,a1,lO,PyData.depth,PyData.depthAll,iP]
theorem yx(LI:List Tho):SeqAt.shaped (.list (LI.map dBk))=true:=by
 have h1:PyData.canLayAll0 (LI.map dBk)=true:=xg fun d hd=>by obtain⟨x,_,rfl⟩:=L1.mp hd;exact(BZ _ _ _ _ _).1
 have h2:PyData.depthAll (LI.map dBk)<=2:=qX fun d hd=>by obtain⟨x,_,rfl⟩:=L1.mp hd;exact(BZ _ _ _ _ _).2
 simp[SeqAt.shaped,PyData.canLay0,h1,PyData.depth];omega
theorem Go(LI:List Tho):PyData.eqv (.list (LI.map dBk)) (.list [])=decide (LI.length=0):=by
 cases LI <;> simp[PyData.eqv,PyData.eqvAll]
theorem Eo{E:Addr}{bs:List Addr}(x:IsBk H l bs Ms LI)(e:H E=some (.lst []))(q:Q (.bl (!decide (LI.length=0))) H):cNe K (.ref l) (.ref E) H Q:=by
 show rNeD K (.ref l) (.ref E) H Q;refine⟨_,.list [],Ik x,.lst (Mc e) .nil,yx LI,yx [],?_⟩;rw[Go];exact q
abbrev txk(t:TK):Str:=tx (tkC t)
def allT:List TK:=[.clue,.only,.place,.count,.step,.sum,.square,.reach,.turn,.pair,.ways]
theorem lG:gt_KINDS=allT.map txk:=by decide+kernel
theorem Gp{a b:TK}:decide (txk a=txk b)=decide (a=b):=by cases a <;> cases b <;> decide+kernel
variable{ks:List TK}
theorem B0:decide (txk t∈ks.map txk)=decide (t∈ks):=by
 rw[Mn,LO,LO,L1];constructor
 . rintro⟨a,ha,e⟩;have:=Gp (a:=a) (b:=t);rw[LU e] at this;exact(LX this.symm) ▸ ha
 . exact fun h=>⟨t,h,rfl⟩
noncomputable def ffR (h w g:Int) (LC:List RR) (cl LA:List Int) (t:TK):List Int->List Tho
 | []=>[]
 | r::rs=>if (fbF h w g LC cl LA t r).length=0 then ffR h w g LC cl LA t rs else fbF h w g LC cl LA t r
noncomputable def ffT (h w g:Int) (LC:List RR) (cl LA:List Int):List TK->List Tho
 | []=>[]
 | t::ts=>if (ffR h w g LC cl LA t (rnF LC t)).length=0 then ffT h w g LC cl LA ts else ffR h w g LC cl LA t (rnF LC t)
noncomputable def ffF (h w g:Int) (LC:List RR) (cl LA:List Int) (ks:List TK):List Tho:=ffT h w g LC cl LA (allT.filter fun t=>decide (t∈ks))
def KdL(H:Hp)(Kd:Addr)(ks:List TK):Prop:=H Kd=some (.lst ((ks.map txk).map V.str))
def KdK(K:Frag)(H:Hp)(Kd:Addr)(ks:List TK):Prop:=KdL H Kd ks\/SqT K H Kd ((ks.map txk).map V.str)
theorem KdK.same{Kd:Addr}(x:KdK K H Kd ks)(s:Same H H'):KdK K H' Kd ks:=x.elim (fun a=>.inl (s _ _ a)) (fun a=>.inr (s.sqt a))
theorem Il{Kd:Addr}{x:Str}(h:KdK K H Kd ks)(q:Q (.bl (decide (x∈ks.map txk))) H):rIn K false (.str x) (.ref Kd) H Q:=by
 refine⟨Kd,(ks.map txk).map V.str,rfl,h.elim (fun a=>.inl (Mc a)) .inr,rfl,gc _,?_⟩;rw[h9];exact q
def kh(K:Frag)(c:RCl RK)(d:RCl PzK):Sp:=fun vs H Q _=>∃(P L G A Kd:Addr) (h w g:Int) (LC:List RR) (cl LA:List Int) (ks:List TK),vs=[.ref P,.ref A,.ref Kd]/\Lk H c d P L G A h w g LC cl LA/\KdK K H Kd ks/\BkP Q H (ffF h w g LC cl LA ks)
def ffin(K:Frag)(c:RCl RK)(d:RCl PzK):TS:=
 (tFor (iList K (tCall (jB K c d) [] E0 (tCons (tVar 0) (tCons (tVar 3) tNil)))) (gName 4)
  (tSeq (tAsg (tCall (iA K c d) [] E0 (tCons (tVar 0) (tCons (tVar 1) (tCons (tVar 3) (tCons (tVar 4) tNil))))) (gName 5))
  (tIfS (tTest (tOp (cNe K) (tVar 5) (tLst tNil))) (tRet (tVar 5)) tNext)))
def ki(K:Frag)(c:RCl RK)(d:RCl PzK):TS:=
 (tSeq (tFor (iList K (tComp [none,none,some 2] (iTup K (tGT K gt_KINDS)) (gName 1) (tTest (tOp (rIn K false) (tVar 1) (tVar 2))) (tVar 1))) (gName 3)
  (ffin K c d))
  (tRet (tLst tNil)))
theorem Gq {D:Ends} {v4 v5:Option V} (X:Lk H c d P L G A h w g LC cl LA)
  (k1:(ffR h w g LC cl LA t (rnF LC t)).length=0->∀(v4 v5:Option V) (H':Hp),Same H H'->D.nx [some (.ref P),some (.ref A),v2,some (.str (txk t)),v4,v5] H')
  (k2:¬ (ffR h w g LC cl LA t (rnF LC t)).length=0->BkP D.rt H (ffR h w g LC cl LA t (rnF LC t))):
  ffin K c d D [some (.ref P),some (.ref A),v2,some (.str (txk t)),v4,v5] H:=by
 unfold ffin;symm;refine⟨P,L,G,h,w,g,LC,cl,t,rfl,X.P,fun R H1 s1 hR eR=>?_⟩;have hok:∀ r∈rnF LC t,RuOk LC t r:=fun r hr=>FF hr;generalize rnF LC t=rs at*;refine⟨R,rfl,⟨_,Mc eR⟩,?_⟩;refine bq (K:=K) (xs:=rs.map V.int) (fun i σ H'=>∃(v4 v5:Option V),σ=[some (.ref P),some (.ref A),v2,some (.str (txk t)),v4,v5]/\Same H1 H'/\ffR h w g LC cl LA t rs=ffR h w g LC cl LA t (rs.drop i)) ⟨_,_,rfl,LQ H1,rfl⟩ (fun i σ H' _ ⟨_,_,_,s,_⟩=>Mc (s _ _ eR)) ?_ ?_
 . rintro i v σ H2 hv ⟨v4,v5,rfl,s2,ef⟩;obtain⟨r,hr,rfl⟩:=aP hv;have hi:i<rs.length:=(LP.mp hr).1
   have ed:rs.drop i=r::rs.drop (i+1):=by
    rw[Ny hi]
    congr 1
    exact(LP.mp hr).2
   rw[ed] at ef;have ef':ffR h w g LC cl LA t rs=if (fbF h w g LC cl LA t r).length=0 then ffR h w g LC cl LA t (rs.drop (i+1)) else fbF h w g LC cl LA t r:=ef;have s12:=s1.trans s2;symm;refine⟨P,L,G,A,h,w,g,LC,cl,LA,t,r,rfl,X.same s12,hok r (LV hr),fun B bs Ms H3 s3 hB hb hM bk=>?_⟩;symm;rw[ax];symm;refine⟨aQ (by decide),fun E hE=>?_⟩;obtain⟨H4,z9,s4,eE⟩:=aU (.lst []) hE;rw[z9];have s34:=s3.trans s4;refine Eo (bk.same s4) eE ?_;by_cases h0:(fbF h w g LC cl LA t r).length=0
   . rw[Md h0] at ef';rw[LU h0];refine⟨_,rfl,iteF ?_⟩;exact⟨_,_,rfl,s2.trans s34,ef'⟩
   . rw[L4 h0] at ef';rw[LR h0];refine⟨_,rfl,iteT ?_⟩;symm;refine k2 (by rw[ef'];exact h0) B bs Ms H4 (s12.trans s34) (s12.free hB) (fun b h=>s12.free (hb b h)) (fun b h=>s12.free (hM b h)) ?_;rw[ef'];exact bk.same s4
 . rintro σ H2 ⟨v4,v5,rfl,s2,ef⟩;rw[LM,Oy] at ef;exact k1 (by rw[ef];rfl) v4 v5 H2 (s1.trans s2)
theorem xC(h:kh K c d vs H Q E):ki K c d (eD9 Q) (start ["puzzle","masks","kinds","kind","number","found"] vs) H:=by
 obtain⟨P,L,G,A,Kd,h,w,g,LC,cl,LA,ks,rfl,X,hK,q⟩:=h;show ki K c d _ [some (.ref P),some (.ref A),some (.ref Kd),none,none,none] H;unfold ki;symm;rw[xi,Fm];intro p hp;refine⟨p,rfl,⟨_,hp⟩,?_⟩;rw[lG] at hp;refine yw (xs:=allT.map txk) (fun x=>decide (x∈ks.map txk)) (by decide) hp ?_ ?_ ?_
 . intro x H1 R hx s1 k1;show tTest _ [none,some (.str x),some (.ref Kd)] H1 R;symm;exact Il (hK.same s1) ⟨_,rfl,k1 _ (LQ _)⟩
 . intro x H1 Q1 hx hb s1 k1;show tVar 1 [none,some (.str x),some (.ref Kd)] H1 Q1;symm;exact k1 _ (LQ _)
 . intro S H1 hS s1 eS
   have ef:((allT.map txk).filter fun x=>decide (x∈ks.map txk))=(allT.filter fun t=>decide (t∈ks)).map txk:=by
    rw[Oa];refine congrArg _ (List.filter_congr fun t _=>?_);exact B0
   rw[ef] at eS;unfold ffF at q;generalize (allT.filter fun t=>decide (t∈ks))=ts at*;refine⟨S,rfl,⟨_,Mc eS⟩,?_⟩;refine bq (K:=K) (xs:=(ts.map txk).map V.str) (fun i σ H'=>∃(v3 v4 v5:Option V),σ=[some (.ref P),some (.ref A),some (.ref Kd),v3,v4,v5]/\Same H1 H'/\ffT h w g LC cl LA ts=ffT h w g LC cl LA (ts.drop i)) ⟨_,_,_,rfl,LQ H1,rfl⟩ (fun i σ H' _ ⟨_,_,_,_,s,_⟩=>Mc (s _ _ eS)) ?_ ?_
   . rintro i v σ H2 hv ⟨v3,v4,v5,rfl,s2,ef⟩;rw[LW,LW] at hv;obtain⟨u,hu,rfl⟩:=M5.mp hv;obtain⟨t,ht,rfl⟩:=M5.mp hu;have hi:i<ts.length:=(LP.mp ht).1
     have ed:ts.drop i=t::ts.drop (i+1):=by
      rw[Ny hi]
      congr 1
      exact(LP.mp ht).2
     rw[ed] at ef;have ef':ffT h w g LC cl LA ts=if (ffR h w g LC cl LA t (rnF LC t)).length=0 then ffT h w g LC cl LA (ts.drop (i+1)) else ffR h w g LC cl LA t (rnF LC t):=ef;have s12:=s1.trans s2;symm;refine Gq (X.same s12) (fun h0 v4 v5 H3 s3=>?_) (fun h0=>?_)
     . rw[Md h0] at ef';exact⟨_,_,_,rfl,s2.trans s3,ef'⟩
     . rw[L4 h0] at ef';rw[ef'] at q;exact q.of s12
   . rintro σ H2 ⟨v3,v4,v5,rfl,s2,ef⟩;rw[LM,LM,Oy] at ef;rw[ef] at q;symm;refine⟨aQ (by decide),fun E hE=>?_⟩;exact(q.of (s1.trans s2)) E [] [] _ ((LQ H2).laid hE) hE (fun b hb=>by cases hb) (fun b hb=>by cases hb) (IsBk.nil ag)
noncomputable def ntF (h w g:Int) (LC:List RR) (cl LA:List Int) (ks:List TK):Option Tho:=if 0∈LA then none else(ffF h w g LC cl LA ks).head?
def dm(K:Frag)(c:RCl RK)(d:RCl PzK):Sp:=fun vs H Q _=>∃(P L G A Kd:Addr) (h w g:Int) (LC:List RR) (cl LA:List Int) (ks:List TK),vs=[.ref P,.ref A,.ref Kd]/\Lk H c d P L G A h w g LC cl LA/\KdK K H Kd ks/\
 (ntF h w g LC cl LA ks=none->∀ H',Same H H'->Q .non H')/\∀(th:Tho) (T M:Addr) (H':Hp),ntF h w g LC cl LA ks=some th->Same H H'->H T=none->H M=none->IsTh H' T M th.t th.r th.z th.s th.ms->Q (.ref T) H'
def gp(K:Frag)(c:RCl RK)(d:RCl PzK):TS:=
 (tRet (tIf (tTest (tOp (cNe K) (tVar 3) (tLst tNil))) (tOp cIx (tVar 3) (tC (.int 0))) (tC .non)))
def jF(K:Frag)(c:RCl RK)(d:RCl PzK):TS:=
 (tSeq (tAsg (tIf (tNot (tB (tCall (gu K) [] E0 (tCons (tVar 1) tNil)))) (tCall (kh K c d) [] E0 (tCons (tVar 0) (tCons (tVar 1) (tCons (tVar 2) tNil)))) (tLst tNil)) (gName 3))
  (gp K c d))
theorem vZ{B:Addr}{bs:List Addr}{v0 v1:Option V}(X:IsBk H B bs Ms LI)(q1:LI=[]->∀ H',Same H H'->Q .non H')(q2:∀ th r b M H',LI=th::r->Same H H'->b∈bs->M∈Ms->IsTh H' b M th.t th.r th.z th.s th.ms->Q (.ref b) H'):
  gp K c d (eD9 Q) [v0,v1,v2,some (.ref B)] H:=by
 unfold gp;symm;refine⟨aQ (by decide),fun E hE=>?_⟩;obtain⟨H4,z9,s4,eE⟩:=aU (.lst []) hE;rw[z9];have X4:=X.same s4;refine Eo X4 eE ?_
 match LI,X4 with
 | [],X4=>
  rw[LU (show([]:List Tho).length=0 from rfl)];refine⟨_,rfl,iteF ?_⟩;exact q1 rfl _ s4
 | th::r,X4=>
  rw[LR (by simp)];refine⟨_,rfl,iteT ?_⟩;have l1:=X4.len;have l2:=X4.lnM;rw[Mx] at l1 l2;have e1:bs[0]? =some bs[0]:=LN (by omega);have e2:Ms[0]? =some Ms[0]:=LN (by omega);refine ixL X4.top (v:=V.ref bs[0]) (dD (j:=0) (by rw[LW,e1];rfl)) ?_;exact q2 th r bs[0] Ms[0] _ rfl s4 (Mp _) (Mp _) (X4.at_ 0 _ _ th e1 e2 rfl)
theorem wa(h:dm K c d vs H Q E):jF K c d (eD9 Q) (start ["puzzle","masks","kinds","found"] vs) H:=by
 obtain⟨P,L,G,A,Kd,h,w,g,LC,cl,LA,ks,rfl,X,hK,q1,q2⟩:=h;show jF K c d _ [some (.ref P),some (.ref A),some (.ref Kd),none] H;unfold jF;symm;refine⟨A,LA,rfl,X.A,?_⟩;unfold ntF at q1 q2;by_cases h0:(0:Int)∈LA
 . rw[Md h0] at q1;rw[LU h0];refine⟨true,rfl,iteF ?_⟩;refine⟨aQ (by decide),fun B hB=>?_⟩;obtain⟨H1,z9,s1,eB⟩:=aU (.lst []) hB;rw[z9];exact vZ (IsBk.nil eB) (fun _ H' s'=>q1 rfl H' (s1.trans s')) (fun th r b M H' e=>by cases e)
 . rw[L4 h0] at q1 q2;rw[LR h0];refine⟨false,rfl,iteT ?_⟩;refine⟨P,L,G,A,Kd,h,w,g,LC,cl,LA,ks,rfl,X,hK,fun B bs Ms H1 s1 hB hb hM bk=>?_⟩;refine vZ bk (fun e H' s'=>q1 (by rw[e];rfl) H' (s1.trans s')) (fun th r b M H' e s' hb' hM' Th=>?_);exact q2 th b M H' (by rw[e];rfl) (s1.trans s') (hb b hb') (hM M hM') Th
def OkT(h w g:Int)(LC:List RR)(cl:List Int)(ks:List TK)(m:List Int)(th:Tho):Prop:=0∉m/\th.t∈ks/\(0<=th.z/\th.z<h*w)/\(1<=th.s/\th.s<=g)/\stB (m.getD th.z.toNat 0) th.s=true/\alwA h w g LC cl m th.t th.r th.z th.s th.ms=true
def Wlk(h w g:Int)(LC:List RR)(cl:List Int)(ks:List TK):List Int->List Tho->List Int->Prop
 | m,[],m'=>m=m'
 | m,th::r,m'=>OkT h w g LC cl ks m th/\Wlk h w g LC cl ks (stL m th.z th.s) r m'
theorem Wlk.trans{h w g:Int}{LC:List RR}{cl:List Int}{ks:List TK}:∀{a b:List Tho} {m m1 m2:List Int},Wlk h w g LC cl ks m a m1->Wlk h w g LC cl ks m1 b m2->Wlk h w g LC cl ks m (a++b) m2
 | [],_,_,_,_,h1,h2=>by cases (show _=_ from h1);exact h2
 | _::_,_,_,_,_,h1,h2=>⟨h1.1,Wlk.trans h1.2 h2⟩
theorem Wlk.snoc{a:List Tho}{m m1:List Int}{th:Tho}(h1:Wlk h w g LC cl ks m a m1)(h2:OkT h w g LC cl ks m1 th):Wlk h w g LC cl ks m (a++[th]) (stL m1 th.z th.s):=h1.trans ⟨h2,rfl⟩
theorem Iy:stB 0 s=false:=by
 unfold stB;rw[show Builtin.Int.intBits 0=0 from rfl]
 cases h1:decide (1<=s) with
 | false=>rfl
 | true=>
  have:=LX h1;rw[LR (show ¬ s<=((0:Nat):Int) by omega)];rfl
theorem Hz(f:formB h w g LC t r z s=true)(e:faF h w g LC cl LA t r z s=some ms):alwA h w g LC cl LA t r z s ms=true:=by
 unfold alwA;rw[f,Mf];unfold faF at e;exact OJ e
theorem uE{h w g:Int}{LC:List RR}{cl:List Int}{ks:List TK}{t:TK}{r z:Int}{n:Nat}{m0:List Int}(g0:1<=g)(g6:g<=6)(tk:t∈ks)(hn:n=(h*w).toNat)(f:∀ s,1<=s->s<=g->formB h w g LC t r z s=true):
  ∀(ss:List Int) (nb:List Int × List Tho),ss.Nodup->(∀ s∈ss,(1<=s/\s<=g)/\stB (nb.1.getD z.toNat 0) s=true)->MkP g n nb.1->(∀ k,k<n->(k:Int)≠z->nb.1.getD k 0≠0)->Wlk h w g LC cl ks m0 nb.2 nb.1->
  Wlk h w g LC cl ks m0 (ss.foldl (fbS h w g LC cl t r z) nb).2 (ss.foldl (fbS h w g LC cl t r z) nb).1/\MkP g n (ss.foldl (fbS h w g LC cl t r z) nb).1
 | [],nb,_,_,M,_,W=>⟨W,M⟩
 | s::ss,nb,nd,hs,M,nz,W=>by
  have p64:=mY g0 g6;have h1:=hs s Ma;have zf:=bj (f 1 (by decide) g0);have ml:=M.len;have mz:=M.mm _ (bU (k:=z.toNat) (ms:=nb.1) (by omega));rw[MX] at nd;rw[Na]
  have no0:(0:Int)∉nb.1:=fun h0=>by
   obtain⟨k,hk,e⟩:=Nm.mp h0;have ek:nb.1.getD k 0=0:=by rw[List.getD,LN hk,e];rfl
   by_cases kz:(k:Int)=z
   . have:z.toNat=k:=by omega
     rw[this,ek,Iy] at h1;cases h1.2
   . exact nz k (by omega) kz ek
  have hst:=El (s:=s) mz.1 (by omega) h1.1.1 (by omega)
  cases e:faF h w g LC cl nb.1 t r z s with
  | none=>
   have e2:fbS h w g LC cl t r z nb s=nb:=by unfold fbS;rw[e]
   rw[e2];exact uE g0 g6 tk hn f ss nb nd.2 (fun x hx=>hs x (L5 _ hx)) M nz W
  | some ms=>
   have e2:fbS h w g LC cl t r z nb s=(stL nb.1 z s,nb.2++[⟨t,r,z,s,ms⟩]):=by unfold fbS;rw[e]
   rw[e2];refine uE g0 g6 tk hn f ss _ nd.2 (fun x hx=>?_) (M.stL g0 g6 h1.1.1 (by omega)) (fun k hk kz=>?_) ?_
   . have hx2:=hs x (L5 _ hx);refine⟨hx2.1,?_⟩;show stB ((stL nb.1 z s).getD z.toNat 0) x=true;rw[Em (by omega),Md (by omega),hst.2.1 x hx2.1.1 (by omega) (fun e'=>nd.1 (e' ▸ hx))];exact hx2.2
   . show(stL nb.1 z s).getD k 0≠0;rw[Em (by omega),L4 kz];exact nz k hk kz
   . exact W.snoc (th:=⟨t,r,z,s,ms⟩) ⟨no0,tk,⟨zf.1,zf.2.1⟩,h1.1,h1.2,Hz (f s h1.1.1 h1.1.2) e⟩
theorem As{h w g:Int}{LC:List RR}{cl:List Int}{ks:List TK}{t:TK}{r:Int}{n:Nat}{m0:List Int}(g0:1<=g)(g6:g<=6)(tk:t∈ks)(hn:n=(h*w).toNat):
  ∀(zs:List Int) (nb:List Int × List Tho),(∀ z∈zs,∀ s,1<=s->s<=g->formB h w g LC t r z s=true)->0∉nb.1->MkP g n nb.1->Wlk h w g LC cl ks m0 nb.2 nb.1->∃ m',Wlk h w g LC cl ks m0 (fbL h w g LC cl t r zs nb) m'
 | [],nb,_,_,_,W=>⟨_,W⟩
 | z::zs,nb,f,h0,M,W=>by
  have zf:=bj (f z Ma 1 (by decide) g0);have ml:=M.len;have p64:=mY g0 g6;have mz:=M.mm _ (bU (k:=z.toNat) (ms:=nb.1) (by omega));have c:=uE (cl:=cl) g0 g6 tk hn (f z Ma) (sgL (nb.1.getD z.toNat 0)) nb (rE _) (fun s hs=>⟨vY g0 g6 mz.1 mz.2 hs,(kb mz.1 s).mp hs⟩) M (fun k hk _ e=>h0 (by rw[← e];exact bU (by omega))) W;unfold fbL
  split
  . exact⟨_,c.1⟩
  . rename_i hn0
    exact As g0 g6 tk hn zs _ (fun z hz=>f z (L5 _ hz)) hn0 c.2 c.1
theorem At{c:RCl RK}{h w g:Int}{LC:List RR}{cl:List Int}{ks:List TK}{t:TK}{LA:List Int}(R:bn c h w g LC)(tk:t∈ks)(M:MkP g (h*w).toNat LA)(h0:0∉LA):∀ rs:List Int,(∀ r∈rs,RuOk LC t r)->∃ m',Wlk h w g LC cl ks LA (ffR h w g LC cl LA t rs) m'
 | [],_=>⟨_,rfl⟩
 | r::rs,ok=>by
  unfold ffR
  split
  . exact At R tk M h0 rs fun r hr=>ok r (L5 _ hr)
  . exact As R.F.g0 R.F.g1 tk rfl _ (LA,[]) (fun z hz s s0 s1=>Ar R (ok r Ma) hz s0 s1) h0 M rfl
theorem Fq(R:bn c h w g LC)(M:MkP g (h*w).toNat LA)(h0:0∉LA):∃ m',Wlk h w g LC cl ks LA (ffF h w g LC cl LA ks) m':=by
 have go:∀ ts:List TK,(∀ t∈ts,t∈ks)->∃ m',Wlk h w g LC cl ks LA (ffT h w g LC cl LA ts) m':=fun ts=>by
  induction ts with
  | nil=>exact fun _=>⟨_,rfl⟩
  | cons t ts ih=>
   intro ht;unfold ffT
   split
   . exact ih fun t h=>ht t (L5 _ h)
   . exact At R (ht t Ma) M h0 _ fun r hr=>FF hr
 exact go _ fun t ht=>LX (LS.mp ht).2
variable{s:Int}
theorem Au{m:Int}(nz:m≠0)(h:woI m s=0):stB m s=true:=by
 unfold woI at h
 split at h
 . assumption
 . exact absurd h nz
variable{cs:List Int}
theorem Gr{h w:Int}{st x:Int}:rcB h w cs st x=true↔RC h w cs st x:=by unfold rcB;exact @O5 _ (Classical.propDecidable _)
theorem rcB_no{h w:Int}{st x:Int}:(!rcB h w cs st x)=true↔¬ RC h w cs st x:=by rw[MN,← Oz,Gr]
variable{LC:List RR}{LA:List Int}
theorem wc{h w g:Int}{t:TK}{r z:Int}(n1:t≠.place)(n2:t≠.square)(n3:t≠.turn)(n4:t≠.only)(n5:t≠.reach)(n6:t≠.pair):mtF h w g LC LA t r z s=[[]]:=by
 unfold mtF;rw[L4 n1,L4 n2,L4 n3]
 split
 . rfl
 . rw[L4 n4,L4 n5,L4 n6]
variable{ms:List Int}
theorem cO(h:ms.length=1):ms=[ms.getD 0 0]:=by
 match ms,h with
 | [a],_=>rfl
theorem oG(h:ms.length=2):ms=[ms.getD 0 0,ms.getD 1 0]:=by
 match ms,h with
 | [a,b],_=>rfl
theorem FG(nz:0∉LA){o:Int}(h:o.toNat<LA.length):LA.getD o.toNat 0≠0:=fun e=>nz (e ▸ bU h)
theorem rng1_mem{g o:Int}:o∈rngL 1 (g+1)↔1<=o/\o<=g:=by
 unfold rngL;rw[L1];constructor
 . rintro⟨k,hk,rfl⟩;have:=LZ.mp hk;omega
 . intro⟨a,b⟩;exact⟨(o-1).toNat,LZ.mpr (by omega),by omega⟩
theorem wd{p:Int->Bool}{a b:Int}(ha:a∈cs.filter p)(hb:b∈cs.filter p)(h:(cs.filter p).findIdx (· ==a) < (cs.filter p).findIdx (· ==b)):cs.findIdx (· ==a)<cs.findIdx (· ==b):=by
 induction cs with
 | nil=>cases ha
 | cons x cs ih=>
  rw[Oo,Oo];by_cases hx:p x=true
  . rw[MI,Md hx] at ha hb h;rw[Oo,Oo] at h;by_cases e1:(x==a)=true
    . rw[e1] at h ⊢;by_cases e2:(x==b)=true
      . rw[e2] at h;simp at h
      . rw[Oz] at e2;rw[e2];simp
    . rw[Oz] at e1;rw[e1] at h ⊢;by_cases e2:(x==b)=true
      . rw[e2] at h;simp at h
      . rw[Oz] at e2;rw[e2] at h ⊢;have ha':a∈cs.filter p:=(L6.mp ha).elim (fun e=>by rw[e] at e1;simp at e1) id;have hb':b∈cs.filter p:=(L6.mp hb).elim (fun e=>by rw[e] at e2;simp at e2) id;have:=ih ha' hb' (by simpa using h)
        simpa using this
  . rw[MI,L4 hx] at ha hb h
    have e1:(x==a)=false:=by
     rw[Bool.eq_false_iff];intro e;exact hx (NE.mp e ▸ (LS.mp ha).2)
    have e2:(x==b)=false:=by
     rw[Bool.eq_false_iff];intro e;exact hx (NE.mp e ▸ (LS.mp hb).2)
    rw[e1,e2];have:=ih ha hb h
    simpa using this
theorem Ep{xs:List Int}(h:(xs.filter fun x=>!decide (x=s)).length<=1)(nd:xs.Nodup):xs.length<=2:=by
 have:=gr (ys:=s::xs.filter fun x=>!decide (x=s)) nd fun x hx=>by
  by_cases e:x=s
  . rw[e];exact Ma
  . exact L5 _ (LS.mpr ⟨hx,by simpa using e⟩)
 rw[Mx] at this;omega
theorem p9{k:RK}(h:goesB .reach k=true):allK k=true:=by cases k <;> first | rfl | cases h
theorem compA{c:RCl RK}{h w g:Int}{cl:List Int}{t:TK}{r z:Int}(R:bn c h w g LC)(X:MkP g (h*w).toNat LA)(nz:0∉LA)(f:formB h w g LC t r z s=true)(hb:strA h w g LC cl LA t r z s ms=true):
  ∃ ms'∈mtF h w g LC LA t r z s,strA h w g LC cl LA t r z s ms'=true:=by
 obtain⟨z0,z1,s0,s1,LL⟩:=bj f;have F:=R.F;have g0:=F.g0;have g6:=F.g1;have p64:=mY g0 g6
 have mb:∀ o:Int,0<=o->o<h*w->(0<=LA.getD o.toNat 0/\LA.getD o.toNat 0<64)/\LA.getD o.toNat 0≠0:=fun o o0 o1=>by
  have hl:o.toNat<LA.length:=by rw[X.len];omega
  have:=X.mm _ (bU hl);exact⟨by omega,FG nz hl⟩
 by_cases hc:t=.clue
 . subst hc
   have e:ms=[]:=by
    have:clueB cl z s ms=true:=hb;unfold clueB at this;rw[LT] at this;exact LX this.1
   exact⟨[],by rw[wc (by decide) (by decide) (by decide) (by decide) (by decide) (by decide)];simp,e ▸ hb⟩
 obtain⟨r0,y,ey,hgo,hz⟩:=dL hc LL;have O:=R.ok y (LV ey);have keep:∀ t',t=t'->(ms∈mtF h w g LC LA t' r z s)->∃ ms'∈mtF h w g LC LA t r z s,strA h w g LC cl LA t r z s ms'=true:=fun t' e q=>⟨ms,e ▸ q,hb⟩;have nil:(t≠.place)->(t≠.square)->(t≠.turn)->(t≠.only)->(t≠.reach)->(t≠.pair)->ms=[]->∃ ms'∈mtF h w g LC LA t r z s,strA h w g LC cl LA t r z s ms'=true:=fun a1 a2 a3 a4 a5 a6 e=>⟨[],by rw[wc a1 a2 a3 a4 a5 a6];simp,e ▸ hb⟩
 cases t with
 | clue=>exact absurd rfl hc
 | only=>
  have q:onlyB y.cs LA z s ms=true:=by
   have:=hb;unfold strA eh at this;simp only[lineK,M8,ey] at this;exact this
  unfold onlyB at q;simp only[LT,LO] at q;refine⟨ms,?_,hb⟩;unfold mtF;rw[L4 (by decide),L4 (by decide),L4 (by decide),ey];dsimp only;rw[Md rfl];unfold onlM;rw[cO q.1,L1];exact⟨_,LS.mpr ⟨srt_mem.mpr q.2.1,LU q.2.2⟩,rfl⟩
 | place=>
  have q:jk g y.cs LA z s ms=true:=by
   have:=hb;unfold strA eh at this;simp only[lineK,M8,ey] at this;exact this
  unfold jk at q;simp only[LT,LO,MN,MJ] at q;refine⟨ms,?_,hb⟩;unfold mtF;rw[Md rfl];unfold plaM;rw[cO q.2.1,L1];exact⟨_,LS.mpr ⟨rng1_mem.mpr q.2.2.2.1,by simpa using q.2.2.1⟩,rfl⟩
 | pair=>
  have q:pairB y.cs LA z s ms=true:=by
   have:=hb;unfold strA eh at this;simp only[lineK,M8,ey] at this;exact this
  unfold pairB ordB at q;simp only[LT,LO] at q;obtain⟨⟨l2,a1,a2,a3⟩,few⟩:=q;refine⟨ms,?_,hb⟩;unfold mtF;rw[L4 (by decide),L4 (by decide),L4 (by decide),ey];dsimp only;rw[L4 (by decide),L4 (by decide),Md rfl];have inr:∀ o∈y.cs,0<=o/\o<h*w:=fun o ho=>by have:=(N8 O F).2 o ho;omega
  have b1:=inr _ (LS.mp a1).1;have b2:=inr _ (LS.mp a2).1;have m1:=(mb _ b1.1 b1.2).1;have m2:=(mb _ b2.1 b2.2).1;have e2:(sgL (orM LA ms)).length<=2:=Ep few (rE _)
  have small:∀ o:Int,(0<=LA.getD o.toNat 0/\LA.getD o.toNat 0<64)->(∀ x,1<=x->x<=6->stB (LA.getD o.toNat 0) x=true->stB (orM LA ms) x=true)->((sgL (LA.getD o.toNat 0)).length:Int)<=2:=fun o b q=>by
   have bo:0<=orM LA ms:=by
    have:=(LT _ _ ▸ L3.mp (L3.mp Ad (LA.getD (ms.getD 0 0).toNat 0).toNat (LZ.mpr (by omega))) (LA.getD (ms.getD 1 0).toNat 0).toNat (LZ.mpr (by omega)):_/\_).1;rw[show(((LA.getD (ms.getD 0 0).toNat 0).toNat:Nat):Int)=LA.getD (ms.getD 0 0).toNat 0 by omega,show(((LA.getD (ms.getD 1 0).toNat 0).toNat:Nat):Int)=LA.getD (ms.getD 1 0).toNat 0 by omega] at this;exact LX this
   have:=gr (rE (LA.getD o.toNat 0)) fun x hx=>by
    have hx':=(kb b.1 x).mp hx;have bx:=vY (g:=6) (m:=LA.getD o.toNat 0) (by decide) (by decide) b.1 (by simpa using b.2) hx;exact(kb bo x).mpr (q x bx.1 bx.2 hx')
   omega
  unfold paiM;rw[oG l2,Nk];refine⟨ms.getD 0 0,LS.mpr ⟨srt_mem.mpr a1,LU ?_⟩,L1.mpr ⟨ms.getD 1 0,LS.mpr ⟨LS.mpr ⟨srt_mem.mpr a2,LU ?_⟩,LU ?_⟩,rfl⟩⟩
  . exact small _ m1 fun x x0 x6 hx=>by unfold orM;rw[zv m1.1 m1.2 m2.1 m2.2 x0 x6,hx];rfl
  . exact small _ m2 fun x x0 x6 hx=>by unfold orM;rw[zv m1.1 m1.2 m2.1 m2.2 x0 x6,hx,Bool.or_true]
  . have:=wd a1 a2 a3;omega
 | square=>
  have q:squB h w y.m LA z s ms=true:=by
   have:=hb;unfold strA eF at this;simp only[lineK,nbrK,Ng,My,ey,gm] at this;exact this
  unfold squB at q;simp only[LT,LO,MN,MJ] at q;refine⟨ms,?_,hb⟩;unfold mtF;rw[L4 (by decide),Md rfl];unfold squM;rw[cO q.2.1,L1];have ne:=q.2.2.1;unfold rosL at ne
  cases e:(squL h w).find? (rosP (ms.getD 0 0) z) with
  | none=>rw[e] at ne;exact absurd rfl ne
  | some sq=>
   have hp:=OJ e;unfold rosP at hp;rw[LT,LO] at hp;exact⟨sq,LS.mpr ⟨Nw e,hp.2⟩,by rw[hp.1]⟩
 | turn=>
  have q:turnB h w y.m LA z s ms=true:=by
   have:=hb;unfold strA eF at this;simp only[lineK,nbrK,Ng,My,ey,gm] at this;exact this
  refine⟨ms,?_,hb⟩;unfold mtF;rw[L4 (by decide),L4 (by decide),Md rfl];unfold turM;unfold turnB at q;by_cases e:ms=[]
  . rw[e];exact Ma
  . rw[L4 e] at q;simp only[LT,LO] at q;rw[cO q.1];exact L5 _ (L1.mpr ⟨_,q.2.1,rfl⟩)
 | reach=>
  have str:∀ ms',strA h w g LC cl LA .reach r z s ms'=reaB h w y.cs y.m LA z s ms':=fun ms'=>by
   unfold strA eF;simp only[lineK,nbrK,Ng,My,ey,gm]
  have mt:mtF h w g LC LA .reach r z s=reaM h w y.cs y.m LA z s:=by
   unfold mtF;rw[L4 (by decide),L4 (by decide),L4 (by decide),ey];dsimp only;rw[L4 (by decide),Md rfl]
  rw[str] at hb;simp only[str,mt];have hcs:y.cs=rngL 0 (h*w):=(O.cl.all (p9 hgo)).2;have mm0:=O.m0 (mX hgo)
  have insure:∀ o,anoB h w LA z y.m o=true->o∈sureA y.cs LA y.m z:=fun o ho=>by
   unfold anoB at ho;simp only[LT,LO,MN,MJ] at ho;exact LS.mpr ⟨LS.mpr ⟨by rw[hcs];exact mem_rngL.mpr ho.1,by simpa using ho.2.1⟩,LU ho.2.2⟩
  have sure_in:∀ o∈sureA y.cs LA y.m z,anoB h w LA z y.m o=true:=fun o ho=>by
   obtain⟨h1,h2⟩:=LS.mp ho;obtain⟨h3,h4⟩:=LS.mp h1;rw[hcs] at h3;have:=mem_rngL.mp h3;unfold anoB;rw[LU this.1,LU this.2,h4,h2];rfl
  have thr:∀ o∈sureA y.cs LA y.m z,o∈thrL y.cs LA y.m z:=fun o ho=>by
   obtain⟨h1,h2⟩:=LS.mp ho;have h3:=(LS.mp h1).1;rw[hcs] at h3;have b:=mem_rngL.mp h3;exact LS.mpr ⟨h1,Au (mb o b.1 b.2).2 (LX h2)⟩
  unfold reaB at hb;rw[LT,L3] at hb;obtain⟨al,hb⟩:=hb;by_cases e:s=y.m
  . rw[Md e,LT,LO] at hb;have em:=cO hb.1;have ha:anoB h w LA z y.m (ms.getD 0 0)=true:=al _ (em ▸ L0.mpr rfl |> fun q=>by rw[em];simp);refine⟨ms,?_,?_⟩
    . unfold reaM;rw[Md e,em,L1];exact⟨_,LS.mpr ⟨insure _ ha,hb.2⟩,rfl⟩
    . unfold reaB;rw[LT,L3,Md e,LT,LO];exact⟨al,hb⟩
  . rw[L4 e,LT,LT,LO,MN,MJ,rcB_no] at hb;obtain⟨l2,ne,nr⟩:=hb;have em:=oG l2;have ha:anoB h w LA z y.m (ms.getD 0 0)=true:=al _ (by rw[em];simp);have hb':anoB h w LA z y.m (ms.getD 1 0)=true:=al _ (by rw[em];simp);have i1:=insure _ ha;have i2:=insure _ hb'
    have hr:∀ x∈thrL y.cs LA y.m z,0<=x/\x<h*w:=fun x hx=>by
     have h3:=(LS.mp (LS.mp hx).1).1;rw[hcs] at h3;exact mem_rngL.mp h3
    have i0:(sureA y.cs LA y.m z).getD 0 0∈sureA y.cs LA y.m z:=bU (NO i1);generalize hq:(sureA y.cs LA y.m z).getD 0 0=q0 at i0
    have go:∀ o∈sureA y.cs LA y.m z,¬ RC h w (thrL y.cs LA y.m z) q0 o->∃ ms'∈reaM h w y.cs y.m LA z s,reaB h w y.cs y.m LA z s ms'=true:=fun o ho nq=>by
     refine⟨[q0,o],?_,?_⟩
     . unfold reaM;rw[L4 e,hq,L1];exact⟨o,LS.mpr ⟨ho,rcB_no.mpr nq⟩,rfl⟩
     . unfold reaB;rw[LT,L3,L4 e];refine⟨fun x hx=>?_,?_⟩
       . rcases L6.mp hx with rfl | hx
         . exact sure_in _ i0
         . rw[L0.mp hx];exact sure_in _ ho
       . have n2:q0≠o:=fun e'=>nq (e' ▸ .start (thr _ i0));show(decide (2=2)&&(!decide (q0=o)&&!rcB h w (thrL y.cs LA y.m z) q0 o))=true;rw[LR n2,rcB_no.mpr nq];rfl
    by_cases c1:RC h w (thrL y.cs LA y.m z) q0 (ms.getD 0 0)
    . refine go _ i2 fun c2=>nr ((c1.symm (by have:=F.w0;omega) hr).trans c2)
    . exact go _ i1 c1
 | count=>refine nil (by decide) (by decide) (by decide) (by decide) (by decide) (by decide) ?_
          have q:cntB y.cs y.n y.m LA z s ms=true:=by
           have:=hb;unfold strA b3 at this;simp only[lineK,nbrK,M8,Ng,My,ey,dk] at this;exact this
          unfold cntB at q;rw[LT] at q;exact LX q.1
 | step=>refine nil (by decide) (by decide) (by decide) (by decide) (by decide) (by decide) ?_
         have q:stepB y.cs LA z s ms=true:=by
          have:=hb;unfold strA b3 at this;simp only[lineK,nbrK,M8,ey,dk] at this;exact this
         unfold stepB at q;rw[LT] at q;exact LX q.1
 | sum=>refine nil (by decide) (by decide) (by decide) (by decide) (by decide) (by decide) ?_
        have q:sumB y.cs y.n LA z s ms=true:=by
         have:=hb;unfold strA b3 at this;simp only[lineK,nbrK,M8,Ng,My,ey,dk] at this;exact this
        unfold sumB at q;rw[LT] at q;exact LX q.1
 | ways=>refine nil (by decide) (by decide) (by decide) (by decide) (by decide) (by decide) ?_
         have q:waysB y.k h w y.cs y.n y.m LA z s ms=true:=by
          have:=hb;unfold strA b3 at this;simp only[lineK,nbrK,M8,Ng,My,ey,dk] at this;exact this
         unfold waysB at q;rw[LT] at q;exact LX q.1
section
variable{c:RCl RK}{h w g:Int}{LC:List RR}{cl LA:List Int}{t:TK}{r z s:Int}{ms:List Int}{ks:List TK}
theorem uF:∀{l:List Int} {nb:List Int × List Tho},(l.foldl (fbS h w g LC cl t r z) nb).2=[]->(∀ s∈l,faF h w g LC cl nb.1 t r z s=none)/\l.foldl (fbS h w g LC cl t r z) nb=nb
 | [],nb,_=>⟨(fun s hs=>nomatch hs),rfl⟩
 | s::l,nb,e=>by
  rw[Na] at e ⊢;obtain⟨a,b⟩:=uF e;rw[b] at e
  have:faF h w g LC cl nb.1 t r z s=none:=by
   unfold fbS at e
   split at e
   . assumption
   . simp at e
  have eq:fbS h w g LC cl t r z nb s=nb:=by unfold fbS;rw[this]
  rw[eq] at a b;rw[eq];exact⟨fun x hx=>(L6.mp hx).elim (fun e=>e ▸ this) (a x),b⟩
theorem xD:∀{l:List Int} {nb:List Int × List Tho},∃ q,(l.foldl (fbS h w g LC cl t r z) nb).2=nb.2++q
 | [],nb=>⟨[],by simp⟩
 | s::l,nb=>by
  obtain⟨q,e⟩:=xD (l:=l) (nb:=fbS h w g LC cl t r z nb s);rw[Na,e];unfold fbS
  split
  . exact⟨q,rfl⟩
  . exact⟨_,NB ..⟩
theorem xE:∀{zs:List Int} {nb:List Int × List Tho},∃ q,fbL h w g LC cl t r zs nb=nb.2++q
 | [],nb=>⟨[],by simp[fbL]⟩
 | z::zs,nb=>by
  obtain⟨q,e⟩:=xD (h:=h) (w:=w) (g:=g) (LC:=LC) (cl:=cl) (t:=t) (r:=r) (z:=z) (l:=sgL (nb.1.getD z.toNat 0)) (nb:=nb);unfold fbL
  split
  . exact⟨q,e⟩
  . obtain⟨q2,e2⟩:=xE (zs:=zs) (nb:=fbC h w g LC cl t r nb z);exact⟨q++q2,by rw[e2];unfold fbC;rw[e,NB]⟩
theorem xG:∀{zs:List Int} {nb:List Int × List Tho},0∉nb.1->fbL h w g LC cl t r zs nb=[]->∀ z∈zs,∀ s∈sgL (nb.1.getD z.toNat 0),faF h w g LC cl nb.1 t r z s=none
 | [],nb,_,_,z,hz=>nomatch hz
 | z::zs,nb,n0,e,x,hx=>by
  have e2:(fbC h w g LC cl t r nb z).2=[]:=by
   unfold fbL at e
   split at e
   . exact e
   . obtain⟨q,e3⟩:=xE (h:=h) (w:=w) (g:=g) (LC:=LC) (cl:=cl) (t:=t) (r:=r) (zs:=zs) (nb:=fbC h w g LC cl t r nb z);rw[e3] at e;exact(List.append_eq_nil_iff.mp e).1
  obtain⟨a,b⟩:=uF e2;have b':fbC h w g LC cl t r nb z=nb:=b;rcases L6.mp hx with rfl | hx
  . exact a
  . unfold fbL at e;rw[b',L4 n0] at e;exact xG n0 e x hx
theorem xH:∀{rs:List Int},ffR h w g LC cl LA t rs=[]->∀ r∈rs,fbF h w g LC cl LA t r=[]
 | [],_,r,hr=>nomatch hr
 | r::rs,e,x,hx=>by
  unfold ffR at e
  split at e
  . rename_i q
    rcases L6.mp hx with rfl | hx
    . exact NL.mp q
    . exact xH e x hx
  . rename_i q
    rw[e] at q;exact absurd rfl q
theorem B1:∀{ts:List TK},ffT h w g LC cl LA ts=[]->∀ t∈ts,ffR h w g LC cl LA t (rnF LC t)=[]
 | [],_,t,ht=>nomatch ht
 | t::ts,e,x,hx=>by
  unfold ffT at e
  split at e
  . rename_i q
    rcases L6.mp hx with rfl | hx
    . exact NL.mp q
    . exact B1 e x hx
  . rename_i q
    rw[e] at q;exact absurd rfl q
theorem HA(R:bn c h w g LC)(X:MkP g (h*w).toNat LA)(nz:0∉LA)(e:ffF h w g LC cl LA ks=[])(ht:t∈ks)(a:alwA h w g LC cl LA t r z s ms=true):stB (LA.getD z.toNat 0) s=false:=by
 cases st:stB (LA.getD z.toNat 0) s with
 | false=>rfl
 | true=>
  unfold alwA at a;rw[LT] at a;obtain⟨f,q⟩:=a;obtain⟨ms',hm,hs⟩:=compA R X nz f q;obtain⟨z0,z1,s0,s1,LL⟩:=bj f;have hl:z.toNat<LA.length:=by rw[X.len];omega
  have b:=X.mm _ (bU hl);have hT:t∈allT.filter fun t=>decide (t∈ks):=LS.mpr ⟨by cases t <;> decide,LU ht⟩;have h1:=B1 e t hT
  have hr:r∈rnF LC t/\z∈celF h w LC t r:=by
   unfold rnF celF;by_cases hc:t=.clue
   . rw[Md hc,Md hc];unfold hitB at LL
     split at LL
     . cases LL
     . first | rw[Md hc] at LL | skip
       exact⟨by rw[LX LL];simp,mem_rngL.mpr ⟨z0,z1⟩⟩
   . obtain⟨r0,y,ey,hgo,hz⟩:=dL hc LL;rw[L4 hc,L4 hc,ey];refine⟨L1.mpr ⟨r.toNat,LS.mpr ⟨LZ.mpr (LP.mp ey).1,?_⟩,by omega⟩,srt_mem.mpr hz⟩;rw[ey];exact hgo
  have h2:=xH h1 r hr.1;have h3:=xG (nb:=(LA,[])) nz h2 z hr.2 s ((kb b.1 s).mpr st);unfold faF at h3;have:=Od.mp h3 ms' hm;exact absurd hs this
end
def fT(K:Frag):Sp:=fun vs H Q _=>∃(num many:Int),vs=[.int num,.int many]/\0<=many/\many<=16/\
 ∀(l:Addr) (H':Hp) (cs:List Nat),Same H H'->H l=none->H' l=some (.lst (nsV cs))->cs.Nodup->(∀ c∈cs,(c:Int)<many)->(cs.length:Int)=many->Q (.ref l) H'
def jG(K:Frag):TS:=
 (tSeq (tAsg (kE (tCons (tVar 1) tNil)) (gName 2))
  (tSeq (tAsg (tLst tNil) (gName 3))
  (tSeq (tFor (dP (tCons (tVar 1) tNil)) (gName 4)
  (tDrop (tBM K "list" bD (tVar 3) (tCons (tBM K "list" vt (tVar 2) (tCons (tOp cMod (tOp cDiv (tVar 0) (tOp cAdd (tVar 4) (tC (.int 1)))) (tCB kLen (tCons (tVar 2) tNil))) tNil)) tNil))))
  (tRet (tVar 3)))))
variable{K:Frag}{vs:List V}{H:Hp}{Q:VK}{E:XK}
theorem wf(h:fT K vs H Q E):jG K (eD9 Q) (start ["_law_number","_law_many","_law_left","_law_found","_law_k"] vs) H:=by
 obtain⟨num,many,rfl,c0,m1,q⟩:=h;show jG K _ [some (.int num),some (.int many),none,none,none] H;unfold jG;symm;refine⟨many,rfl,by omega,by omega,fun L hL=>?_⟩;obtain⟨H1,z9,s1,eL⟩:=aU (.lst ((rngL 0 many).map V.int)) hL;rw[z9];symm;refine⟨aQ (by decide),fun R hR=>?_⟩;have nRL:R≠L:=fun e=>by rw[e,eL] at hR;cases hR
 refine⟨many,rfl,by omega,by omega,?_⟩
 refine dN (fun i σ H'=>∃(kv:Option V) (fs ls:List Int),σ=[some (.int num),some (.int many),some (.ref L),some (.ref R),kv]/\Same H H'/\H' L=some (.lst (ls.map V.int))/\H' R=some (.lst (fs.map V.int))/\(fs++ls).Perm (rngL 0 many)/\fs.length=i)
  ⟨none,[],rngL 0 many,rfl,s1.laid hR,by rw[ak nRL.symm];exact eL,by rw[ag];rfl,List.Perm.refl _,rfl⟩ ?_ ?_
 . rintro i σ H2 hi ⟨kv,fs,ls,rfl,s2,e1,e2,hp,hl⟩;have LJ:=hp.length_eq;rw[Mt,j4] at LJ;symm;refine⟨bd e2,bd e1,⟨by omega,by omega⟩,?_⟩;rw[bc e1,LM];have hpos:0 < (ls.length:Int):=by omega
   generalize num / (0+(i:Int)+1)=y at*;have j0:=MC y (PQ hpos);have j1:=Mu y hpos;refine⟨hpos,?_⟩;generalize y % (ls.length:Int)=j at*;have hj:j.toNat<ls.length:=by omega
   refine F0 e1 j0 (by rw[LM];omega) (y:=V.int ls[j.toNat]) (by rw[LW,LN hj];rfl) ?_;have e2':(upd H2 L (.lst ((ls.map V.int).eraseIdx j.toNat))) R=some (.lst (fs.map V.int)):=by rw[ak nRL];exact e2
   symm;rw[dW e2'];refine⟨by rw[LM];exact aE (by omega),_,fs++[ls[j.toNat]],ls.eraseIdx j.toNat,rfl,(s2.own hL).own (s1.free hR),?_,?_,?_,by simp[hl]⟩
   . rw[ak nRL.symm,ag,yo]
   . rw[ag];simp
   . have p1:=vA ls j.toNat hj;have p2:=List.Perm.append_left fs p1;refine List.Perm.trans ?_ hp;rw[NB];exact p2
 . rintro σ H2 ⟨kv,fs,ls,rfl,s2,e1,e2,hp,hl⟩;symm;have hnd:(fs++ls).Nodup:=hp.nodup_iff.mpr (yp many);have hm:∀ x∈fs,0<=x/\x<many:=fun x hx=>xq (hp.mem_iff.mp (Ml.mpr (.inl hx)))
   have ef:(fs.map Int.toNat).map (fun(n:Nat)=>(n:Int))=fs:=by
    rw[Mv]
    conv=>rhs;rw[← List.map_id fs]
    exact OP fun x hx=>by have:=hm x hx;show((x.toNat:Nat):Int)=x;omega
   refine q R H2 (fs.map Int.toNat) s2 (s1.free hR) (by unfold nsV;rw[ef];exact e2) ?_ ?_ ?_
   . have h1:=(NU.mp hnd).1;rw[← ef] at h1;exact rb _ h1
   . intro c hc;obtain⟨x,hx,rfl⟩:=L1.mp hc;have:=hm x hx;omega
   . rw[LM,hl];omega
theorem Av{p:Addr}{s:Str}{ws:List Str}(h:H p=some (.tup (ws.map V.str))):cIn K false (.str s) (.ref p) H Q=Q (.bl (decide (s∈ws))) H:=by
 unfold cIn;dsimp only;rw[h];dsimp only[unD,unS,bnd];rw[h9,gc];simp[flatV]
theorem Im(k:RK):decide (tx (nmC k)∈[tx [106,111,105,110,101,100],tx [114,105,110,103],tx [110,111,115,113,117,97,114,101]])=allK k:=by cases k <;> decide+kernel
theorem Io(k:RK):decide (tx (nmC k)=tx [115,117,109])=decide (k=.Sum):=by cases k <;> decide+kernel
theorem Er(k:RK):decide (tx (nmC k)=tx [115,101,101,110])=decide (k=.Seen):=by cases k <;> decide+kernel
theorem CK(k:RK):decide (tx (nmC k)=tx [99,111,117,110,116])=decide (k=.Count):=by cases k <;> decide+kernel
theorem B2(k:RK):(nmC k).length<=20:=by cases k <;> decide
theorem toSA{i:Int}(h0:0<=i)(h1:i<100):Str.ofString (toString i)=tx (numC i.toNat)/\i.natAbs.log2<1920:=by
 have e:i=((i.toNat:Nat):Int):=by omega
 have a:=BP (n:=i.toNat) (by omega);have b:=BR (n:=i.toNat) (by omega);rw[← e] at a b;exact⟨a,b⟩
def d4(K:Frag):TS:=
 (tRet (tBM K "str" oB (tC (.str (tx [32]))) (tCons (tOp cAdd (tLst (tCons (tVar 3) tNil)) (tComp [none,none] (iList K (tOp cAdd (tVar 5) (tVar 4))) (gName 1) tTrue (tCB kStr (tCons (tVar 1) tNil)))) tNil)))
def mq(K:Frag):TS:=
 (tSeq (tIfS (tTest (tOp (cEq K) (tVar 3) (tC (.str (tx [115,117,109]))))) (tAsg (tLst (tCons (tOp cAdd (tCB kLen (tCons (tVar 4) tNil)) (tOp cMod (tOp cDiv (tVar 0) (tC (.int 70))) (tOp cAdd (tCB kLen (tCons (tVar 4) tNil)) (tC (.int 1))))) tNil)) (gName 5)) tNext)
  (tSeq (tIfS (tTest (tOp (cEq K) (tVar 3) (tC (.str (tx [115,101,101,110]))))) (tAsg (tLst (tCons (tOp cAdd (tC (.int 1)) (tOp cMod (tOp cDiv (tVar 0) (tC (.int 70))) (tC (.int 2)))) tNil)) (gName 5)) tNext)
  (tSeq (tIfS (tTest (tOp (cEq K) (tVar 3) (tC (.str (tx [99,111,117,110,116]))))) (tAsg (tLst (tCons (tOp cMod (tOp cDiv (tVar 0) (tC (.int 70))) (tOp cAdd (tCB kLen (tCons (tVar 4) tNil)) (tC (.int 1)))) (tCons (tOp cAdd (tC (.int 1)) (tOp cMod (tOp cDiv (tVar 0) (tC (.int 30))) (tVar 2))) tNil))) (gName 5)) tNext)
  (d4 K))))
theorem Bo{k:RK}{O Nu:Addr}{nu cs:List Nat}{v0 v1 v2:Option V}(eO:H O=some (.lst (nsV cs)))(eN:H Nu=some (.lst (nsV nu)))(hc:∀ c∈cs,c<100)(hn:∀ c∈nu,c<100)(cl:cs.length<=16)(nl:nu.length<=2)(q:∀ H',Same H H'->Q (.str (tx (catL 32 (nmC k::(nu++cs).map numC)))) H'):
  d4 K (eD9 Q) [v0,v1,v2,some (.str (tx (nmC k))),some (.ref O),some (.ref Nu)] H:=by
 unfold d4;symm;refine⟨FA,lnR rfl,fun Wd hW=>?_⟩;obtain⟨H1,z9,s1,eW⟩:∃ z,upd H Wd (.lst [V.str (tx (nmC k))])=z/\Same H z/\z Wd=some (.lst ((([nmC k]:List (List Nat)).map tx).map V.str)):=aU _ hW;rw[z9];refine lR (s1 _ _ eN) (s1 _ _ eO) (by unfold nsV;simp;omega) fun Y hY=>?_;have s2:Same H1 (upd H1 Y (.lst (nsV nu++nsV cs))):=(LQ H1).laid hY;have eY:(upd H1 Y (.lst (nsV nu++nsV cs))) Y=some (.lst (((nu++cs).map fun(n:Nat)=>(n:Int)).map V.int)):=by rw[ag];unfold nsV;simp
 generalize upd H1 Y (.lst (nsV nu++nsV cs))=H2 at*;refine⟨Y,rfl,⟨_,Mc eY⟩,?_⟩;refine DT eY (by simp;omega) (fun c h=>(Ml.mp h).elim (hn c) (hc c)) fun l H3 hl s3 el=>?_;symm;refine lR ((s2.trans s3) _ _ eW) el (by simp;omega) fun Z hZ=>?_;have s4:Same H3 (upd H3 Z (.lst ((([nmC k]:List (List Nat)).map tx).map V.str++(((nu++cs).map numC).map tx).map V.str))):=(LQ H3).laid hZ;have eZ:(upd H3 Z (.lst ((([nmC k]:List (List Nat)).map tx).map V.str++(((nu++cs).map numC).map tx).map V.str))) Z=some (.lst (((nmC k::(nu++cs).map numC).map tx).map V.str)):=by rw[ag];rfl
 generalize upd H3 Z (.lst ((([nmC k]:List (List Nat)).map tx).map V.str++(((nu++cs).map numC).map tx).map V.str))=H4 at*;have kl:=B2 k
 refine F2 eZ (zT (by simp;omega) (fun t ht=>by
  obtain⟨z,hz,rfl⟩:=L1.mp ht;rw[f8];rcases L6.mp hz with rfl | hz
  . omega
  . obtain⟨x,_,rfl⟩:=L1.mp hz;exact L8 sV (by decide)) (by rw[f8];decide)) ?_
 rw[E7,xh];exact q _ (((s1.trans s2).trans s3).trans s4)
variable{h w g:Int}
theorem Bp{k:RK}{O Nu:Addr}{cs:List Nat}{y:Int}{v1:Option V}(y0:0<=y)(F:FlOk h w g)(eO:H O=some (.lst (nsV cs)))(eN:H Nu=some (.lst (nsV [])))(hne:cs≠[])(lt:∀ c∈cs,(c:Int)<h*w)(nd:cs.Nodup)(cl:cs.length<=16)(ha:allK k=false)(k0:k≠.Rule)(q:∀(r:RR) (H':Hp),Same H H'->r.Ok h w g->Q (.str r.txt) H'):
  mq K (eD9 Q) [some (.int y),v1,some (.int g),some (.str (tx (nmC k))),some (.ref O),some (.ref Nu)] H:=by
 have g0:=F.g0;have g1:=F.g1;have m16:=F.m;have lt100:∀ c∈cs,c<100:=fun c hc=>by have:=lt c hc;omega
 have ol:(nsV cs).length=cs.length:=by unfold nsV;simp
 have fin:∀(n m:Nat) (nu:List Nat) (Nu2:Addr) (H1:Hp),Same H H1->H1 Nu2=some (.lst (nsV nu))->(∀ c∈nu,c<100)->nu.length<=2->n<=99->(numK k=false->n=0)->(sgnK k=true->1<=(m:Int)/\(m:Int)<=g)->(sgnK k=false->m=0)->nu.map numC=(if numK k then [numC n] else [])++(if sgnK k then [numC m] else [])->d4 K (eD9 Q) [some (.int y),v1,some (.int g),some (.str (tx (nmC k))),some (.ref O),some (.ref Nu2)] H1:=fun n m nu Nu2 H1 s1 e1 hnu nl n9 nz m0 mz enu=>by
  refine Bo (s1 _ _ eO) e1 lt100 hnu cl nl fun H' s'=>?_;have Ok:=CH (k:=k) (n:=n) (m:=m) F hne lt nd cl ha k0 n9 nz m0 mz
  have e:tx (catL 32 (nmC k::(nu++cs).map numC))=RR.txt ⟨k,n,m,cs,cs.map fun(n:Nat)=>(n:Int)⟩:=by
   show _=tx (catL 32 (rowW k n m cs));unfold rowW;rw[NQ,enu]
  rw[e];exact q _ H' (s1.trans s') Ok
 unfold mq;rw[aD,ax];symm;rw[Io];by_cases e1:k=.Sum
 . rw[LU e1];symm;rw[bc eO,ol];symm;refine⟨⟨by decide,by decide⟩,?_⟩;rw[bc eO,ol];symm;refine⟨by omega,lnR rfl,fun N hN=>?_⟩;have b0:=MC (y/70) (show(cs.length:Int)+1≠0 by omega);have b1:=Mu (y/70) (show 0 < (cs.length:Int)+1 by omega);generalize y/70 % ((cs.length:Int)+1)=x at*;have s1:Same H (upd H N (.lst [V.int ((cs.length:Int)+x)])):=(LQ H).laid hN
   have eN2:(upd H N (.lst [V.int ((cs.length:Int)+x)])) N=some (.lst (nsV [((cs.length:Int)+x).toNat])):=by
    rw[ag];show _=some (HO.lst [V.int ((((cs.length:Int)+x).toNat:Nat):Int)]);rw[show((((cs.length:Int)+x).toNat:Nat):Int)=(cs.length:Int)+x by omega]
   generalize upd H N (.lst [V.int ((cs.length:Int)+x)])=H1 at*;rw[ax];symm;rw[Er,e1,LR (by decide)];symm;rw[ax];symm;have e9:=fin (((cs.length:Int)+x).toNat) 0 _ N H1 s1 eN2 (fun c hc=>by rw[L0.mp hc];omega) (by simp) (by omega) (fun e=>by rw[e1] at e;cases e) (fun e=>by rw[e1] at e;cases e) (fun _=>rfl) (by rw[e1];rfl);rw[e1] at e9;rw[CK,LR (show ¬ RK.Sum=RK.Count by decide)];symm;exact e9
 . rw[LR e1];symm;rw[ax];symm;rw[Er];by_cases e2:k=.Seen
   . rw[LU e2];symm;refine⟨⟨by decide,by decide⟩,by decide,lnR rfl,fun N hN=>?_⟩;have b0:=MC (y/70) (show(2:Int)≠0 by decide);have b1:=Mu (y/70) (show(0:Int)<2 by decide);generalize y/70%2=x at*;have s1:Same H (upd H N (.lst [V.int (1+x)])):=(LQ H).laid hN
     have eN2:(upd H N (.lst [V.int (1+x)])) N=some (.lst (nsV [(1+x).toNat])):=by
      rw[ag];show _=some (HO.lst [V.int (((1+x).toNat:Nat):Int)]);rw[show(((1+x).toNat:Nat):Int)=1+x by omega]
     generalize upd H N (.lst [V.int (1+x)])=H1 at*;rw[ax];symm;have e9:=fin ((1+x).toNat) 0 _ N H1 s1 eN2 (fun c hc=>by rw[L0.mp hc];omega) (by simp) (by omega) (fun e=>by rw[e2] at e;cases e) (fun e=>by rw[e2] at e;cases e) (fun _=>rfl) (by rw[e2];rfl);rw[e2] at e9;rw[CK,e2,LR (show ¬ RK.Seen=RK.Count by decide)];symm;exact e9
   . rw[LR e2];symm;rw[ax];symm;rw[CK];by_cases e3:k=.Count
     . rw[LU e3];symm;refine⟨⟨by decide,by decide⟩,?_⟩;rw[bc eO,ol];symm;refine⟨by omega,⟨by decide,by decide⟩,by omega,lnR rfl,fun N hN=>?_⟩;have b0:=MC (y/70) (show(cs.length:Int)+1≠0 by omega);have b1:=Mu (y/70) (show 0 < (cs.length:Int)+1 by omega);have c0:=MC (y/30) (show g≠0 by omega);have c1:=Mu (y/30) (show 0<g by omega);generalize y/70 % ((cs.length:Int)+1)=x at*;generalize y/30%g=z at*;have s1:Same H (upd H N (.lst [V.int x,V.int (1+z)])):=(LQ H).laid hN
       have eN2:(upd H N (.lst [V.int x,V.int (1+z)])) N=some (.lst (nsV [x.toNat,(1+z).toNat])):=by
        rw[ag];show _=some (HO.lst [V.int ((x.toNat:Nat):Int),V.int (((1+z).toNat:Nat):Int)]);rw[show((x.toNat:Nat):Int)=x by omega,show(((1+z).toNat:Nat):Int)=1+z by omega]
       generalize upd H N (.lst [V.int x,V.int (1+z)])=H1 at*
       exact fin x.toNat (1+z).toNat _ N H1 s1 eN2 (fun c hc=>by
        simp only[L6,Nv,Ph] at hc;rcases hc with rfl | rfl <;> omega) (by simp) (by omega) (fun e=>by rw[e3] at e;cases e) (fun _=>by omega) (fun e=>by rw[e3] at e;cases e) (by rw[e3];rfl)
     . rw[LR e3];symm;have hnk:numK k=false:=by revert e1 e2 e3;cases k <;> intro e1 e2 e3 <;> first | rfl | exact absurd rfl e1 | exact absurd rfl e2 | exact absurd rfl e3
       have hsk:sgnK k=false:=by revert ha e3;cases k <;> intro ha e3 <;> first | rfl | exact absurd rfl e3 | (cases ha;done)
       exact fin 0 0 [] Nu H (LQ _) eN (fun c hc=>by cases hc) (by simp) (by decide) (fun _=>rfl) (fun e=>by rw[hsk] at e;cases e) (fun _=>rfl) (by rw[hnk,hsk];rfl)
theorem uG(cs:List Nat)(k:Nat):(nsV cs).take k=nsV (cs.take k):=by unfold nsV;rw[N7,N7]
theorem B3{l p:Addr}{as:List Addr}{LH:List (List Int)}{ys:List Int}(x:IsLL H l as LH)(nl:l∉as)(hp:H p=none):IsLL (upd (upd H p (.lst (ys.map V.int))) l (.lst (as.map V.ref++[V.ref p]))) l (as++[p]) (LH++[ys])/\l∉as++[p]:=by
 have lp:l≠p:=fun e=>by rw[← e,x.top] at hp;cases hp
 have ap:∀ a∈as,a≠p:=fun a ha e=>by
  obtain⟨j,hj⟩:=OF ha;have hl:j<LH.length:=by rw[← x.len];exact(LP.mp hj).1
  have:=x.at_ j a _ hj (LN hl);rw[e,hp] at this;cases this
 refine⟨⟨by rw[ag,NQ];rfl,by simp[x.len],fun j a xs h1 h2=>?_⟩,fun h=>(Ml.mp h).elim nl fun h=>lp (L0.mp h)⟩;rcases Nat.lt_or_ge j as.length with hj | hj
 . rw[Mr hj] at h1;rw[Mr (by rw[← x.len];exact hj)] at h2;have ma:=LV h1;rw[ak (fun e:a=l=>nl (e ▸ ma)),ak (ap a ma)];exact x.at_ j a xs h1 h2
 . rw[MD hj] at h1;rw[MD (by rw[← x.len];exact hj)] at h2;rw[x.len] at h1
   cases e:j-LH.length with
   | zero=>
    rw[e] at h1 h2;cases h1;cases h2;rw[ak lp.symm,ag]
   | succ n=>rw[e] at h1;simp at h1
def nilT(t:TK):Bool:=decide (t=.clue)||(decide (t=.count)||(decide (t=.step)||(decide (t=.sum)||decide (t=.ways))))
def rpT(t:TK):Bool:=decide (t=.reach)||decide (t=.pair)
def mr1(t:TK)(n:Nat)(a:Nat):List (List Int):=[(a:Int)]::if rpT t then(List.range n).map fun(b:Nat)=>[(a:Int),(b:Int)] else []
def lmF(t:TK)(n:Nat)(g:Int):List (List Int):=if nilT t then [[]] else if t=.place then(rngL 1 (g+1)).map (fun o=>[o]) else []::(List.range n).flatMap (mr1 t n)
theorem Ip(t:TK):decide (tx (tkC t)∈[tx [99,108,117,101],tx [99,111,117,110,116],tx [115,116,101,112],tx [115,117,109],tx [119,97,121,115]])=nilT t:=by cases t <;> decide+kernel
theorem Iz(t:TK):decide (tx (tkC t)∈[tx [114,101,97,99,104],tx [112,97,105,114]])=rpT t:=by cases t <;> decide+kernel
theorem IA(t:TK):decide (tx (tkC t)=tx [112,108,97,99,101])=decide (t=.place):=by cases t <;> decide+kernel
def jH(K:Frag):Sp:=fun vs H Q _=>∃(t:TK) (n:Nat) (g:Int),vs=[.str (tx (tkC t)),.int n,.int g]/\n<=9/\1<=g/\g<=6/\LLp Q H (lmF t n g)
def gq(K:Frag):TS:=
 (tSeq (tAsg (tLst (tCons (tLst tNil) tNil)) (gName 3))
  (tSeq (tFor (dP (tCons (tVar 1) tNil)) (gName 4)
  (tSeq (tDrop (tBM K "list" bD (tVar 3) (tCons (tLst (tCons (tVar 4) tNil)) tNil)))
  (tIfS (tTest (tOp (cIn K false) (tVar 0) (tTup (tCons (tC (.str (tx [114,101,97,99,104]))) (tCons (tC (.str (tx [112,97,105,114]))) tNil))))) (tFor (dP (tCons (tVar 1) tNil)) (gName 5)
  (tDrop (tBM K "list" bD (tVar 3) (tCons (tLst (tCons (tVar 4) (tCons (tVar 5) tNil))) tNil)))) tNext)))
  (tRet (tVar 3))))
def jI(K:Frag):TS:=
 (tSeq (tIfS (tTest (tOp (cIn K false) (tVar 0) (tTup (tCons (tC (.str (tx [99,108,117,101]))) (tCons (tC (.str (tx [99,111,117,110,116]))) (tCons (tC (.str (tx [115,116,101,112]))) (tCons (tC (.str (tx [115,117,109]))) (tCons (tC (.str (tx [119,97,121,115]))) tNil)))))))) (tRet (tLst (tCons (tLst tNil) tNil))) tNext)
  (tSeq (tIfS (tTest (tOp (cEq K) (tVar 0) (tC (.str (tx [112,108,97,99,101]))))) (tRet (tComp [none,none] (pF (tCons (tC (.int 1)) (tCons (tOp cAdd (tVar 2) (tC (.int 1))) tNil))) (gName 1) tTrue (tLst (tCons (tVar 1) tNil)))) tNext)
  (gq K)))
theorem Gs(t:TK)(n a:Nat):(mr1 t n a).length<=1+n:=by
 unfold mr1
 split
 . rw[Mx,LM,MS];omega
 . simp
theorem B4(t:TK)(n:Nat):∀ i,((List.range i).flatMap (mr1 t n)).length<=i*(1+n)
 | 0=>by simp
 | i+1=>by
  rw[MM,Nq,Mt];have:=B4 t n i;have h2:=Gs t n i;simp only[Pa,List.flatMap_nil,Pu];rw[Pp];omega
variable{t:TK}{n:Nat}
theorem yZ(n9:n<=9)(q:LLp Q H ([]::(List.range n).flatMap (mr1 t n))):
  gq K (eD9 Q) [some (.str (tx (tkC t))),some (.int n),some (.int g),none,none,none] H:=by
 unfold gq;symm;refine⟨aQ (by decide),fun E1 hE=>?_⟩;obtain⟨H1,z9,s1,e1⟩:∃ z,upd H E1 (.lst [])=z/\Same H z/\z E1=some (.lst (([]:List Int).map V.int)):=aU _ hE;rw[z9];refine⟨lnR rfl,fun Z hZ=>?_⟩;have s2:Same H1 (upd H1 Z (.lst [V.ref E1])):=(LQ H1).laid hZ
 have X0:IsLL (upd H1 Z (.lst [V.ref E1])) Z [E1] [[]]:=⟨ag,rfl,fun j a xs h1 h2=>by
  cases j with
  | zero=>cases h1;cases h2;exact s2 _ _ e1
  | succ j=>simp at h1⟩
 have nZ:Z∉[E1]:=fun h=>by rw[L0.mp h,e1] at hZ;cases hZ
 have fZ:H Z=none:=s1.free hZ;generalize upd H1 Z (.lst [V.ref E1])=H2 at*;refine⟨(n:Int),rfl,by omega,by omega,?_⟩;rw[On];have s12:=s1.trans s2
 refine dN (fun i σ H'=>∃(as:List Addr) (v4 v5:Option V),σ=[some (.str (tx (tkC t))),some (.int n),some (.int g),some (.ref Z),v4,v5]/\Same H H'/\IsLL H' Z as ([]::(List.range i).flatMap (mr1 t n))/\Z∉as/\∀ a∈as,H a=none)
  ⟨[E1],none,none,rfl,s12,X0,nZ,fun a ha=>by rw[L0.mp ha];exact hE⟩ ?_ ?_
 . rintro i σ H3 hi ⟨as,v4,v5,rfl,s3,X,nl,fr⟩;have hl:=X.len;have hm:=B4 t n i;have hb:i*(1+n)<=9*10:=OZ (by omega) (by omega);rw[Mx] at hl;symm;refine⟨bd X.top,lnR rfl,fun p hp=>?_⟩;have tp:(upd H3 p (.lst [V.int (0+(i:Int))])) Z=some (.lst (as.map V.ref)):=by rw[ak (fun e=>by rw[e] at X;have:=X.top;rw[hp] at this;cases this)];exact X.top
   rw[dW tp];refine⟨by rw[LM];exact aE (by omega),?_⟩;obtain⟨Y,nl2⟩:=B3 (ys:=[(i:Int)]) X nl hp;have ei:([V.int (0+(i:Int))]:List V)=([(i:Int)]:List Int).map V.int:=by rw[Nl];rfl
   rw[ei];have s4:Same H (upd (upd H3 p (.lst (([(i:Int)]:List Int).map V.int))) Z (.lst (as.map V.ref++[V.ref p]))):=(s3.laid hp).own fZ;have fp:H p=none:=s3.free hp;generalize upd (upd H3 p (.lst (([(i:Int)]:List Int).map V.int))) Z (.lst (as.map V.ref++[V.ref p]))=H4 at*;rw[ax];symm;refine⟨lnR rfl,fun T hT=>?_⟩;have s5:Same H4 (upd H4 T (.tup ([tx [114,101,97,99,104],tx [112,97,105,114]].map V.str))):=(LQ H4).laid hT;have eT:(upd H4 T (.tup ([tx [114,101,97,99,104],tx [112,97,105,114]].map V.str))) T=some (.tup ([tx [114,101,97,99,104],tx [112,97,105,114]].map V.str)):=ag;show cIn K false (V.str (tx (tkC t))) (V.ref T) (upd H4 T (.tup ([tx [114,101,97,99,104],tx [112,97,105,114]].map V.str))) _;generalize upd H4 T (.tup ([tx [114,101,97,99,104],tx [112,97,105,114]].map V.str))=H5 at*;rw[Av eT,Iz];have Y5:=Y.same s5;have fr2:∀ a∈as++[p],H a=none:=fun a ha=>(Ml.mp ha).elim (fr a) fun h=>by rw[L0.mp h];exact fp
   cases hr:rpT t with
   | false=>
    refine⟨false,rfl,iteF ⟨as++[p],_,_,rfl,s4.trans s5,?_,nl2,fr2⟩⟩;rw[MM,Nq];have:(List.flatMap (mr1 t n) [i])=[[(i:Int)]]:=by simp[mr1,hr]
    rw[this];exact Y5
   | true=>
    refine⟨true,rfl,iteT ?_⟩;refine⟨(n:Int),rfl,by omega,by omega,?_⟩;rw[On]
    refine dN (fun j σ H'=>∃(as:List Addr) (v5:Option V),σ=[some (.str (tx (tkC t))),some (.int n),some (.int g),some (.ref Z),some (.int (0+(i:Int))),v5]/\Same H H'/\IsLL H' Z as (([]::(List.range i).flatMap (mr1 t n))++[[(i:Int)]]++(List.range j).map fun(b:Nat)=>[(i:Int),(b:Int)])/\Z∉as/\∀ a∈as,H a=none)
     ⟨as++[p],_,rfl,s4.trans s5,by simpa using Y5,nl2,fr2⟩ ?_ ?_
    . rintro j σ H6 hj ⟨as6,v5',rfl,s6,X6,nl6,fr6⟩;have hl6:=X6.len;simp only[Mt,Mx,List.length_nil,LM,MS] at hl6;symm;refine⟨bd X6.top,lnR rfl,fun p6 hp6=>?_⟩;have tp6:(upd H6 p6 (.lst [V.int (0+(i:Int)),V.int (0+(j:Int))])) Z=some (.lst (as6.map V.ref)):=by rw[ak (fun e=>by rw[e] at X6;have:=X6.top;rw[hp6] at this;cases this)];exact X6.top
      rw[dW tp6];refine⟨by rw[LM];exact aE (by omega),?_⟩;obtain⟨Y6,nl7⟩:=B3 (ys:=[(i:Int),(j:Int)]) X6 nl6 hp6;have ej:([V.int (0+(i:Int)),V.int (0+(j:Int))]:List V)=([(i:Int),(j:Int)]:List Int).map V.int:=by rw[Nl,Nl];rfl
      rw[ej];refine⟨as6++[p6],_,rfl,(s6.laid hp6).own fZ,?_,nl7,fun a ha=>(Ml.mp ha).elim (fr6 a) fun h=>by rw[L0.mp h];exact s6.free hp6⟩;rw[MM,NQ,← NB];exact Y6
    . rintro σ H6 ⟨as6,v5',rfl,s6,X6,nl6,fr6⟩;refine⟨as6,_,_,rfl,s6,?_,nl6,fr6⟩;rw[MM,Nq];have:(List.flatMap (mr1 t n) [i])=[(i:Int)]::(List.range n).map fun(b:Nat)=>[(i:Int),(b:Int)]:=by simp[mr1,hr]
      rw[this]
      simpa using X6
 . rintro σ H3 ⟨as,v4,v5,rfl,s3,X,nl,fr⟩;symm;exact q Z as H3 s3 fZ fr X
theorem wg(h:jH K vs H Q E):jI K (eD9 Q) (start ["_law_word","_law_many","_law_signs","_law_found","_law_one_here","_law_other"] vs) H:=by
 obtain⟨t,n,g,rfl,n9,g0,g6,q⟩:=h;show jI K _ [some (.str (tx (tkC t))),some (.int n),some (.int g),none,none,none] H;unfold jI;rw[aD,ax];symm;refine⟨lnR rfl,fun T hT=>?_⟩;have s1:Same H (upd H T (.tup ([tx [99,108,117,101],tx [99,111,117,110,116],tx [115,116,101,112],tx [115,117,109],tx [119,97,121,115]].map V.str))):=(LQ H).laid hT;have eT:(upd H T (.tup ([tx [99,108,117,101],tx [99,111,117,110,116],tx [115,116,101,112],tx [115,117,109],tx [119,97,121,115]].map V.str))) T=some (.tup ([tx [99,108,117,101],tx [99,111,117,110,116],tx [115,116,101,112],tx [115,117,109],tx [119,97,121,115]].map V.str)):=ag;show cIn K false (V.str (tx (tkC t))) (V.ref T) (upd H T (.tup ([tx [99,108,117,101],tx [99,111,117,110,116],tx [115,116,101,112],tx [115,117,109],tx [119,97,121,115]].map V.str))) _;generalize upd H T (.tup ([tx [99,108,117,101],tx [99,111,117,110,116],tx [115,116,101,112],tx [115,117,109],tx [119,97,121,115]].map V.str))=H1 at*;rw[Av eT,Ip];have q1:=q.of s1;unfold lmF at q1
 cases hn:nilT t with
 | true=>
  rw[hn,Md rfl] at q1;refine⟨true,rfl,iteT ?_⟩;symm;refine⟨aQ (by decide),fun E1 hE=>?_⟩;obtain⟨H2,z9,s2,e2⟩:∃ z,upd H1 E1 (.lst [])=z/\Same H1 z/\z E1=some (.lst (([]:List Int).map V.int)):=aU _ hE;rw[z9];refine⟨lnR rfl,fun Z hZ=>?_⟩;have s3:Same H2 (upd H2 Z (.lst [V.ref E1])):=(LQ H2).laid hZ;refine q1 Z [E1] _ (s2.trans s3) (s2.free hZ) (fun a ha=>by rw[L0.mp ha];exact hE) ⟨ag,rfl,fun j a xs h1 h2=>?_⟩
  cases j with
  | zero=>cases h1;cases h2;exact s3 _ _ e2
  | succ j=>simp at h1
 | false=>
  rw[hn,L4 LY] at q1;refine⟨false,rfl,iteF ?_⟩;rw[ax];symm;rw[IA];by_cases hp:t=.place
  . rw[Md hp] at q1;rw[LU hp];symm;refine⟨1,g+1,rfl,⟨by omega,by omega,by omega,by omega⟩,?_⟩;refine nM (σ0:=[none,none]) (fun _=>true) (fun i=>.lst (([1+(i:Int)]:List Int).map V.int)) (by omega) ?_ ?_ ?_
    . intro i H2 R hi s2 k2;exact k2 _ (LQ _)
    . intro i H2 Q2 hi _ s2 k2;show tLst _ [none,some (.int (1+(i:Int)))] H2 Q2;symm;exact sY k2
    . intro l as H2 hl s2 el N
      have e:((List.range (g+1-1).toNat).filter fun(_:Nat)=>true).map (fun(i:Nat)=>HO.lst (([1+(i:Int)]:List Int).map V.int))=((rngL 1 (g+1)).map fun o=>[o]).map fun ys=>.lst (ys.map V.int):=by
       unfold rngL;rw[OO.mpr (fun _ _=>rfl),Mv,Mv];rfl
      rw[e] at N;exact q1 l as H2 s2 hl N.fr (N.ll el)
  . rw[L4 hp] at q1;rw[LR hp];symm;exact yZ n9 q1
def ky:List Int->Int
 | []=>0
 | [a]=>1+100*a
 | a::b::_=>2+b+100*a
theorem rJ(a n:Int):(rngL a n).Pairwise (· < ·):=by
 unfold rngL;rw[MY];exact Nj.imp fun h=>by omega
variable{xs:List Int}
theorem HB(p:xs.Pairwise (· < ·)):∀ o∈xs,xs.getD 0 0<=o:=by
 cases xs with
 | nil=>intro o h;cases h
 | cons x xs=>
  intro o h;show x<=o;rcases L6.mp h with rfl | h
  . exact ND _
  . exact Oi ((M4.mp p).1 o h)
variable{s:Int}{c:RCl RK}{LC:List RR}{LA ms:List Int}
theorem compO{cl:List Int}{r z:Int}(R:bn c h w g LC)(X:MkP g (h*w).toNat LA)(nz:0∉LA)(f:formB h w g LC t r z s=true)(hb:strA h w g LC cl LA t r z s ms=true):
  ∃ ms'∈mtF h w g LC LA t r z s,strA h w g LC cl LA t r z s ms'=true/\ky ms'<=ky ms:=by
 obtain⟨z0,z1,s0,s1,LL⟩:=bj f;have F:=R.F;have g0:=F.g0;have g6:=F.g1;have p64:=mY g0 g6
 have mb:∀ o:Int,0<=o->o<h*w->(0<=LA.getD o.toNat 0/\LA.getD o.toNat 0<64)/\LA.getD o.toNat 0≠0:=fun o o0 o1=>by
  have hl:o.toNat<LA.length:=by rw[X.len];omega
  have:=X.mm _ (bU hl);exact⟨by omega,FG nz hl⟩
 by_cases hc:t=.clue
 . subst hc
   have e:ms=[]:=by
    have:clueB cl z s ms=true:=hb;unfold clueB at this;rw[LT] at this;exact LX this.1
   exact⟨[],by rw[wc (by decide) (by decide) (by decide) (by decide) (by decide) (by decide)];simp,e ▸ hb,by rw[e];exact ND _⟩
 obtain⟨r0,y,ey,hgo,hz⟩:=dL hc LL;have O:=R.ok y (LV ey);have keep:∀ t',t=t'->(ms∈mtF h w g LC LA t' r z s)->True:=fun _ _ _=>trivial;have nil:(t≠.place)->(t≠.square)->(t≠.turn)->(t≠.only)->(t≠.reach)->(t≠.pair)->ms=[]->∃ ms'∈mtF h w g LC LA t r z s,strA h w g LC cl LA t r z s ms'=true/\ky ms'<=ky ms:=fun a1 a2 a3 a4 a5 a6 e=>⟨[],by rw[wc a1 a2 a3 a4 a5 a6];simp,e ▸ hb,by rw[e];exact ND _⟩
 cases t with
 | clue=>exact absurd rfl hc
 | only=>
  have q:onlyB y.cs LA z s ms=true:=by
   have:=hb;unfold strA eh at this;simp only[lineK,M8,ey] at this;exact this
  unfold onlyB at q;simp only[LT,LO] at q;refine⟨ms,?_,hb,ND _⟩;unfold mtF;rw[L4 (by decide),L4 (by decide),L4 (by decide),ey];dsimp only;rw[Md rfl];unfold onlM;rw[cO q.1,L1];exact⟨_,LS.mpr ⟨srt_mem.mpr q.2.1,LU q.2.2⟩,rfl⟩
 | place=>
  have q:jk g y.cs LA z s ms=true:=by
   have:=hb;unfold strA eh at this;simp only[lineK,M8,ey] at this;exact this
  unfold jk at q;simp only[LT,LO,MN,MJ] at q;refine⟨ms,?_,hb,ND _⟩;unfold mtF;rw[Md rfl];unfold plaM;rw[cO q.2.1,L1];exact⟨_,LS.mpr ⟨rng1_mem.mpr q.2.2.2.1,by simpa using q.2.2.1⟩,rfl⟩
 | pair=>
  have q:pairB y.cs LA z s ms=true:=by
   have:=hb;unfold strA eh at this;simp only[lineK,M8,ey] at this;exact this
  unfold pairB ordB at q;simp only[LT,LO] at q;obtain⟨⟨l2,a1,a2,a3⟩,few⟩:=q;refine⟨ms,?_,hb,ND _⟩;unfold mtF;rw[L4 (by decide),L4 (by decide),L4 (by decide),ey];dsimp only;rw[L4 (by decide),L4 (by decide),Md rfl];have inr:∀ o∈y.cs,0<=o/\o<h*w:=fun o ho=>by have:=(N8 O F).2 o ho;omega
  have b1:=inr _ (LS.mp a1).1;have b2:=inr _ (LS.mp a2).1;have m1:=(mb _ b1.1 b1.2).1;have m2:=(mb _ b2.1 b2.2).1;have e2:(sgL (orM LA ms)).length<=2:=Ep few (rE _)
  have small:∀ o:Int,(0<=LA.getD o.toNat 0/\LA.getD o.toNat 0<64)->(∀ x,1<=x->x<=6->stB (LA.getD o.toNat 0) x=true->stB (orM LA ms) x=true)->((sgL (LA.getD o.toNat 0)).length:Int)<=2:=fun o b q=>by
   have bo:0<=orM LA ms:=by
    have:=(LT _ _ ▸ L3.mp (L3.mp Ad (LA.getD (ms.getD 0 0).toNat 0).toNat (LZ.mpr (by omega))) (LA.getD (ms.getD 1 0).toNat 0).toNat (LZ.mpr (by omega)):_/\_).1;rw[show(((LA.getD (ms.getD 0 0).toNat 0).toNat:Nat):Int)=LA.getD (ms.getD 0 0).toNat 0 by omega,show(((LA.getD (ms.getD 1 0).toNat 0).toNat:Nat):Int)=LA.getD (ms.getD 1 0).toNat 0 by omega] at this;exact LX this
   have:=gr (rE (LA.getD o.toNat 0)) fun x hx=>by
    have hx':=(kb b.1 x).mp hx;have bx:=vY (g:=6) (m:=LA.getD o.toNat 0) (by decide) (by decide) b.1 (by simpa using b.2) hx;exact(kb bo x).mpr (q x bx.1 bx.2 hx')
   omega
  unfold paiM;rw[oG l2,Nk];refine⟨ms.getD 0 0,LS.mpr ⟨srt_mem.mpr a1,LU ?_⟩,L1.mpr ⟨ms.getD 1 0,LS.mpr ⟨LS.mpr ⟨srt_mem.mpr a2,LU ?_⟩,LU ?_⟩,rfl⟩⟩
  . exact small _ m1 fun x x0 x6 hx=>by unfold orM;rw[zv m1.1 m1.2 m2.1 m2.2 x0 x6,hx];rfl
  . exact small _ m2 fun x x0 x6 hx=>by unfold orM;rw[zv m1.1 m1.2 m2.1 m2.2 x0 x6,hx,Bool.or_true]
  . have:=wd a1 a2 a3;omega
 | square=>
  have q:squB h w y.m LA z s ms=true:=by
   have:=hb;unfold strA eF at this;simp only[lineK,nbrK,Ng,My,ey,gm] at this;exact this
  unfold squB at q;simp only[LT,LO,MN,MJ] at q;refine⟨ms,?_,hb,ND _⟩;unfold mtF;rw[L4 (by decide),Md rfl];unfold squM;rw[cO q.2.1,L1];have ne:=q.2.2.1;unfold rosL at ne
  cases e:(squL h w).find? (rosP (ms.getD 0 0) z) with
  | none=>rw[e] at ne;exact absurd rfl ne
  | some sq=>
   have hp:=OJ e;unfold rosP at hp;rw[LT,LO] at hp;exact⟨sq,LS.mpr ⟨Nw e,hp.2⟩,by rw[hp.1]⟩
 | turn=>
  have q:turnB h w y.m LA z s ms=true:=by
   have:=hb;unfold strA eF at this;simp only[lineK,nbrK,Ng,My,ey,gm] at this;exact this
  refine⟨ms,?_,hb,ND _⟩;unfold mtF;rw[L4 (by decide),L4 (by decide),Md rfl];unfold turM;unfold turnB at q;by_cases e:ms=[]
  . rw[e];exact Ma
  . rw[L4 e] at q;simp only[LT,LO] at q;rw[cO q.1];exact L5 _ (L1.mpr ⟨_,q.2.1,rfl⟩)
 | reach=>
  have str:∀ ms',strA h w g LC cl LA .reach r z s ms'=reaB h w y.cs y.m LA z s ms':=fun ms'=>by
   unfold strA eF;simp only[lineK,nbrK,Ng,My,ey,gm]
  have mt:mtF h w g LC LA .reach r z s=reaM h w y.cs y.m LA z s:=by
   unfold mtF;rw[L4 (by decide),L4 (by decide),L4 (by decide),ey];dsimp only;rw[L4 (by decide),Md rfl]
  rw[str] at hb;simp only[str,mt];have hcs:y.cs=rngL 0 (h*w):=(O.cl.all (p9 hgo)).2;have mm0:=O.m0 (mX hgo)
  have insure:∀ o,anoB h w LA z y.m o=true->o∈sureA y.cs LA y.m z:=fun o ho=>by
   unfold anoB at ho;simp only[LT,LO,MN,MJ] at ho;exact LS.mpr ⟨LS.mpr ⟨by rw[hcs];exact mem_rngL.mpr ho.1,by simpa using ho.2.1⟩,LU ho.2.2⟩
  have sure_in:∀ o∈sureA y.cs LA y.m z,anoB h w LA z y.m o=true:=fun o ho=>by
   obtain⟨h1,h2⟩:=LS.mp ho;obtain⟨h3,h4⟩:=LS.mp h1;rw[hcs] at h3;have:=mem_rngL.mp h3;unfold anoB;rw[LU this.1,LU this.2,h4,h2];rfl
  have thr:∀ o∈sureA y.cs LA y.m z,o∈thrL y.cs LA y.m z:=fun o ho=>by
   obtain⟨h1,h2⟩:=LS.mp ho;have h3:=(LS.mp h1).1;rw[hcs] at h3;have b:=mem_rngL.mp h3;exact LS.mpr ⟨h1,Au (mb o b.1 b.2).2 (LX h2)⟩
  unfold reaB at hb;rw[LT,L3] at hb;obtain⟨al,hb⟩:=hb;by_cases e:s=y.m
  . rw[Md e,LT,LO] at hb;have em:=cO hb.1;have ha:anoB h w LA z y.m (ms.getD 0 0)=true:=al _ (em ▸ L0.mpr rfl |> fun q=>by rw[em];simp);refine⟨ms,?_,?_,ND _⟩
    . unfold reaM;rw[Md e,em,L1];exact⟨_,LS.mpr ⟨insure _ ha,hb.2⟩,rfl⟩
    . unfold reaB;rw[LT,L3,Md e,LT,LO];exact⟨al,hb⟩
  . rw[L4 e,LT,LT,LO,MN,MJ,rcB_no] at hb;obtain⟨l2,ne,nr⟩:=hb;have em:=oG l2;have ha:anoB h w LA z y.m (ms.getD 0 0)=true:=al _ (by rw[em];simp);have hb':anoB h w LA z y.m (ms.getD 1 0)=true:=al _ (by rw[em];simp);have i1:=insure _ ha;have i2:=insure _ hb'
    have hr:∀ x∈thrL y.cs LA y.m z,0<=x/\x<h*w:=fun x hx=>by
     have h3:=(LS.mp (LS.mp hx).1).1;rw[hcs] at h3;exact mem_rngL.mp h3
    have i0:(sureA y.cs LA y.m z).getD 0 0∈sureA y.cs LA y.m z:=bU (NO i1);generalize hq:(sureA y.cs LA y.m z).getD 0 0=q0 at i0
    have go:∀ o∈sureA y.cs LA y.m z,¬ RC h w (thrL y.cs LA y.m z) q0 o->ky [q0,o]<=ky ms->∃ ms'∈reaM h w y.cs y.m LA z s,reaB h w y.cs y.m LA z s ms'=true/\ky ms'<=ky ms:=fun o ho nq hk=>by
     refine⟨[q0,o],?_,?_,hk⟩
     . unfold reaM;rw[L4 e,hq,L1];exact⟨o,LS.mpr ⟨ho,rcB_no.mpr nq⟩,rfl⟩
     . unfold reaB;rw[LT,L3,L4 e];refine⟨fun x hx=>?_,?_⟩
       . rcases L6.mp hx with rfl | hx
         . exact sure_in _ i0
         . rw[L0.mp hx];exact sure_in _ ho
       . have n2:q0≠o:=fun e'=>nq (e' ▸ .start (thr _ i0));show(decide (2=2)&&(!decide (q0=o)&&!rcB h w (thrL y.cs LA y.m z) q0 o))=true;rw[LR n2,rcB_no.mpr nq];rfl
    have inn:∀ o∈sureA y.cs LA y.m z,0<=o/\o<h*w:=fun o ho=>by
     have h3:=(LS.mp (LS.mp ho).1).1;rw[hcs] at h3;exact mem_rngL.mp h3
    have srt:(sureA y.cs LA y.m z).Pairwise (· < ·):=by unfold sureA othA;rw[hcs];exact(rJ 0 (h*w)).filter _ |>.filter _
    have least:∀ o∈sureA y.cs LA y.m z,q0<=o:=fun o ho=>hq ▸ HB srt o ho;have k0:ky ms=2+ms.getD 1 0+100*ms.getD 0 0:=by rw[em];rfl
    have n1:=inn _ i1;have n2:=inn _ i2;have l1:=least _ i1;have m16:=F.m;by_cases c1:RC h w (thrL y.cs LA y.m z) q0 (ms.getD 0 0)
    . refine go _ i2 (fun c2=>nr ((c1.symm (by have:=F.w0;omega) hr).trans c2)) ?_;rw[k0];show 2+ms.getD 1 0+100*q0<=_;omega
    . have ne:q0≠ms.getD 0 0:=fun e'=>c1 (e' ▸ .start (thr _ i0));refine go _ i1 c1 ?_;rw[k0];show 2+ms.getD 0 0+100*q0<=_;omega
 | count=>refine nil (by decide) (by decide) (by decide) (by decide) (by decide) (by decide) ?_
          have q:cntB y.cs y.n y.m LA z s ms=true:=by
           have:=hb;unfold strA b3 at this;simp only[lineK,nbrK,M8,Ng,My,ey,dk] at this;exact this
          unfold cntB at q;rw[LT] at q;exact LX q.1
 | step=>refine nil (by decide) (by decide) (by decide) (by decide) (by decide) (by decide) ?_
         have q:stepB y.cs LA z s ms=true:=by
          have:=hb;unfold strA b3 at this;simp only[lineK,nbrK,M8,ey,dk] at this;exact this
         unfold stepB at q;rw[LT] at q;exact LX q.1
 | sum=>refine nil (by decide) (by decide) (by decide) (by decide) (by decide) (by decide) ?_
        have q:sumB y.cs y.n LA z s ms=true:=by
         have:=hb;unfold strA b3 at this;simp only[lineK,nbrK,M8,Ng,My,ey,dk] at this;exact this
        unfold sumB at q;rw[LT] at q;exact LX q.1
 | ways=>refine nil (by decide) (by decide) (by decide) (by decide) (by decide) (by decide) ?_
         have q:waysB y.k h w y.cs y.n y.m LA z s ms=true:=by
          have:=hb;unfold strA b3 at this;simp only[lineK,nbrK,M8,Ng,My,ey,dk] at this;exact this
         unfold waysB at q;rw[LT] at q;exact LX q.1
def rtF(R:Int)(t:TK):Int:=if t=.clue then 1 else R
def U52(ks:List TK)(R:Int)(n:Nat)(g:Int)(th:Tho):Prop:=th.t∈ks/\(0<=th.r/\th.r<rtF R th.t)/\(0<=th.z/\th.z<n)/\(1<=th.s/\th.s<=g)/\th.ms∈lmF th.t n g
theorem Fr(h:ms∈lmF t n g):ms.length<=2:=by
 unfold lmF at h
 split at h
 . rw[L0.mp h];simp
 . split at h
   . obtain⟨o,_,rfl⟩:=L1.mp h;simp
   . rcases L6.mp h with rfl | h
     . simp
     . obtain⟨a,_,h⟩:=Nk.mp h;unfold mr1 at h;rcases L6.mp h with rfl | h
       . simp
       . split at h
         . obtain⟨b,_,rfl⟩:=L1.mp h;simp
         . cases h
theorem Iq(t:TK):decide (tx (tkC t)=tx [99,108,117,101])=decide (t=.clue):=by cases t <;> decide+kernel
theorem Fs{k n:Int}(g0:0<g)(k0:0<=k)(k1:k<n*g):0<=k/g/\k/g<n:=by
 refine⟨Int.ediv_nonneg k0 (by omega),Op g0 k1⟩
theorem Es{z k:Int}(g0:0<g)(s0:1<=s)(s1:s<=g):z*g+(s-1)=k↔z=k/g/\s=1+k%g:=by
 constructor
 . rintro rfl
   have e1:(z*g+(s-1))/g=z:=by
    rw[Int.add_comm,Int.add_mul_ediv_right _ _ (by omega),Int.ediv_eq_zero_of_lt (by omega) (by omega)];omega
   have e2:(z*g+(s-1))%g=s-1:=by
    rw[Int.add_comm,Int.add_mul_emod_self_right];exact Int.emod_eq_of_lt (by omega) (by omega)
   rw[e1,e2];exact⟨rfl,by omega⟩
 . rintro⟨rfl,rfl⟩;have:=NS k g;rw[PR] at this;omega
theorem Ft:((List.range 8).all fun m=>(List.range 3).all fun s=>decide (decide ((m:Int) / ([1,2,4]:List Int).getD s 0%2=1)=stB (m:Int) (1+(s:Int))))=true:=by decide+kernel
theorem Gu{m:Int}(m0:0<=m)(m1:m<8)(s0:1<=s)(s3:s<=3):decide (m / ([1,2,4]:List Int).getD (s-1).toNat 0%2=1)=stB m s:=by
 have t:=LX (L3.mp (L3.mp Ft m.toNat (LZ.mpr (by omega))) (s-1).toNat (LZ.mpr (by omega)));rw[show((m.toNat:Nat):Int)=m by omega,show 1+(((s-1).toNat:Nat):Int)=s by omega] at t;exact t
theorem oH(h2:t≠.place):[]∈lmF t n g:=by
 unfold lmF
 split
 . simp
 . first | (rw[L4 h2];simp) | simp
theorem wj{o:Int}(h1:nilT t=false)(h2:t≠.place)(o0:0<=o)(o1:o<n):[o]∈lmF t n g:=by
 unfold lmF;rw[h1,L4 LY,L4 h2];refine L5 _ (Nk.mpr ⟨o.toNat,LZ.mpr (by omega),?_⟩);unfold mr1;rw[show((o.toNat:Nat):Int)=o by omega];exact Ma
theorem Et{a b:Int}(h1:nilT t=false)(h2:t≠.place)(h3:rpT t=true)(a0:0<=a)(a1:a<n)(b0:0<=b)(b1:b<n):[a,b]∈lmF t n g:=by
 unfold lmF;rw[h1,L4 LY,L4 h2];refine L5 _ (Nk.mpr ⟨a.toNat,LZ.mpr (by omega),?_⟩);unfold mr1;rw[h3,Md rfl,show((a.toNat:Nat):Int)=a by omega];exact L5 _ (L1.mpr ⟨b.toNat,LZ.mpr (by omega),by rw[show((b.toNat:Nat):Int)=b by omega]⟩)
theorem HC{cl:List Int}{r z:Int}(R:bn c h w g LC)(f:formB h w g LC t r z s=true)(hb:strA h w g LC cl LA t r z s ms=true):ms∈lmF t (h*w).toNat g:=by
 obtain⟨z0,z1,s0,s1,LL⟩:=bj f;have F:=R.F;by_cases hc:t=.clue
 . subst hc;have:clueB cl z s ms=true:=hb;unfold clueB at this;rw[LT] at this;rw[LX this.1];exact oH (by decide)
 obtain⟨r0,y,ey,hgo,hz⟩:=dL hc LL;have O:=R.ok y (LV ey);have inr:∀ o∈y.cs,0<=o/\o < ((h*w).toNat:Nat):=fun o ho=>(N8 O F).2 o ho
 cases t with
 | clue=>exact absurd rfl hc
 | only=>
  have q:onlyB y.cs LA z s ms=true:=by
   have:=hb;unfold strA eh at this;simp only[lineK,M8,ey] at this;exact this
  unfold onlyB at q;simp only[LT,LO] at q;rw[cO q.1];have b:=inr _ (LS.mp q.2.1).1;exact wj rfl (by decide) b.1 b.2
 | place=>
  have q:jk g y.cs LA z s ms=true:=by
   have:=hb;unfold strA eh at this;simp only[lineK,M8,ey] at this;exact this
  unfold jk at q;simp only[LT,LO,MN,MJ] at q;rw[cO q.2.1];unfold lmF;rw[L4 (by decide),Md rfl];exact L1.mpr ⟨_,rng1_mem.mpr q.2.2.2.1,rfl⟩
 | pair=>
  have q:pairB y.cs LA z s ms=true:=by
   have:=hb;unfold strA eh at this;simp only[lineK,M8,ey] at this;exact this
  unfold pairB ordB at q;simp only[LT,LO] at q;obtain⟨⟨l2,a1,a2,a3⟩,few⟩:=q;rw[oG l2];have b1:=inr _ (LS.mp a1).1;have b2:=inr _ (LS.mp a2).1;exact Et rfl (by decide) rfl b1.1 b1.2 b2.1 b2.2
 | square=>
  have q:squB h w y.m LA z s ms=true:=by
   have:=hb;unfold strA eF at this;simp only[lineK,nbrK,Ng,My,ey,gm] at this;exact this
  unfold squB at q;simp only[LT,LO,MN,MJ] at q;rw[cO q.2.1];have ne:=q.2.2.1;unfold rosL at ne
  cases e:(squL h w).find? (rosP (ms.getD 0 0) z) with
  | none=>rw[e] at ne;exact absurd rfl ne
  | some sq=>
   have hp:=OJ e;unfold rosP at hp;rw[LT,LO] at hp;obtain⟨i,hi,hc,rfl⟩:=sX (Nw e);rw[← hp.1];exact wj rfl (by decide) (by show 0<=((i:Nat):Int);omega) (by show((i:Nat):Int)<_;omega)
 | turn=>
  have q:turnB h w y.m LA z s ms=true:=by
   have:=hb;unfold strA eF at this;simp only[lineK,nbrK,Ng,My,ey,gm] at this;exact this
  unfold turnB at q;by_cases e:ms=[]
  . rw[e];exact oH (by decide)
  . rw[L4 e] at q;simp only[LT,LO] at q;rw[cO q.1];have b:=(vS F z0 z1).2 _ q.2.1;exact wj rfl (by decide) b.1 (by omega)
 | reach=>
  have q:reaB h w y.cs y.m LA z s ms=true:=by
   have:=hb;unfold strA eF at this;simp only[lineK,nbrK,Ng,My,ey,gm] at this;exact this
  unfold reaB at q;rw[LT,L3] at q;obtain⟨al,q⟩:=q
  have inn:∀ o∈ms,0<=o/\o < ((h*w).toNat:Nat):=fun o ho=>by
   have:=al o ho;unfold anoB at this;simp only[LT,LO] at this;omega
  have len:ms.length=1\/ms.length=2:=by
   split at q
   . rw[LT,LO] at q;exact .inl q.1
   . rw[LT,LO] at q;exact .inr q.1
  rcases len with l | l
  . have em:=cO l;have b:=inn (ms.getD 0 0) (by rw[em];simp);rw[em];exact wj rfl (by decide) b.1 b.2
  . have em:=oG l;have b:=inn (ms.getD 0 0) (by rw[em];simp);have b2:=inn (ms.getD 1 0) (by rw[em];simp);rw[em];exact Et rfl (by decide) rfl b.1 b.2 b2.1 b2.2
 | count=>
  have q:cntB y.cs y.n y.m LA z s ms=true:=by
   have:=hb;unfold strA b3 at this;simp only[lineK,nbrK,M8,Ng,My,ey,dk] at this;exact this
  unfold cntB at q;rw[LT] at q;rw[LX q.1];exact oH (by decide)
 | step=>
  have q:stepB y.cs LA z s ms=true:=by
   have:=hb;unfold strA b3 at this;simp only[lineK,nbrK,M8,ey,dk] at this;exact this
  unfold stepB at q;rw[LT] at q;rw[LX q.1];exact oH (by decide)
 | sum=>
  have q:sumB y.cs y.n LA z s ms=true:=by
   have:=hb;unfold strA b3 at this;simp only[lineK,nbrK,M8,Ng,My,ey,dk] at this;exact this
  unfold sumB at q;rw[LT] at q;rw[LX q.1];exact oH (by decide)
 | ways=>
  have q:waysB y.k h w y.cs y.n y.m LA z s ms=true:=by
   have:=hb;unfold strA b3 at this;simp only[lineK,nbrK,M8,Ng,My,ey,dk] at this;exact this
  unfold waysB at q;rw[LT] at q;rw[LX q.1];exact oH (by decide)
section
variable{c:RCl RK}{h w g:Int}{LC:List RR}{cl:List Int}{ks:List TK}
theorem gW{m:List Int}{th:Tho}(R:bn c h w g LC)(ht:th.t∈ks)(a:alwA h w g LC cl m th.t th.r th.z th.s th.ms=true):U52 ks LC.length (h*w).toNat g th:=by
 unfold alwA at a;rw[LT] at a;obtain⟨f,q⟩:=a;obtain⟨z0,z1,s0,s1,LL⟩:=bj f;refine⟨ht,?_,⟨z0,by omega⟩,⟨s0,s1⟩,HC R f q⟩;unfold rtF;by_cases hc:th.t=.clue
 . rw[Md hc];unfold hitB at LL
   split at LL
   . cases LL
   . first | rw[Md hc] at LL | skip
     rw[LX LL];decide
 . obtain⟨r0,y,ey,_⟩:=dL hc LL;have:=(LP.mp ey).1;rw[L4 hc];omega
end
theorem Gv(g0:1<=g)(g3:g<=3):(2:Int)^g.toNat<=8:=by
 have e:g=1\/g=2\/g=3:=by omega
 rcases e with rfl | rfl | rfl <;> decide
theorem uH(xs:List Int):(srtI xs).Pairwise (· <=·):=by
 have:=Pk (le:=fun a b:Int=>decide (a<=b)) (fun a b c h1 h2=>by simp at h1 h2 ⊢;omega) (fun a b=>by simp;omega) xs;exact this.imp fun h=>LX h
theorem Fu(nd:xs.Nodup):(srtI xs).Pairwise (· < ·):=by
 have nd2:(srtI xs).Nodup:=(N5 xs _).nodup_iff.mpr nd;exact((uH xs).and nd2).imp fun h=>by have:=h.1;have:=h.2;omega
abbrev Ro(l:List (List Int)):Prop:=l.Pairwise fun a b=>ky a<=ky b
theorem wk{l:List Int}(p:l.Pairwise (· <=·)):Ro (l.map fun o=>[o]):=by
 unfold Ro;rw[MY];exact p.imp fun h=>by show 1+100*_<=1+100*_;omega
theorem Gw{y:RR}(O:y.Ok h w g):y.cs.Nodup:=by
 cases ha:allK y.k with
 | true=>rw[(O.cl.all ha).2];exact yp _
 | false=>
  obtain⟨_,_,_,nd,e⟩:=O.cl.told ha;rw[e];unfold List.Nodup;rw[MY];exact nd.imp fun h e=>h (by omega)
theorem Ir{r z:Int}(R:bn c h w g LC)(f:formB h w g LC t r z s=true):Ro (mtF h w g LC LA t r z s):=by
 obtain⟨z0,z1,_,_,LL⟩:=bj f;have F:=R.F;have m16:=F.m;unfold mtF
 split
 . unfold plaM;exact wk (((rJ 1 (g+1)).filter _).imp fun h=>Oi h)
 . split
   . unfold squM squL Ro;rw[MY];refine List.Pairwise.filter _ ?_;rw[MY];refine List.Pairwise.filter _ (Nj.imp fun h=>?_);show 1+100*((_:Nat):Int)<=1+100*((_:Nat):Int);omega
   . split
     . unfold turM Ro;rw[M4];refine⟨fun x hx=>?_,wk ((A6 (by have:=F.w0;omega)).imp fun h=>Oi h)⟩;obtain⟨o,ho,rfl⟩:=L1.mp hx;have:=((uA F z0 z1 rfl).2 o ho).1;show(0:Int)<=1+100*o;omega
     . split
       . exact NM _ _
       . rename_i y ey
         have O:=R.ok y (LV ey);have nd:=Gw O;have inn:∀ o∈y.cs,0<=o/\o<h*w:=fun o ho=>by have:=(N8 O F).2 o ho;omega
         split
         . unfold onlM;exact wk ((uH _).filter _)
         . split
           . rename_i e1 e2
             unfold reaM;obtain⟨_,y2,ey2,hgo,_⟩:=dL (by rw[e2];decide) LL;rw[ey] at ey2;cases ey2;rw[e2] at hgo;have hk:=p9 hgo
             . have sr:(sureA y.cs LA y.m z).Pairwise (· < ·):=by unfold sureA othA;rw[(O.cl.all hk).2];exact(rJ 0 (h*w)).filter _ |>.filter _
               split
               . exact wk ((sr.filter _).imp fun h=>Oi h)
               . unfold Ro;rw[MY];exact(sr.filter _).imp fun h=>by show 2+_+100*_<=2+_+100*_;omega
           . split
             . unfold paiM Ro;have fs:(fewA y.cs LA z).Pairwise (· < ·):=(Fu (nd.filter _)).filter _;have fi:∀ o∈fewA y.cs LA z,0<=o/\o<h*w:=fun o ho=>inn o (LS.mp (srt_mem.mp (LS.mp ho).1)).1;rw[PF];refine⟨fun a ha=>?_,?_⟩
               . unfold paiR;rw[MY];exact(fs.filter _).imp fun h=>by show 2+_+100*_<=2+_+100*_;omega
               . refine Pe (fun{a b} ha hb h x hx y' hy=>?_) fs;unfold paiR at hx hy;obtain⟨p,hp,rfl⟩:=L1.mp hx;obtain⟨q,hq,rfl⟩:=L1.mp hy;have i1:=fi p (LS.mp hp).1;have i2:=fi q (LS.mp hq).1;show 2+p+100*a<=2+q+100*b;omega
             . exact NM _ _
theorem B5(n16:n<=16):(lmF t n g).Pairwise fun a b=>ky a<ky b:=by
 unfold lmF
 split
 . exact NM _ _
 . split
   . rw[MY];exact(rJ 1 (g+1)).imp fun h=>by show 1+100*_<1+100*_;omega
   . have m1:∀ a<n,∀ x∈mr1 t n a,1+100*(a:Int)<=ky x/\ky x<=2+100*(a:Int)+n:=fun a ha x hx=>by
      unfold mr1 at hx;rcases L6.mp hx with rfl | hx
      . exact⟨by show _<=1+100*(a:Int);omega,by show 1+100*(a:Int)<=_;omega⟩
      . split at hx
        . obtain⟨b,hb,rfl⟩:=L1.mp hx;have:=LZ.mp hb;exact⟨by show _<=2+(b:Int)+100*(a:Int);omega,by show 2+(b:Int)+100*(a:Int)<=_;omega⟩
        . cases hx
     rw[M4];refine⟨fun x hx=>?_,?_⟩
     . obtain⟨a,ha,hx⟩:=Nk.mp hx;have:=(m1 a (LZ.mp ha) x hx).1;show(0:Int)<_;omega
     . rw[PF];refine⟨fun a ha=>?_,?_⟩
       . unfold mr1;rw[M4]
         split
         . refine⟨fun x hx=>?_,?_⟩
           . obtain⟨b,hb,rfl⟩:=L1.mp hx;show 1+100*(a:Int)<2+(b:Int)+100*(a:Int);omega
           . rw[MY];exact Nj.imp fun h=>by show 2+_+100*_<2+_+100*_;omega
         . exact⟨fun x hx=>(by cases hx),List.Pairwise.nil⟩
       . refine Pe (fun{a b} ha hb h x hx y hy=>?_) Nj;have x1:=m1 a (LZ.mp ha) x hx;have y1:=m1 b (LZ.mp hb) y hy;omega
section
variable{c:RCl RK}{h w g:Int}{LC:List RR}{cl LA:List Int}{ks:List TK}{t:TK}{r z s:Int}
theorem Aw:∀{l:List Int} {m:List Int} {th:Tho},(l.foldl (fbS h w g LC cl t r z) (m,[])).2.head? =some th->∃ pre post,l=pre++th.s::post/\(∀ s∈pre,faF h w g LC cl m t r z s=none)/\faF h w g LC cl m t r z th.s=some th.ms/\th.t=t/\th.r=r/\th.z=z
 | [],m,th,h=>by cases h
 | s::l,m,th,hh=>by
  rw[Na] at hh
  cases e:faF h w g LC cl m t r z s with
  | none=>
   have e2:fbS h w g LC cl t r z (m,[]) s=(m,[]):=by unfold fbS;rw[e]
   rw[e2] at hh;obtain⟨pre,post,a,b,d⟩:=Aw hh;exact⟨s::pre,post,by rw[a];rfl,fun x hx=>(L6.mp hx).elim (fun q=>q ▸ e) (b x),d⟩
  | some ms=>
   have e2:fbS h w g LC cl t r z (m,[]) s=(stL m z s,[⟨t,r,z,s,ms⟩]):=by unfold fbS;rw[e];rfl
   rw[e2] at hh;obtain⟨q,eq⟩:=xD (h:=h) (w:=w) (g:=g) (LC:=LC) (cl:=cl) (t:=t) (r:=r) (z:=z) (l:=l) (nb:=(stL m z s,[⟨t,r,z,s,ms⟩]));rw[eq] at hh;cases (M9 hh:(⟨t,r,z,s,ms⟩:Tho)=th);exact⟨[],l,rfl,(fun _ h=>by cases h),e,rfl,rfl,rfl⟩
theorem Ax:∀{zs:List Int} {m:List Int} {th:Tho},0∉m->(fbL h w g LC cl t r zs (m,[])).head? =some th->∃ pre post,zs=pre++th.z::post/\(∀ z∈pre,∀ s∈sgL (m.getD z.toNat 0),faF h w g LC cl m t r z s=none)/\(∃ p q,sgL (m.getD th.z.toNat 0)=p++th.s::q/\∀ s∈p,faF h w g LC cl m t r th.z s=none)/\faF h w g LC cl m t r th.z th.s=some th.ms/\th.t=t/\th.r=r
 | [],m,th,_,hh=>by cases hh
 | z::zs,m,th,nz,hh=>by
  rw[fbL] at hh;by_cases e:(fbC h w g LC cl t r (m,[]) z).2=[]
  . have f:=uF (nb:=(m,[])) e;have e2:fbC h w g LC cl t r (m,[]) z=(m,[]):=f.2;rw[e2,L4 nz] at hh;obtain⟨pre,post,a,b,d⟩:=Ax nz hh;exact⟨z::pre,post,by rw[a];rfl,fun x hx=>(L6.mp hx).elim (fun q=>q ▸ f.1) (b x),d⟩
  . have hd:(fbC h w g LC cl t r (m,[]) z).2.head? =some th:=by
     split at hh
     . exact hh
     . obtain⟨q,eq⟩:=xE (h:=h) (w:=w) (g:=g) (LC:=LC) (cl:=cl) (t:=t) (r:=r) (zs:=zs) (nb:=fbC h w g LC cl t r (m,[]) z);rw[eq] at hh
       cases e3:(fbC h w g LC cl t r (m,[]) z).2 with
       | nil=>exact absurd e3 e
       | cons x xs=>rw[e3] at hh;exact hh
    obtain⟨pre,post,a,b,d,e1,e2,e3⟩:=Aw (l:=sgL (m.getD z.toNat 0)) hd;cases e3;exact⟨[],zs,rfl,(fun _ h=>by cases h),⟨pre,post,a,b⟩,d,e1,e2⟩
theorem Ay:∀{rs:List Int} {th:Tho},(ffR h w g LC cl LA t rs).head? =some th->∃ pre r post,rs=pre++r::post/\(∀ r∈pre,fbF h w g LC cl LA t r=[])/\(fbF h w g LC cl LA t r).head? =some th
 | [],th,hh=>by cases hh
 | r::rs,th,hh=>by
  rw[ffR] at hh
  split at hh
  . rename_i e
    obtain⟨pre,r',post,a,b,d⟩:=Ay hh;exact⟨r::pre,r',post,by rw[a];rfl,fun x hx=>(L6.mp hx).elim (fun q=>q ▸ NL.mp e) (b x),d⟩
  . exact⟨[],r,rs,rfl,(fun _ h=>by cases h),hh⟩
theorem Az:∀{ts:List TK} {th:Tho},(ffT h w g LC cl LA ts).head? =some th->∃ pre t post,ts=pre++t::post/\(∀ t∈pre,ffR h w g LC cl LA t (rnF LC t)=[])/\(ffR h w g LC cl LA t (rnF LC t)).head? =some th
 | [],th,hh=>by cases hh
 | t::ts,th,hh=>by
  rw[ffT] at hh
  split at hh
  . rename_i e
    obtain⟨pre,r',post,a,b,d⟩:=Az hh;exact⟨t::pre,r',post,by rw[a];rfl,fun x hx=>(L6.mp hx).elim (fun q=>q ▸ NL.mp e) (b x),d⟩
  . exact⟨[],t,ts,rfl,(fun _ h=>by cases h),hh⟩
def tkN:TK->Nat
 | .clue=>0 | .only=>1 | .place=>2 | .count=>3 | .step=>4 | .sum=>5 | .square=>6 | .reach=>7 | .turn=>8 | .pair=>9 | .ways=>10
theorem Gx{a b:TK}(h:tkN a=tkN b):a=b:=by cases a <;> cases b <;> first | rfl | cases h
theorem allT_rise:allT.Pairwise fun a b=>tkN a<tkN b:=by decide
theorem tm{α:Type}{f:α->Int}{pre post:List α}{x y:α}(p:(pre++x::post).Pairwise fun a b=>f a<=f b)(hy:y∈pre++x::post)(l:f y<f x):y∈pre:=by
 rcases Ml.mp hy with q | q
 . exact q
 . rcases L6.mp q with rfl | q
   . omega
   . have:=(M4.mp (List.pairwise_append.mp p).2.1).1 y q;omega
abbrev b4(h w g:Int)(LC:List RR)(cl LA:List Int)(ks:List TK)(th:Tho):Prop:=th.t∈ks/\stB (LA.getD th.z.toNat 0) th.s=true/\alwA h w g LC cl LA th.t th.r th.z th.s th.ms=true
theorem zw{th:Tho}(a:alwA h w g LC cl LA th.t th.r th.z th.s th.ms=true):th.r∈rnF LC th.t/\th.z∈celF h w LC th.t th.r:=by
 unfold alwA at a;rw[LT] at a;obtain⟨z0,z1,s0,s1,LL⟩:=bj a.1;unfold rnF celF;by_cases hc:th.t=.clue
 . rw[Md hc,Md hc];unfold hitB at LL
   split at LL
   . cases LL
   . first | rw[Md hc] at LL | skip
     exact⟨by rw[LX LL];simp,mem_rngL.mpr ⟨z0,z1⟩⟩
 . obtain⟨r0,y,ey,hgo,hz⟩:=dL hc LL;rw[L4 hc,L4 hc,ey];refine⟨L1.mpr ⟨th.r.toNat,LS.mpr ⟨LZ.mpr (LP.mp ey).1,?_⟩,by omega⟩,srt_mem.mpr hz⟩;rw[ey];exact hgo
theorem Gy:(rnF LC t).Pairwise (· <=·):=by
 unfold rnF
 split
 . exact NM _ _
 . rw[MY];exact(Nj.filter _).imp fun h=>by omega
theorem Fv:(celF h w LC t r).Pairwise (· <=·):=by
 unfold celF
 split
 . exact(rJ _ _).imp fun h=>Oi h
 . split
   . exact List.Pairwise.nil
   . exact uH _
theorem Gz(m:Int):(sgL m).Pairwise (· <=·):=by
 unfold sgL;rw[MY];exact(Nj.filter _).imp fun h=>by omega
theorem xI{th:Tho}(R:bn c h w g LC)(X:MkP g (h*w).toNat LA)(nz:0∉LA)(a:alwA h w g LC cl LA th.t th.r th.z th.s th.ms=true)(e:faF h w g LC cl LA th.t th.r th.z th.s=none):False:=by
 unfold alwA at a;rw[LT] at a;obtain⟨ms',hm,hs,_⟩:=compO R X nz a.1 a.2;unfold faF at e;exact Od.mp e ms' hm hs
theorem Fw{th:Tho}{ms:List Int}(R:bn c h w g LC)(X:MkP g (h*w).toNat LA)(nz:0∉LA)(a:alwA h w g LC cl LA th.t th.r th.z th.s th.ms=true)(e:faF h w g LC cl LA th.t th.r th.z th.s=some ms):ky ms<=ky th.ms:=by
 unfold alwA at a;rw[LT] at a;obtain⟨ms',hm,hs,hk⟩:=compO R X nz a.1 a.2;have p:=Ir (LA:=LA) R a.1;unfold faF at e;obtain⟨_,as,bs,el,no⟩:=List.find?_eq_some_iff_append.mp e;rw[el] at hm p;rcases Ml.mp hm with q | q
 . have:=no ms' q;rw[hs] at this;cases this
 . rcases L6.mp q with rfl | q
   . exact hk
   . have:=(M4.mp (List.pairwise_append.mp p).2.1).1 ms' q;omega
structure Fst50(h w g:Int)(LC:List RR)(cl LA:List Int)(ks:List TK)(th:Tho):Prop where
 ok:b4 h w g LC cl LA ks th
 t:∀ th',b4 h w g LC cl LA ks th'->tkN th.t<=tkN th'.t
 r:∀ th',b4 h w g LC cl LA ks th'->th'.t=th.t->th.r<=th'.r
 z:∀ th',b4 h w g LC cl LA ks th'->th'.t=th.t->th'.r=th.r->th.z<=th'.z
 s:∀ th',b4 h w g LC cl LA ks th'->th'.t=th.t->th'.r=th.r->th'.z=th.z->th.s<=th'.s
 m:∀ th',b4 h w g LC cl LA ks th'->th'.t=th.t->th'.r=th.r->th'.z=th.z->th'.s=th.s->ky th.ms<=ky th'.ms
theorem Fst50.one{a b:Tho}(R:bn c h w g LC)(A:Fst50 h w g LC cl LA ks a)(B:Fst50 h w g LC cl LA ks b):a=b:=by
 have m16:=R.F.m;have e1:a.t=b.t:=Gx (Nat.le_antisymm (A.t b B.ok) (B.t a A.ok));have e2:a.r=b.r:=OK (A.r b B.ok e1.symm) (B.r a A.ok e1);have e3:a.z=b.z:=OK (A.z b B.ok e1.symm e2.symm) (B.z a A.ok e1 e2);have e4:a.s=b.s:=OK (A.s b B.ok e1.symm e2.symm e3.symm) (B.s a A.ok e1 e2 e3);have e5:ky a.ms=ky b.ms:=OK (A.m b B.ok e1.symm e2.symm e3.symm e4.symm) (B.m a A.ok e1 e2 e3 e4);have ua:=(gW R A.ok.1 A.ok.2.2).2.2.2.2;have ub:=(gW R B.ok.1 B.ok.2.2).2.2.2.2;rw[← e1] at ub;have p:=B5 (t:=a.t) (n:=(h*w).toNat) (g:=g) (by omega)
 have e6:a.ms=b.ms:=by
  obtain⟨i,hi,ei⟩:=N6 ua;obtain⟨j,hj,ej⟩:=N6 ub;rw[NZ] at p;rcases Pb i j with q | q | q
  . have:=p i j hi hj q;rw[ei,ej] at this;omega
  . subst q;rw[← ei,← ej]
  . have:=p j i hj hi q;rw[ei,ej] at this;omega
 cases a;cases b;simp only at e1 e2 e3 e4 e6;subst e1 e2 e3 e4 e6;rfl
theorem wl{th:Tho}(R:bn c h w g LC)(X:MkP g (h*w).toNat LA)(nz:0∉LA)(hh:(ffF h w g LC cl LA ks).head? =some th):Fst50 h w g LC cl LA ks th:=by
 obtain⟨m',W⟩:=Fq (cl:=cl) (ks:=ks) R X nz
 have ok:OkT h w g LC cl ks LA th:=by
  cases e:ffF h w g LC cl LA ks with
  | nil=>rw[e] at hh;cases hh
  | cons x xs=>rw[e] at hh W;cases hh;exact W.1
 obtain⟨_,o1,o2,o3,o4,o5⟩:=ok;unfold ffF at hh;obtain⟨p1,t,q1,e1,n1,h1⟩:=Az hh;obtain⟨p2,r,q2,e2,n2,h2⟩:=Ay h1;unfold fbF at h2;obtain⟨p3,q3,e3,n3,⟨p4,q4,e4,n4⟩,h5,rfl,rfl⟩:=Ax nz h2
 have sg:∀ th',b4 h w g LC cl LA ks th'->th'.s∈sgL (LA.getD th'.z.toNat 0):=fun th' k=>by
  obtain⟨z0,z1,s0,s1,LL⟩:=bj (by have:=k.2.2;unfold alwA at this;rw[LT] at this;exact this.1);have hl:th'.z.toNat<LA.length:=by rw[X.len];omega
  exact(kb (X.mm _ (bU hl)).1 _).mpr k.2.1
 have noF:∀ th',b4 h w g LC cl LA ks th'->fbF h w g LC cl LA th'.t th'.r=[]->False:=fun th' k e=>
  xI R X nz k.2.2 (xG (nb:=(LA,[])) nz e th'.z (zw k.2.2).2 th'.s (sg th' k))
 refine⟨⟨o1,o4,o5⟩,fun th' k=>?_,fun th' k et=>?_,fun th' k et er=>?_,fun th' k et er ez=>?_,fun th' k et er ez es=>?_⟩
 . rcases Nat.lt_or_ge (tkN th'.t) (tkN th.t) with q | q
   . exfalso
     have hy:th'.t∈allT.filter fun t=>decide (t∈ks):=LS.mpr ⟨by cases th'.t <;> decide,LU k.1⟩;have pw:=(allT_rise.filter fun t=>decide (t∈ks)).imp (S:=fun a b=>(tkN a:Int)<=(tkN b:Int)) fun h=>by omega
     rw[e1] at hy pw;have:=n1 _ (tm (f:=fun t=>(tkN t:Int)) pw hy (by show(tkN th'.t:Int) < (tkN th.t:Int);omega));exact noF th' k (xH this _ (zw k.2.2).1)
   . exact q
 . rcases OR th'.r th.r with q | q
   . exfalso
     have hy:=(zw k.2.2).1;have pw:=Gy (LC:=LC) (t:=th.t);rw[et,e2] at hy;rw[e2] at pw;have:=n2 _ (tm (f:=fun r=>r) pw hy q);exact noF th' k (et ▸ this)
   . exact q
 . rcases OR th'.z th.z with q | q
   . exfalso
     have hy:=(zw k.2.2).2;have pw:=Fv (h:=h) (w:=w) (LC:=LC) (t:=th.t) (r:=th.r);rw[et,er,e3] at hy;rw[e3] at pw;have:=n3 _ (tm (f:=fun r=>r) pw hy q) th'.s (sg th' k);exact xI R X nz k.2.2 (et ▸ er ▸ this)
   . exact q
 . rcases OR th'.s th.s with q | q
   . exfalso
     have hy:=sg th' k;have pw:=Gz (LA.getD th.z.toNat 0);rw[ez,e4] at hy;rw[e4] at pw;have:=n4 _ (tm (f:=fun r=>r) pw hy q);exact xI R X nz k.2.2 (et ▸ er ▸ ez ▸ this)
   . exact q
 . exact Fw R X nz k.2.2 (et ▸ er ▸ ez ▸ es ▸ h5)
theorem GA{th:Tho}(R:bn c h w g LC)(X:MkP g (h*w).toNat LA)(nz:0∉LA)(A:Fst50 h w g LC cl LA ks th):ntF h w g LC cl LA ks=some th:=by
 unfold ntF;rw[L4 nz]
 cases e:(ffF h w g LC cl LA ks).head? with
 | none=>
  have:=HA R X nz (List.head?_eq_none_iff.mp e) A.ok.1 A.ok.2.2;rw[A.ok.2.1] at this;cases this
 | some b=>rw[(A.one R (wl R X nz e))]
theorem HD(R:bn c h w g LC)(X:MkP g (h*w).toNat LA)(nz:0∉LA)(A:∀ th,¬ b4 h w g LC cl LA ks th):ntF h w g LC cl LA ks=none:=by
 unfold ntF;rw[L4 nz]
 cases e:(ffF h w g LC cl LA ks).head? with
 | none=>rfl
 | some b=>exact absurd (wl R X nz e).ok (A b)
end
def xJ(ns:List Int)(k:Int):Int:=if k < (ns.length:Int) then ns.getD k.toNat 0 else 0
def b5(K:Frag):Sp:=fun vs H Q _=>∃(a:Addr) (ns:List Int) (k:Int),vs=[.ref a,.int k]/\SqL K H a (ns.map V.int)/\ns.length<=63/\0<=k/\k<=1000/\Q (.int (xJ ns k)) H
def mr(K:Frag):TS:=
 (tSeq (tIfS (tTest (tOp (cCmp fun i j=>decide (i<j)) (tVar 1) (tCB (kLenS K) (tCons (tVar 0) tNil)))) (tRet (tOp (rIxL K) (tVar 0) (tVar 1))) tNext)
  (tRet (tC (.int 0))))
theorem AA(h:b5 K vs H Q E):mr K (eD9 Q) (start ["_law_script","_law_k"] vs) H:=by
 obtain⟨a,ns,k,rfl,hS,hn,k0,k1,q⟩:=h;show mr K _ [some (.ref a),some (.int k)] H;unfold mr;rw[aD,ax];symm;refine⟨a,_,rfl,.inl hS,?_⟩;symm;rw[LM];unfold xJ at q;by_cases hk:k < (ns.length:Int)
 . rw[Md hk] at q;rw[Md (LU hk)];exact⟨a,_,k,_,rfl,rfl,hS,pM k0 hk,q⟩
 . rw[L4 hk] at q;rw[L4 (by simpa using hk)];symm;exact q
def CL:List (Int × Int)->(St->Hp->(List V->Hp->Prop)->Prop)
 | []=>tNil
 | p::r=>tCons (tTup (tCons (tC (.int p.1)) (tCons (tC (.int p.2)) tNil))) (CL r)
theorem AB{σ:St}:∀(ps:List (Int × Int)) (H:Hp) (Q:List V->Hp->Prop),(∀(as:List Addr) (H':Hp),Same H H'->as.length=ps.length->(∀(j:Nat) (a:Addr) (p:Int × Int),as[j]? =some a->ps[j]? =some p->H' a=some (.tup [.int p.1,.int p.2]))->Q (as.map V.ref) H')->CL ps σ H Q
 | [],H,Q,h=>h [] H (LQ H) rfl fun j a p e _=>by simp at e
 | p::r,H,Q,h=>by
  unfold CL;symm;refine⟨lnR rfl,fun t ht=>?_⟩;obtain⟨H1,z9,s1,et⟩:=aU (.tup [V.int p.1,V.int p.2]) ht;rw[z9];refine AB r H1 _ fun as H2 s2 hl ha=>?_;refine h (t::as) H2 (s1.trans s2) (by simp[hl]) fun j a q e1 e2=>?_
  match j,e1,e2 with
  | 0,e1,e2=>
   simp at e1 e2;subst e1 e2;exact s2 _ _ et
  | j+1,e1,e2=>exact ha j a q (by simpa using e1) (by simpa using e2)
def kIsiT(K:Frag):List V->Hp->VK->Prop
 | [.ref q,.ty n],H,Q=>lJ n=true/\(∃ xs,SqT K H q xs)/\Q (.bl (isTy "tuple" n)) H
 | _,_,_=>False
section
variable{X:Cx}
theorem CM:CallR X (.builtin "isinstance") (kIsiT X.K):=by
 intro LB s σ H xs us Q I r h;unfold kIsiT at h
 split at h
 . rename_i q n
   obtain⟨hn,⟨xs,hq⟩,q'⟩:=h;obtain⟨u,w,rfl,ru,rw'⟩:=Fy r;cases rw';have e:=DA X.K "tuple" (by decide) _ (by simpa [lJ] using hn);rcases hq with hq | ⟨o,LF,m,h1,h2,_⟩
   . cases (show u=Value.ref _ from ru);obtain⟨_,_,_,p⟩:=(show ObjOk X.prog X.w H s.heap q (.tup xs) from hq.ok I.hok);obtain⟨o,h1,h2,_⟩:=p;exact MW OW I.kIn ⟨o,h1,h2⟩ e (fun z=>nomatch z) fun tk=>⟨.bl _,H,I.tok tk,rfl,q'⟩
   . cases (show u=Value.ref _ from ru);exact MW OW I.kIn ⟨o,I.kIn _ _ h1,h2⟩ e (fun z=>nomatch z) fun tk=>⟨.bl _,H,I.tok tk,rfl,q'⟩
 . exact h.elim
end
theorem GB{K:Frag}{H:Hp}{Q:VK}{q:Addr}{xs:List V}(hq:SqT K H q xs)(h:Q (.bl true) H):kIsiT K [.ref q,.ty "tuple"] H Q:=⟨by decide,⟨xs,hq⟩,h⟩
theorem HE{K:Frag}{H:Hp}{Q:VK}{p q:Addr}{xs ys:List Str}(hp:SqT K H p (xs.map V.str))(hq:SqT K H q (ys.map V.str))(h1:∀ x∈xs,PyData.strOk x=true)(h2:∀ x∈ys,PyData.strOk x=true)(h:Q (.bl (!decide (xs=ys))) H):cNe K (.ref p) (.ref q) H Q:=by
 show rNeD K (.ref p) (.ref q) H Q;refine⟨.tuple (xs.map PyData.str),.tuple (ys.map PyData.str),.tup hp (.strs xs),.tup hq (.strs ys),fc xs h1,fc ys h2,?_⟩;rw[PyData.eqv,sS PyData.str ra];exact h
def dn(K:Frag):Sp:=fun vs H Q _=>vs=[]/\∀(l:Addr) (H':Hp),Same H H'->H l=none->H' l=some (.tup (gt_KINDS.map V.str))->Q (.ref l) H'
def jJ(K:Frag):TS:=
 (tSeq (tAsg (tLst (tCons (tC (.str (tx [99,108,117,101]))) (tCons (tC (.str (tx [111,110,108,121]))) (tCons (tC (.str (tx [112,108,97,99,101]))) (tCons (tC (.str (tx [99,111,117,110,116]))) (tCons (tC (.str (tx [115,116,101,112]))) (tCons (tC (.str (tx [115,117,109]))) (tCons (tC (.str (tx [115,113,117,97,114,101]))) (tCons (tC (.str (tx [114,101,97,99,104]))) (tCons (tC (.str (tx [116,117,114,110]))) (tCons (tC (.str (tx [112,97,105,114]))) (tCons (tC (.str (tx [119,97,121,115]))) tNil)))))))))))) (gName 0))
  (tRet (tCB (i4 K) (tCons (tVar 0) tNil))))
variable{K:Frag}{vs:List V}{H:Hp}{Q:VK}{E:XK}
theorem wm(h:dn K vs H Q E):jJ K (eD9 Q) (start ["_law_some"] vs) H:=by
 obtain⟨rfl,q⟩:=h;show jJ K _ [none] H;unfold jJ;symm;refine⟨lnR rfl,fun p hp=>?_⟩;have s1:Same H (upd H p (.lst (gt_KINDS.map V.str))):=(LQ H).laid hp;have e1:(upd H p (.lst (gt_KINDS.map V.str))) p=some (.lst (gt_KINDS.map V.str)):=ag;show i4 K [.ref p] (upd H p (.lst (gt_KINDS.map V.str))) Q;generalize upd H p (.lst (gt_KINDS.map V.str))=H1 at*;refine BO e1 fun l hl=>?_;exact q l _ (s1.laid hl) (s1.free hl) ag
def ks50:List RK:=[.Unlike,.Joined,.Count,.Ring,.Rising,.NoSquare,.Sum,.Seen,.Unlike,.Ring]
theorem GC{i:Int}(h0:0<=i)(h1:i<10):∃ k:RK,k≠.Rule/\atI (ks50.map fun k=>V.str (tx (nmC k))) i=some (V.str (tx (nmC k))):=by
 have e:i=0\/i=1\/i=2\/i=3\/i=4\/i=5\/i=6\/i=7\/i=8\/i=9:=by omega
 rcases e with rfl | rfl | rfl | rfl | rfl | rfl | rfl | rfl | rfl | rfl
 . exact⟨.Unlike,by decide,rfl⟩
 . exact⟨.Joined,by decide,rfl⟩
 . exact⟨.Count,by decide,rfl⟩
 . exact⟨.Ring,by decide,rfl⟩
 . exact⟨.Rising,by decide,rfl⟩
 . exact⟨.NoSquare,by decide,rfl⟩
 . exact⟨.Sum,by decide,rfl⟩
 . exact⟨.Seen,by decide,rfl⟩
 . exact⟨.Unlike,by decide,rfl⟩
 . exact⟨.Ring,by decide,rfl⟩
theorem Iu(k:RK):decide (tx (nmC k)=tx [117,110,108,105,107,101])=decide (k=.Unlike):=by cases k <;> decide+kernel
def lg(K:Frag):Sp:=fun vs H Q _=>∃(y h w g:Int),vs=[.int y,.int (h*w),.int g]/\0<=y/\FlOk h w g/\1<=h*w/\∀(r:RR) (H':Hp),Same H H'->r.Ok h w g->Q (.str r.txt) H'
def uI(K:Frag):TS:=
 (tRet (tBM K "str" oB (tC (.str (tx [32]))) (tCons (tOp cAdd (tLst (tCons (tVar 3) tNil)) (tComp [none,none] (iList K (tOp cAdd (tVar 5) (tVar 4))) (gName 1) tTrue (tCB kStr (tCons (tVar 1) tNil)))) tNil)))
def uJ(K:Frag):TS:=
 (tSeq (tIfS (tTest (tOp (cEq K) (tVar 3) (tC (.str (tx [115,117,109]))))) (tAsg (tLst (tCons (tOp cAdd (tCB kLen (tCons (tVar 4) tNil)) (tOp cMod (tOp cDiv (tVar 0) (tC (.int 70))) (tOp cAdd (tCB kLen (tCons (tVar 4) tNil)) (tC (.int 1))))) tNil)) (gName 5)) tNext)
  (tSeq (tIfS (tTest (tOp (cEq K) (tVar 3) (tC (.str (tx [115,101,101,110]))))) (tAsg (tLst (tCons (tOp cAdd (tC (.int 1)) (tOp cMod (tOp cDiv (tVar 0) (tC (.int 70))) (tC (.int 2)))) tNil)) (gName 5)) tNext)
  (tSeq (tIfS (tTest (tOp (cEq K) (tVar 3) (tC (.str (tx [99,111,117,110,116]))))) (tAsg (tLst (tCons (tOp cMod (tOp cDiv (tVar 0) (tC (.int 70))) (tOp cAdd (tCB kLen (tCons (tVar 4) tNil)) (tC (.int 1)))) (tCons (tOp cAdd (tC (.int 1)) (tOp cMod (tOp cDiv (tVar 0) (tC (.int 30))) (tVar 2))) tNil))) (gName 5)) tNext)
  (uI K))))
def iC(K:Frag):TS:=
 (tSeq (tAsg (tLst tNil) (gName 5))
  (uJ K))
def mw(K:Frag):TS:=
 (tSeq (tAsg (tSl j3 (tCall (fT K) [] E0 (tCons (tOp cDiv (tVar 0) (tC (.int 10))) (tCons (tVar 1) tNil))) eI (tPart (tOp cAdd (tC (.int 1)) (tOp cMod (tOp cDiv (tVar 0) (tC (.int 60))) (tVar 1))))) (gName 4))
  (tSeq (tIfS (tAnd (tTest (tOp (cEq K) (tVar 3) (tC (.str (tx [117,110,108,105,107,101]))))) (tTest (tOp (cEq K) (tOp cMod (tOp cDiv (tVar 0) (tC (.int 400))) (tC (.int 2))) (tC (.int 0))))) (tAsg (tSl j3 (tVar 4) eI (tPart (tVar 2))) (gName 4)) tNext)
  (iC K)))
def mx(K:Frag):TS:=
 (tSeq (tIfS (tTest (tOp (cIn K false) (tVar 3) (tTup (tCons (tC (.str (tx [106,111,105,110,101,100]))) (tCons (tC (.str (tx [114,105,110,103]))) (tCons (tC (.str (tx [110,111,115,113,117,97,114,101]))) tNil)))))) (tRet (tOp cAdd (tOp cAdd (tVar 3) (tC (.str (tx [32])))) (tCB kStr (tCons (tOp cAdd (tC (.int 1)) (tOp cMod (tOp cDiv (tVar 0) (tC (.int 10))) (tVar 2))) tNil)))) tNext)
  (mw K))
def li(K:Frag):TS:=
 (tSeq (tAsg (tOp cIx (tLst (tCons (tC (.str (tx [117,110,108,105,107,101]))) (tCons (tC (.str (tx [106,111,105,110,101,100]))) (tCons (tC (.str (tx [99,111,117,110,116]))) (tCons (tC (.str (tx [114,105,110,103]))) (tCons (tC (.str (tx [114,105,115,105,110,103]))) (tCons (tC (.str (tx [110,111,115,113,117,97,114,101]))) (tCons (tC (.str (tx [115,117,109]))) (tCons (tC (.str (tx [115,101,101,110]))) (tCons (tC (.str (tx [117,110,108,105,107,101]))) (tCons (tC (.str (tx [114,105,110,103]))) tNil))))))))))) (tOp cMod (tVar 0) (tC (.int 10)))) (gName 3))
  (mx K))
theorem y4(h:lg K vs H Q E):li K (eD9 Q) (start ["_law_cell","_law_many","_law_signs","_law_word","_law_order_here","_law_numbers"] vs) H:=by
 obtain⟨y,h,w,g,rfl,y0,F,mp,q⟩:=h;have g0:=F.g0;have g1:=F.g1;have m16:=F.m;show li K _ [some (.int y),some (.int (h*w)),some (.int g),none,none,none] H;unfold li;symm;refine⟨lnR rfl,fun U hU=>?_⟩;have s1:Same H (upd H U (.lst (ks50.map fun k=>V.str (tx (nmC k))))):=(LQ H).laid hU;have eU:(upd H U (.lst (ks50.map fun k=>V.str (tx (nmC k))))) U=some (.lst (ks50.map fun k=>V.str (tx (nmC k)))):=ag;refine⟨by decide,?_⟩;show cIx (V.ref U) (V.int (y%10)) (upd H U (.lst (ks50.map fun k=>V.str (tx (nmC k))))) _;generalize upd H U (.lst (ks50.map fun k=>V.str (tx (nmC k))))=H1 at*;obtain⟨k,k0,ek⟩:=GC (i:=y%10) (MC _ (by decide)) (Mu _ (by decide));refine ixL eU ek ?_;unfold mx;rw[aD,ax];symm;refine⟨lnR rfl,fun T hT=>?_⟩;have s2:Same H1 (upd H1 T (.tup ([tx [106,111,105,110,101,100],tx [114,105,110,103],tx [110,111,115,113,117,97,114,101]].map V.str))):=(LQ H1).laid hT;have eT:(upd H1 T (.tup ([tx [106,111,105,110,101,100],tx [114,105,110,103],tx [110,111,115,113,117,97,114,101]].map V.str))) T=some (.tup ([tx [106,111,105,110,101,100],tx [114,105,110,103],tx [110,111,115,113,117,97,114,101]].map V.str)):=ag;show cIn K false (V.str (tx (nmC k))) (V.ref T) (upd H1 T (.tup ([tx [106,111,105,110,101,100],tx [114,105,110,103],tx [110,111,115,113,117,97,114,101]].map V.str))) _;generalize upd H1 T (.tup ([tx [106,111,105,110,101,100],tx [114,105,110,103],tx [110,111,115,113,117,97,114,101]].map V.str))=H2 at*;rw[Av eT,Im];have s12:=s1.trans s2
 cases ha:allK k with
 | true=>
  have hs:sgnK k=true:=by revert ha;cases k <;> intro ha <;> first | rfl | (cases ha;done)
  have hk:numK k=false:=by revert ha;cases k <;> intro ha <;> first | rfl | (cases ha;done)
  have kl:=B2 k;have b0:=MC (y/10) (show g≠0 by omega);have b1:=Mu (y/10) (show 0<g by omega);refine⟨true,rfl,iteT ?_⟩;symm;have t:=toSA (i:=1+y/10%g) (by omega) (by omega);rw[t.1,vq,vq];have nl:=sV (n:=(1+y/10%g).toNat);refine⟨by rw[f8,f8];exact aQ (by simp;omega),⟨by decide,by decide⟩,by omega,t.2,by rw[f8,f8];exact aQ (by simp;omega),?_⟩
  have e:nmC k++[32]++numC (1+y/10%g).toNat=catL 32 (rowW k 0 (1+y/10%g).toNat []):=by
   unfold rowW;rw[hk,hs];show _=nmC k++32::numC (1+y/10%g).toNat;simp
  rw[e];exact q ⟨k,0,(1+y/10%g).toNat,[],rngL 0 (h*w)⟩ H2 s12 (DY ha k0 hk hs (by omega) (by omega))
 | false=>
  refine⟨false,rfl,iteF ?_⟩;unfold mw;symm;refine⟨⟨by decide,by decide⟩,?_⟩;refine⟨_,h*w,rfl,by omega,m16,fun O H3 cs s3 hO eO nd lt len=>?_⟩;have b0:=MC (y/60) (show h*w≠0 by omega);have b1:=Mu (y/60) (show 0<h*w by omega);symm;refine⟨⟨by decide,by decide⟩,by omega,?_⟩;generalize y/60 % (h*w)=x at*;refine pK eO fun O2 hO2=>?_;rw[pX _ (by omega),uG];obtain⟨H4,z9,s4,e4⟩:=aU (.lst (nsV (cs.take (1+x).toNat))) hO2;rw[z9];have tl:(cs.take (1+x).toNat).length=(1+x).toNat:=by rw[M0];omega
  have fin:∀(O3:Addr) (ds:List Nat) (H5:Hp),Same H H5->H5 O3=some (.lst (nsV ds))->ds≠[]->ds.Sublist cs->iC K (eD9 Q) [some (.int y),some (.int (h*w)),some (.int g),some (.str (tx (nmC k))),some (.ref O3),none] H5:=fun O3 ds H5 s5 e5 ne sub=>by
   unfold iC;symm;refine⟨aQ (by decide),fun N hN=>?_⟩;obtain⟨H6,z9,s6,e6⟩:∃ z,upd H5 N (.lst [])=z/\Same H5 z/\z N=some (.lst (nsV [])):=aU _ hN;rw[z9];have dl:=sub.length_le;exact Bp y0 F (s6 _ _ e5) e6 ne (fun c hc=>lt c (sub.subset hc)) (nd.sublist sub) (by omega) ha k0 fun r H' s' ok=>q r H' ((s5.trans s6).trans s') ok
  have ne1:cs.take (1+x).toNat≠[]:=fun e=>by rw[e] at tl;simp at tl;omega
  have s14:=(s12.trans s3).trans s4;rw[ax];symm;rw[Iu];by_cases e1:k=.Unlike
  . rw[LU e1];symm;refine⟨⟨by decide,by decide⟩,by decide,?_⟩
    cases decide (y/400%2=0) with
    | false=>
     refine iteF ?_;exact fin O2 _ H4 s14 e4 ne1 (NT _ _)
    | true=>
     refine iteT ?_;symm;refine pK e4 fun O3 hO3=>?_;rw[pX _ (by omega),uG];refine fin O3 _ _ (s14.trans ((LQ H4).laid hO3)) ag (fun e=>?_) ((NT _ _).trans (NT _ _));have:=congrArg List.length e;rw[M0,tl] at this;simp at this;omega
  . rw[LR e1];symm;exact fin O2 _ H4 s14 e4 ne1 (NT _ _)
def iD(K:Frag)(c:RCl RK)(d:RCl PzK):Sp:=fun vs H Q _=>∃(a:Addr) (ns:List Int) (n h w g:Int),vs=[.ref a,.int h,.int w,.int g,.int n]/\SqL K H a (ns.map V.int)/\ns.length<=63/\FlOk h w g/\0<=n/\n<=4/\(∀ k,k≠.Rule->c.ok k=true)/\d.ok .Puzzle=true/\∀(P L G:Addr) (LC:List RR) (cl:List Int) (H':Hp),Same H H'->IsPz H' c d P L G h w g LC cl->(LC.length:Int)=n->Q (.ref P) H'
def ft(K:Frag)(c:RCl RK)(d:RCl PzK):TS:=
 (tSeq (tAsg (tLst tNil) (gName 8))
  (tSeq (tFor (dP (tCons (tVar 5) tNil)) (gName 6)
  (tSeq (tAsg (tOp cMod (tOp cMul (tOp cAdd (tCall (b5 K) [] E0 (tCons (tVar 0) (tCons (tOp cAdd (tC (.int 4)) (tVar 6)) tNil))) (tOp cMul (tOp cMul (tC (.int 79)) (tVar 6)) (tVar 6))) (tC (.int 16807))) (tC (.int 50021))) (gName 9))
  (tDrop (tBM K "list" bD (tVar 8) (tCons (tOp cIx (tLst (tCons (tC (.int 0)) (tCons (tC (.int 0)) (tCons (tC (.int 0)) (tCons (tOp cAdd (tC (.int 1)) (tOp cMod (tOp cDiv (tVar 9) (tC (.int 4))) (tVar 3))) tNil))))) (tOp cMod (tVar 9) (tC (.int 4)))) tNil)))))
  (tRet (tMake (d.A .Puzzle) (bZ K c d) [] E0 (tCons (tTup (tCons (tVar 1) (tCons (tVar 2) (tCons (tVar 3) tNil)))) (tCons (tVar 7) (tCons (tVar 8) tNil)))))))
def iE(K:Frag)(c:RCl RK)(d:RCl PzK):TS:=
 (tSeq (tAsg (tOp cMul (tVar 1) (tVar 2)) (gName 5))
  (tSeq (sComp 7 [none,none,some 5,some 0,some 3] (dP (tCons (tVar 4) tNil)) (gName 1) tTrue (tCall (lg K) [] E0 (tCons (tOp cMod (tOp cMul (tOp cAdd (tCall (b5 K) [] E0 (tCons (tVar 3) (tCons (tOp cAdd (tC (.int 1)) (tVar 1)) tNil))) (tOp cMul (tC (.int 73)) (tVar 1))) (tC (.int 48271))) (tC (.int 1000003))) (tCons (tVar 2) (tCons (tVar 4) tNil)))))
  (ft K c d)))
variable{c:RCl RK}{d:RCl PzK}{a:Addr}{ns:List Int}{LC:List RR}
theorem xK{R:Addr}{h w g:Int}{v4 v6:Option V}(hS:SqL K H a (ns.map V.int))(hn:ns.length<=63)(F:FlOk h w g)(eR:H R=some (.lst ((LC.map RR.txt).map V.str)))(Ro:bn c h w g LC)(ok:d.ok .Puzzle=true)(q:∀(P L G:Addr) (cl:List Int) (H':Hp),Same H H'->IsPz H' c d P L G h w g LC cl->Q (.ref P) H'):
  ft K c d (eD9 Q) [some (.ref a),some (.int h),some (.int w),some (.int g),v4,some (.int (h*w)),v6,some (.ref R),none,none] H:=by
 obtain⟨h0,h1,w0,w1,m16,g0,g1⟩:=id F;have mpos:1<=h*w:=PV (by omega) (Int.mul_le_mul h0 w0 (by omega) (by omega));unfold ft;symm;refine⟨aQ (by decide),fun C hC=>?_⟩;obtain⟨H1,z9,s1,eC⟩:∃ z,upd H C (.lst [])=z/\Same H z/\z C=some (.lst (([]:List Int).map V.int)):=aU _ hC;rw[z9];refine⟨h*w,rfl,by omega,by omega,?_⟩;refine dN (fun i σ H'=>∃(v6 v9:Option V) (cl:List Int),σ=[some (.ref a),some (.int h),some (.int w),some (.int g),v4,some (.int (h*w)),v6,some (.ref R),some (.ref C),v9]/\Same H H'/\H' C=some (.lst (cl.map V.int))/\cl.length=i/\∀ x∈cl,0<=x/\x<=g) ⟨_,_,[],rfl,s1,eC,rfl,fun x hx=>by cases hx⟩ ?_ ?_
 . rintro i σ H2 hi ⟨v6,v9,cl,rfl,s2,e2,cn,cx⟩;have hil:i < (h*w).toNat:=hi;rw[Nl];symm;refine⟨a,ns,_,rfl,s2.seq hS,hn,by omega,by omega,?_⟩;symm;refine⟨.inl ⟨by decide,by decide⟩,.inl ⟨by omega,by omega⟩,.inr ⟨by decide,by decide⟩,by decide,?_⟩;generalize (xJ ns (4+(i:Int))+79*(i:Int)*(i:Int))*16807%50021=y at*;refine⟨bd e2,⟨by decide,by decide⟩,?_⟩;have b0:=MC (y/4) (show g≠0 by omega);have b1:=Mu (y/4) (show 0<g by omega);generalize y/4%g=x at*;refine⟨by omega,lnR rfl,fun U hU=>?_⟩;obtain⟨H3,z9,s3,eU⟩:∃ z,upd H2 U (.lst [V.int 0,V.int 0,V.int 0,V.int (1+x)])=z/\Same H2 z/\z U=some (.lst (([0,0,0,1+x]:List Int).map V.int)):=aU _ hU;rw[z9];have c0:=MC y (show(4:Int)≠0 by decide);have c1:=Mu y (show(0:Int)<4 by decide);refine⟨by decide,?_⟩;refine ixI eU c0 (by show _ < (4:Int);omega) ?_
   have vb:0<=([0,0,0,1+x]:List Int).getD (y%4).toNat 0/\([0,0,0,1+x]:List Int).getD (y%4).toNat 0<=g:=by
    have e:(y%4).toNat=0\/(y%4).toNat=1\/(y%4).toNat=2\/(y%4).toNat=3:=by omega
    rcases e with e | e | e | e <;> rw[e]
    . exact⟨by show(0:Int)<=0;decide,by show(0:Int)<=g;omega⟩
    . exact⟨by show(0:Int)<=0;decide,by show(0:Int)<=g;omega⟩
    . exact⟨by show(0:Int)<=0;decide,by show(0:Int)<=g;omega⟩
    . exact⟨by show(0:Int)<=1+x;omega,by show 1+x<=g;omega⟩
   generalize ([0,0,0,1+x]:List Int).getD (y%4).toNat 0=v at*;symm;rw[dW (s3 _ _ e2)];refine⟨by rw[LM];exact aE (by omega),_,_,cl++[v],rfl,(s2.trans s3).own hC,by rw[ag];simp,by simp[cn],fun z hz=>?_⟩;rcases Ml.mp hz with hz | hz
   . exact cx z hz
   . rw[L0.mp hz];exact vb
 . rintro σ H2 ⟨v6,v9,cl,rfl,s2,e2,cn,cx⟩;symm;refine⟨lnR rfl,fun p hp=>?_⟩;have s3:Same H2 (upd H2 p (.tup [V.int h,V.int w,V.int g])):=(LQ H2).laid hp;have ep:IsFl (upd H2 p (.tup [V.int h,V.int w,V.int g])) p h w g:=ag;generalize upd H2 p (.tup [V.int h,V.int w,V.int g])=H3 at*;exact Hj ok ep ((s2.trans s3) _ _ eR) (s3 _ _ e2) Ro ⟨cn,cx⟩ fun P L G H4 s4 _ _ _ pz=>q P L G cl H4 ((s2.trans s3).trans s4) pz
theorem uK(h:iD K c d vs H Q E):iE K c d (eD9 Q) (start ["_law_script","_law_high","_law_wide","_law_signs","_law_rules","_law_many","_law_k","_law_rows","_law_clues","_law_cell"] vs) H:=by
 obtain⟨a,ns,n,h,w,g,rfl,hS,hn,F,n0,n4,hk,ok,q⟩:=h;obtain⟨h0,h1,w0,w1,m16,g0,g1⟩:=id F;have mpos:1<=h*w:=PV (by omega) (Int.mul_le_mul h0 w0 (by omega) (by omega));show iE K c d _ [some (.ref a),some (.int h),some (.int w),some (.int g),some (.int n),none,none,none,none,none] H;unfold iE;symm;refine⟨mP h0 h1,n,rfl,by omega,by omega,?_⟩;refine Eb (h:=h) (w:=w) (g:=g) F (by omega) hk ?_ ?_
 . intro i H3 Q3 hi s3 k3;have hi4:i<4:=by omega
   show tCall _ _ _ _ [none,some (.int (0+(i:Int))),some (.int (h*w)),some (.ref a),some (.int g)] H3 Q3;rw[Nl];symm;refine⟨a,ns,_,rfl,s3.seq hS,hn,by omega,by omega,?_⟩;symm;refine⟨.inl ⟨by decide,by decide⟩,.inr ⟨by decide,by decide⟩,by decide,?_⟩;exact⟨_,h,w,g,rfl,MC _ (by decide),F,mpos,k3⟩
 . intro R LC H3 hR s3 eR LJ Ro;exact xK (s3.seq hS) hn F eR Ro ok fun P L G cl H' s' pz=>q P L G LC cl H' (s3.trans s') pz (by omega)
def jK(K:Frag):Sp:=fun vs H Q _=>∃(a:Addr) (ns:List Int) (m g:Int),vs=[.ref a,.int m,.int g]/\SqL K H a (ns.map V.int)/\ns.length<=63/\1<=m/\m<=16/\2<=g/\g<=3/\∀(l:Addr) (ms:List Int) (H':Hp),Same H H'->H l=none->H' l=some (.lst (ms.map V.int))->MkP g m.toNat ms->Q (.ref l) H'
def kF(K:Frag):TS:=
 (tSeq (tAsg (tOp cMod (tOp cMul (tCall (b5 K) [] E0 (tCons (tVar 0) (tCons (tC (.int 16)) tNil))) (tC (.int 69621))) (tC (.int 50021))) (gName 5))
  (tSeq (tIfS (tTest (tOp (cEq K) (tOp cMod (tVar 5) (tC (.int 7))) (tC (.int 6)))) (tAsg (tC (.int 0)) (gSub (tVar 3) (tOp cMod (tOp cDiv (tVar 5) (tC (.int 7))) (tVar 1)) cPut)) tNext)
  (tRet (tVar 3))))
def jL(K:Frag):TS:=
 (tSeq (tAsg (tLst tNil) (gName 3))
  (tSeq (tFor (dP (tCons (tVar 1) tNil)) (gName 4)
  (tSeq (tAsg (tOp cMod (tOp cMul (tOp cAdd (tCall (b5 K) [] E0 (tCons (tVar 0) (tCons (tOp cAdd (tC (.int 10)) (tVar 4)) tNil))) (tOp cMul (tOp cMul (tC (.int 83)) (tVar 4)) (tVar 4))) (tC (.int 30011))) (tC (.int 65521))) (gName 5))
  (tDrop (tBM K "list" bD (tVar 3) (tCons (tOp cAdd (tC (.int 1)) (tOp cMod (tVar 5) (tOp cSub (tOp cIx (tLst (tCons (tC (.int 1)) (tCons (tC (.int 2)) (tCons (tC (.int 4)) (tCons (tC (.int 8)) tNil))))) (tVar 2)) (tC (.int 1))))) tNil)))))
  (kF K)))
theorem wn(h:jK K vs H Q E):jL K (eD9 Q) (start ["_law_script","_law_many","_law_signs","_law_masks_here","_law_k","_law_cell"] vs) H:=by
 obtain⟨a,ns,m,g,rfl,hS,hn,m0,m1,g2,g3,q⟩:=h;show jL K _ [some (.ref a),some (.int m),some (.int g),none,none,none] H;unfold jL;symm
 have wb:([1,2,4,8]:List Int).getD g.toNat 0=2^g.toNat/\(4:Int)<=2^g.toNat/\(2:Int)^g.toNat<=8:=by
  have e:g=2\/g=3:=by omega
  rcases e with rfl | rfl <;> decide
 obtain⟨we,w4,w8⟩:=wb;obtain⟨pw,epw⟩:∃ pw:Int,pw=2^g.toNat:=⟨_,rfl⟩;rw[← epw] at we w4 w8;refine⟨aQ (by decide),fun C hC=>?_⟩;obtain⟨H2,z9,s2,eC⟩:∃ z,upd H C (.lst [])=z/\Same H z/\z C=some (.lst (([]:List Int).map V.int)):=aU _ hC;rw[z9];refine⟨m,rfl,by omega,by omega,?_⟩;refine dN (fun i σ H'=>∃(v4 v5:Option V) (cl:List Int),σ=[some (.ref a),some (.int m),some (.int g),some (.ref C),v4,v5]/\Same H H'/\H' C=some (.lst (cl.map V.int))/\cl.length=i/\∀ x∈cl,0<=x/\x<pw) ⟨_,_,[],rfl,s2,eC,rfl,fun x hx=>by cases hx⟩ ?_ ?_
 . rintro i σ H3 hi ⟨v4,v5,cl,rfl,s3,e3,cn,cx⟩;have hil:i<m.toNat:=hi;rw[Nl];symm;refine⟨a,ns,_,rfl,s3.seq hS,hn,by omega,by omega,?_⟩;symm;refine⟨.inl ⟨by decide,by decide⟩,.inl ⟨by omega,by omega⟩,.inr ⟨by decide,by decide⟩,by decide,?_⟩;generalize (xJ ns (10+(i:Int))+83*(i:Int)*(i:Int))*30011%65521=y at*;refine⟨bd e3,lnR rfl,fun V1 hV=>?_⟩;obtain⟨H4,z9,s4,eV⟩:∃ z,upd H3 V1 (.lst [V.int 1,V.int 2,V.int 4,V.int 8])=z/\Same H3 z/\z V1=some (.lst (([1,2,4,8]:List Int).map V.int)):=aU _ hV;rw[z9];refine ixI eV (by omega) (by show _ < (4:Int);omega) ?_;rw[we];symm;have b0:=MC y (show pw-1≠0 by omega);have b1:=Mu y (show 0<pw-1 by omega);refine⟨by omega,?_⟩;generalize y % (pw-1)=x at*;rw[dW (s4 _ _ e3)];refine⟨by rw[LM];exact aE (by omega),_,_,cl++[1+x],rfl,(s3.trans s4).own hC,by rw[ag];simp,by simp[cn],fun z hz=>?_⟩;rcases Ml.mp hz with hz | hz
   . exact cx z hz
   . rw[L0.mp hz];omega
 . rintro σ H3 ⟨v4,v5,cl,rfl,s3,e3,cn,cx⟩;rw[epw] at cx;unfold kF;symm;refine⟨a,ns,16,rfl,s3.seq hS,hn,by decide,by decide,?_⟩;symm;refine⟨.inr ⟨by decide,by decide⟩,by decide,?_⟩;generalize xJ ns 16*69621%50021=y at*;rw[ax];symm;refine⟨by decide,?_⟩
   cases decide (y%7=6) with
   | false=>
    refine iteF ?_;symm;exact q C cl H3 s3 hC e3 ⟨cn,cx⟩
   | true=>
    refine iteT ?_;symm;have c0:=MC (y/7) (show m≠0 by omega);have c1:=Mu (y/7) (show 0<m by omega);refine⟨⟨by decide,by decide⟩,by omega,?_⟩;refine Ic e3 c0 (by rw[LM];omega) ?_;rw[Ba];symm;refine q C (cl.set (y/7%m).toNat 0) _ (s3.own hC) hC ag ⟨by rw[List.length_set];exact cn,fun x hx=>?_⟩;rcases List.mem_or_eq_of_mem_set hx with hx | rfl
    . exact cx x hx
    . omega
def jM(K:Frag)(c:RCl RK)(d:RCl PzK):Sp:=fun vs H Q _=>∃(P L G A Kd:Addr) (h w g R:Int) (LC:List RR) (cl LA:List Int) (ks:List TK),vs=[.ref P,.ref A,.ref Kd,.int g,.int R]/\Lk H c d P L G A h w g LC cl LA/\KdL H Kd ks/\g<=3/\h*w<=9/\R=(LC.length:Int)/\
 (∀(T M:Addr) (th:Tho) (H':Hp),Same H H'->IsTh H' T M th.t th.r th.z th.s th.ms->Fst50 h w g LC cl LA ks th->Q (.ref T) H')/\
 ((∀ th,¬ b4 h w g LC cl LA ks th)->∀ H',Same H H'->Q .non H')
theorem CN{k:Nat}{ix:List (Option Nat)}{tl:TE}{g:TG}{tt:TT}{te:TE}{D:Ends}{σ:St}:sComp k ix (iTup K tl) g tt te D σ H=tl σ H fun x H1=>∃ a,x=.ref a/\(∃ xs,SqT K H1 a xs)/\CompR (Itt K a) g tt te (fun l H'=>D.nx (σ.set k (some (.ref l))) H') (subσ ix σ) H1:=rfl
theorem GD{p:Addr}{s:Str}{ws:List Str}(h:H p=some (.lst (ws.map V.str))):cIn K false (.str s) (.ref p) H Q=Q (.bl (decide (s∈ws))) H:=by
 unfold cIn;dsimp only;rw[h];dsimp only[unD,unS,bnd];rw[h9,gc];simp[flatV]
def fi1(K:Frag)(c:RCl RK)(d:RCl PzK):TS:=
 (tFor (iList K (tVar 7)) (gName 11)
  (tIfS (tB (tCall (oj K c d) [] E0 (tCons (tVar 0) (tCons (tVar 1) (tCons (tTup (tCons (tVar 5) (tCons (tVar 8) (tCons (tOp cDiv (tVar 9) (tVar 3)) (tCons (tVar 10) (tCons (tVar 11) tNil)))))) tNil))))) (tRet (tTup (tCons (tVar 5) (tCons (tVar 8) (tCons (tOp cDiv (tVar 9) (tVar 3)) (tCons (tVar 10) (tCons (tVar 11) tNil))))))) tNext))
def fi2(K:Frag)(c:RCl RK)(d:RCl PzK):TS:=
 (tFor (dP (tCons (tOp cMul (tCB kLen (tCons (tVar 1) tNil)) (tVar 3)) tNil)) (gName 9)
  (tSeq (tAsg (tOp cAdd (tC (.int 1)) (tOp cMod (tVar 9) (tVar 3))) (gName 10))
  (tIfS (tTest (tOp (cEq K) (tOp cMod (tOp cDiv (tOp cIx (tVar 1) (tOp cDiv (tVar 9) (tVar 3))) (tOp cIx (tLst (tCons (tC (.int 1)) (tCons (tC (.int 2)) (tCons (tC (.int 4)) tNil)))) (tOp cSub (tVar 10) (tC (.int 1))))) (tC (.int 2))) (tC (.int 1)))) (fi1 K c d) tNext)))
def fi3(K:Frag)(c:RCl RK)(d:RCl PzK):TS:=
 (tFor (dP (tCons (tOp cIx (tLst (tCons (tVar 4) (tCons (tC (.int 1)) tNil))) (tCB pP (tCons (tOp (cEq K) (tVar 5) (tC (.str (tx [99,108,117,101])))) tNil))) tNil)) (gName 8)
  (fi2 K c d))
def kG(K:Frag)(c:RCl RK)(d:RCl PzK):TS:=
 (tSeq (tFor (iList K (tVar 6)) (gName 5)
  (tSeq (tAsg (tCall (jH K) [] E0 (tCons (tVar 5) (tCons (tCB kLen (tCons (tVar 1) tNil)) (tCons (tVar 3) tNil)))) (gName 7))
  (fi3 K c d)))
  (tRet (tC .non)))
def jN(K:Frag)(c:RCl RK)(d:RCl PzK):TS:=
 (tSeq (sComp 6 [none,none,some 2] (iTup K (tCall (dn K) [] E0 tNil)) (gName 1) (tTest (tOp (cIn K false) (tVar 1) (tVar 2))) (tVar 1))
  (kG K c d))
section
variable{K:Frag}{c:RCl RK}{d:RCl PzK}{Hs:Hp}{P L G A Kd W L7:Addr}{h w g R:Int}{LC:List RR}{cl LA:List Int}{ks:List TK}{t:TK}{as:List Addr}
theorem HF {H:Hp} {D:Ends} {r k:Int} {v11:Option V} (X:Lk Hs c d P L G A h w g LC cl LA) (g3:g<=3) (n9:h*w<=9) (k0:0<=k) (s0:Same Hs H) (Y:IsLL Hs L7 as (lmF t (h*w).toNat g)) (tk:t∈ks) (sb:stB (LA.getD (k/g).toNat 0) (1+k%g)=true)
  (yes:∀(T M:Addr) (ms:List Int) (H':Hp),Same Hs H'->IsTh H' T M t r (k/g) (1+k%g) ms->b4 h w g LC cl LA ks ⟨t,r,k/g,1+k%g,ms⟩->(∀ th',b4 h w g LC cl LA ks th'->th'.t=t->th'.r=r->th'.z=k/g->th'.s=1+k%g->ky ms<=ky th'.ms)->D.rt (.ref T) H')
  (no:(∀ th',b4 h w g LC cl LA ks th'->th'.t=t->th'.r=r->th'.z=k/g->th'.s=1+k%g->False)->∀(H':Hp) (v11:Option V),Same Hs H'->D.nx [some (.ref P),some (.ref A),some (.ref Kd),some (.int g),some (.int R),some (.str (txk t)),some (.ref W),some (.ref L7),some (.int r),some (.int k),some (.int (1+k%g)),v11] H'):
  fi1 K c d D [some (.ref P),some (.ref A),some (.ref Kd),some (.int g),some (.int R),some (.str (txk t)),some (.ref W),some (.ref L7),some (.int r),some (.int k),some (.int (1+k%g)),v11] H:=by
 have g0:=X.P.R.F.g0;have g6:=X.P.R.F.g1;have al:=Y.len;have m64:=X.m64;unfold fi1;symm;refine⟨⟨_,Mc (s0 _ _ Y.top)⟩,?_⟩
 refine bq (K:=K) (xs:=as.map V.ref) (fun j σ H'=>∃(v11:Option V),σ=[some (.ref P),some (.ref A),some (.ref Kd),some (.int g),some (.int R),some (.str (txk t)),some (.ref W),some (.ref L7),some (.int r),some (.int k),some (.int (1+k%g)),v11]/\Same Hs H'/\∀ th',b4 h w g LC cl LA ks th'->th'.t=t->th'.r=r->th'.z=k/g->th'.s=1+k%g->th'.ms∈(lmF t (h*w).toNat g).take j->False)
  ⟨v11,rfl,s0,fun _ _ _ _ _ _ hm=>by simp at hm⟩ (fun j σ H' _ ⟨_,_,s,_⟩=>Mc (s _ _ Y.top)) ?_ ?_
 . rintro j v σ H1 hv ⟨v11',rfl,s1,not⟩;obtain⟨M,hM,rfl⟩:=bF hv;have hj:j<as.length:=(LP.mp hM).1;have ex:(lmF t (h*w).toNat g)[j]? =some (lmF t (h*w).toNat g)[j]:=LN (by omega);have eM:=Y.at_ j M _ hM ex;have hin:(lmF t (h*w).toNat g)[j]∈lmF t (h*w).toNat g:=Mp _
   have later:∀ x∈lmF t (h*w).toNat g,x∉(lmF t (h*w).toNat g).take j->ky (lmF t (h*w).toNat g)[j]<=ky x:=fun x hx nx=>by
    obtain⟨i,hi,ei⟩:=N6 hx;rcases Pb i j with q | q | q
    . exact absurd (NY.mpr ⟨i,by omega,ei⟩) nx
    . subst q;rw[ei];exact ND _
    . have:=NZ.mp (B5 (t:=t) (n:=(h*w).toNat) (g:=g) (by omega)) j i (by omega) hi q;rw[ei] at this;omega
   have et:(lmF t (h*w).toNat g).take (j+1)=(lmF t (h*w).toNat g).take j++[(lmF t (h*w).toNat g)[j]]:=by rw[Ni,ex];rfl
   rw[et];generalize (lmF t (h*w).toNat g)[j]=ms at*;symm;rw[ax];symm;refine⟨⟨by omega,by omega⟩,lnR rfl,fun T hT=>?_⟩;have s2:Same H1 (upd H1 T (.tup [.str (txk t),.int r,.int (k/g),.int (1+k%g),.ref M])):=(LQ H1).laid hT;have iT:IsTh (upd H1 T (.tup [.str (txk t),.int r,.int (k/g),.int (1+k%g),.ref M])) T M t r (k/g) (1+k%g) ms:=⟨ag,s2 _ _ (s1 _ _ eM),L8 (Fr hin) (by decide)⟩;generalize upd H1 T (.tup [.str (txk t),.int r,.int (k/g),.int (1+k%g),.ref M])=H2 at*;have s12:=s1.trans s2;refine⟨P,L,G,A,T,M,h,w,g,LC,cl,LA,t,r,k/g,1+k%g,ms,rfl,⟨X.P.same s12,iT,s12 _ _ X.A,X.n⟩,m64,fun H3 s3=>⟨_,rfl,?_⟩⟩
   cases ha:alwA h w g LC cl LA t r (k/g) (1+k%g) ms with
   | true=>
    refine iteT ?_;symm;refine⟨⟨by omega,by omega⟩,lnR rfl,fun T2 hT2=>?_⟩;have s4:Same H3 (upd H3 T2 (.tup [.str (txk t),.int r,.int (k/g),.int (1+k%g),.ref M])):=(LQ H3).laid hT2;refine yes T2 M ms _ ((s12.trans s3).trans s4) ⟨ag,s4 _ _ (s3 _ _ iT.M),iT.n⟩ ⟨tk,sb,ha⟩ fun th' ok et er ez es=>?_;refine later _ ?_ fun hx=>not th' ok et er ez es hx;rw[← et];exact(gW X.P.R ok.1 ok.2.2).2.2.2.2
   | false=>
    refine iteF ?_;refine⟨_,rfl,s12.trans s3,fun th' ok et er ez es hm=>?_⟩;rcases Ml.mp hm with hm | hm
    . exact not th' ok et er ez es hm
    . have a:=ok.2.2;rw[et,er,ez,es,L0.mp hm,ha] at a;cases a
 . rintro σ H1 ⟨v11',rfl,s1,not⟩;refine no (fun th' ok et er ez es=>not th' ok et er ez es ?_) H1 v11' s1;rw[LM,al,M6,← et];exact(gW X.P.R ok.1 ok.2.2).2.2.2.2
theorem Iv{g k z s:Int}(g1:0<g)(s0:1<=s)(s1:s<=g)(q:k<=z*g+(s-1)):k/g<=z/\(z=k/g->1+k%g<=s):=by
 have a:k/g<z+1:=Op g1 (by rw[Int.add_mul];omega);refine⟨by omega,fun e=>?_⟩;have:=NS k g;rw[PR] at this;rw[e] at q;omega
theorem HG {H:Hp} {D:Ends} {r:Int} {v9 v10 v11:Option V} (X:Lk Hs c d P L G A h w g LC cl LA) (g3:g<=3) (n9:h*w<=9) (s0:Same Hs H) (Y:IsLL Hs L7 as (lmF t (h*w).toNat g)) (tk:t∈ks)
  (yes:∀(T M:Addr) (th:Tho) (H':Hp),Same Hs H'->IsTh H' T M th.t th.r th.z th.s th.ms->th.t=t->th.r=r->b4 h w g LC cl LA ks th->(∀ th',b4 h w g LC cl LA ks th'->th'.t=t->th'.r=r->th.z<=th'.z/\(th'.z=th.z->th.s<=th'.s)/\(th'.z=th.z->th'.s=th.s->ky th.ms<=ky th'.ms))->D.rt (.ref T) H')
  (no:(∀ th',b4 h w g LC cl LA ks th'->th'.t=t->th'.r=r->False)->∀(H':Hp) (v9 v10 v11:Option V),Same Hs H'->D.nx [some (.ref P),some (.ref A),some (.ref Kd),some (.int g),some (.int R),some (.str (txk t)),some (.ref W),some (.ref L7),some (.int r),v9,v10,v11] H'):
  fi2 K c d D [some (.ref P),some (.ref A),some (.ref Kd),some (.int g),some (.int R),some (.str (txk t)),some (.ref W),some (.ref L7),some (.int r),v9,v10,v11] H:=by
 have g0:=X.P.R.F.g0;have g6:=X.P.R.F.g1;have g1:0<g:=by omega
 obtain⟨n,en⟩:∃ n:Nat,n=LA.length:=⟨_,rfl⟩;have en2:n=(h*w).toNat:=by rw[en,X.n]
 have ng:0<=(n:Int)*g:=NK (by omega) (by omega);have ng2:(n:Int)*g<=27:=PV (OA (show(n:Int)<=9 by omega) (by omega)) (by omega);unfold fi2;symm;rw[bc (s0 _ _ X.A),LM,← en];symm;refine⟨.inr ⟨by omega,by omega⟩,?_⟩;refine⟨(n:Int)*g,rfl,by omega,by omega,?_⟩
 refine dN (fun i σ H'=>∃(v9 v10 v11:Option V),σ=[some (.ref P),some (.ref A),some (.ref Kd),some (.int g),some (.int R),some (.str (txk t)),some (.ref W),some (.ref L7),some (.int r),v9,v10,v11]/\Same Hs H'/\∀ th',b4 h w g LC cl LA ks th'->th'.t=t->th'.r=r->th'.z*g+(th'.s-1)<i->False)
  ⟨v9,v10,v11,rfl,s0,fun th' ok _ _ q=>by
   have u:=gW X.P.R ok.1 ok.2.2;have:=NK u.2.2.1.1 (show 0<=g by omega);have:=u.2.2.2.1.1;omega⟩ ?_ ?_
 . rintro i σ H1 hi ⟨v9,v10,v11,rfl,s1,not⟩;have hi2:(i:Int) < (n:Int)*g:=by omega
   have kd:=Fs (k:=(i:Int)) g1 (by omega) hi2;have m0:=MC (i:Int) (show g≠0 by omega);have m1:=Mu (i:Int) g1;rw[Nl];symm;refine⟨by omega,?_⟩;rw[ax];symm;refine⟨⟨by omega,by omega⟩,?_⟩;refine ixI (s1 _ _ X.A) kd.1 (by omega) ?_;symm;refine⟨lnR rfl,fun U hU=>?_⟩;obtain⟨H2,z9,s2,eU⟩:∃ z,upd H1 U (.lst [V.int 1,V.int 2,V.int 4])=z/\Same H1 z/\z U=some (.lst (([1,2,4]:List Int).map V.int)):=aU _ hU;rw[z9];refine ixI eU (by omega) (by show _ < (3:Int);omega) ?_;have hl:((i:Int)/g).toNat<LA.length:=by omega
   have b:=X.mm _ (bU hl)
   have b8:LA.getD ((i:Int)/g).toNat 0<8:=by
    have p:=Gv g0 g3;omega
   have bp:0 < ([1,2,4]:List Int).getD (1+(i:Int)%g-1).toNat 0/\([1,2,4]:List Int).getD (1+(i:Int)%g-1).toNat 0<=4:=by
    have e:(i:Int)%g=0\/(i:Int)%g=1\/(i:Int)%g=2:=by omega
    rcases e with e | e | e <;> rw[e] <;> decide
   symm;refine⟨⟨bp.1,by omega⟩,by decide,?_⟩;rw[Gu b.1 b8 (by omega) (by omega)]
   have next:(∀ th',b4 h w g LC cl LA ks th'->th'.t=t->th'.r=r->th'.z=(i:Int)/g->th'.s=1+(i:Int)%g->False)->∀ th',b4 h w g LC cl LA ks th'->th'.t=t->th'.r=r->th'.z*g+(th'.s-1) < ((i+1:Nat):Int)->False:=fun nn th' ok et er q=>by
    have u:=gW X.P.R ok.1 ok.2.2;by_cases q2:th'.z*g+(th'.s-1) < (i:Int)
    . exact not th' ok et er q2
    . have e:=(Es (z:=th'.z) (s:=th'.s) (k:=(i:Int)) g1 u.2.2.2.1.1 u.2.2.2.1.2).mp (by omega);exact nn th' ok et er e.1 e.2
   cases hsb:stB (LA.getD ((i:Int)/g).toNat 0) (1+(i:Int)%g) with
   | false=>
    refine iteF ?_;refine⟨_,_,_,rfl,s1.trans s2,next fun th' ok et er ez es=>?_⟩;have:=ok.2.1;rw[ez,es,hsb] at this;cases this
   | true=>
    refine iteT ?_;refine HF (k:=(i:Int)) X g3 n9 (by omega) (s1.trans s2) Y tk hsb (fun T M ms H3 s3 iT ok mn=>?_) (fun nn H3 v11 s3=>⟨_,_,_,rfl,s3,next nn⟩);refine yes T M ⟨t,r,(i:Int)/g,1+(i:Int)%g,ms⟩ H3 s3 iT rfl rfl ok fun th' ok' et er=>?_;have u:=gW X.P.R ok'.1 ok'.2.2
    have q:(i:Int)<=th'.z*g+(th'.s-1):=by
     rcases OR (th'.z*g+(th'.s-1)) (i:Int) with q | q
     . exact(not th' ok' et er q).elim
     . exact q
    have p:=Iv g1 u.2.2.2.1.1 u.2.2.2.1.2 q;exact⟨p.1,p.2,fun ez es=>mn th' ok' et er ez es⟩
 . rintro σ H1 ⟨v9,v10,v11,rfl,s1,not⟩;refine no (fun th' ok et er=>not th' ok et er ?_) H1 v9 v10 v11 s1;have u:=gW X.P.R ok.1 ok.2.2;have:(th'.z+1)*g<=n*g:=OA (by have:=u.2.2.1.2;omega) (by omega);rw[Int.add_mul] at this;have:=u.2.2.2.1.2;omega
theorem HH {H:Hp} {D:Ends} {v8 v9 v10 v11:Option V} (X:Lk Hs c d P L G A h w g LC cl LA) (g3:g<=3) (n9:h*w<=9) (eR:R=(LC.length:Int)) (s0:Same Hs H) (Y:IsLL Hs L7 as (lmF t (h*w).toNat g)) (tk:t∈ks)
  (yes:∀(T M:Addr) (th:Tho) (H':Hp),Same Hs H'->IsTh H' T M th.t th.r th.z th.s th.ms->th.t=t->b4 h w g LC cl LA ks th->(∀ th',b4 h w g LC cl LA ks th'->th'.t=t->th.r<=th'.r/\(th'.r=th.r->th.z<=th'.z)/\(th'.r=th.r->th'.z=th.z->th.s<=th'.s)/\(th'.r=th.r->th'.z=th.z->th'.s=th.s->ky th.ms<=ky th'.ms))->D.rt (.ref T) H')
  (no:(∀ th',b4 h w g LC cl LA ks th'->th'.t=t->False)->∀(H':Hp) (v8 v9 v10 v11:Option V),Same Hs H'->D.nx [some (.ref P),some (.ref A),some (.ref Kd),some (.int g),some (.int R),some (.str (txk t)),some (.ref W),some (.ref L7),v8,v9,v10,v11] H'):
  fi3 K c d D [some (.ref P),some (.ref A),some (.ref Kd),some (.int g),some (.int R),some (.str (txk t)),some (.ref W),some (.ref L7),v8,v9,v10,v11] H:=by
 have rl:=X.P.R.n;unfold fi3;symm;refine⟨lnR rfl,fun Z hZ=>?_⟩;obtain⟨H1,z9,s1,eZ⟩:∃ z,upd H Z (.lst [V.int R,V.int 1])=z/\Same H z/\z Z=some (.lst (([R,1]:List Int).map V.int)):=aU _ hZ;rw[z9];rw[Iq]
 have fin:rtF R t=([R,1]:List Int).getD (if decide (t=.clue) then 1 else 0:Int).toNat 0:=by
  unfold rtF;by_cases e:t=.clue
  . rw[Md e,LU e];rfl
  . rw[L4 e,LR e];rfl
 have rt0:0<=rtF R t/\rtF R t<=12:=by unfold rtF;split <;> omega
 symm;rw[Cl eZ];refine aZ (pM (by split <;> omega) (by split <;> simp)) ?_;rw[← fin];symm;refine⟨rtF R t,rfl,by omega,by omega,?_⟩
 refine dN (fun i σ H'=>∃(v8 v9 v10 v11:Option V),σ=[some (.ref P),some (.ref A),some (.ref Kd),some (.int g),some (.int R),some (.str (txk t)),some (.ref W),some (.ref L7),v8,v9,v10,v11]/\Same Hs H'/\∀ th',b4 h w g LC cl LA ks th'->th'.t=t->th'.r<i->False)
  ⟨v8,v9,v10,v11,rfl,s0.trans s1,fun th' ok _ q=>by
   have u:=gW X.P.R ok.1 ok.2.2;have:=u.2.1.1;omega⟩ ?_ ?_
 . rintro i σ H2 hi ⟨v8,v9,v10,v11,rfl,s2,not⟩;rw[Nl];symm;refine HG (r:=(i:Int)) X g3 n9 s2 Y tk (fun T M th H3 s3 iT et er ok mn=>?_) (fun nn H3 v9 v10 v11 s3=>⟨_,_,_,_,rfl,s3,fun th' ok et q=>?_⟩)
   . refine yes T M th H3 s3 iT et ok fun th' ok' et'=>⟨?_,fun er'=>?_,fun er' ez'=>?_,fun er' ez' es'=>?_⟩
     . rcases OR th'.r (i:Int) with q | q
       . exact(not th' ok' et' q).elim
       . rw[er];exact q
     . exact(mn th' ok' et' (by rw[er',er])).1
     . exact(mn th' ok' et' (by rw[er',er])).2.1 ez'
     . exact(mn th' ok' et' (by rw[er',er])).2.2 ez' es'
   . by_cases q2:th'.r < (i:Int)
     . exact not th' ok et q2
     . exact nn th' ok et (by omega)
 . rintro σ H2 ⟨v8,v9,v10,v11,rfl,s2,not⟩;refine no (fun th' ok et=>not th' ok et ?_) H2 v8 v9 v10 v11 s2;have u:=gW X.P.R ok.1 ok.2.2;have:=u.2.1.2;rw[et,← eR] at this;omega
end
theorem wo(h:jM K c d vs H Q E):jN K c d (eD9 Q) (start ["_law_puzzle_here","_law_masks_here","_law_kinds_here","_law_signs","_law_rules","_law_word","_law_words","_law_mores_here","_law_number","_law_k","_law_sign","_law_more"] vs) H:=by
 obtain⟨P,L,G,A,Kd,h,w,g,R,LC,cl,LA,ks,rfl,X,hK,g3,n9,eR,yes,no⟩:=h;have g0:=X.P.R.F.g0;have g6:=X.P.R.F.g1;show jN K c d _ [some (.ref P),some (.ref A),some (.ref Kd),some (.int g),some (.int R),none,none,none,none,none,none,none] H;unfold jN;rw[aD,CN];symm;refine⟨rfl,fun p H1 s1 hp ep=>?_⟩;have sp:=PM (K:=K) ep;refine⟨p,rfl,⟨_,sp⟩,?_⟩;rw[lG] at sp;refine yw (xs:=allT.map txk) (fun x=>decide (x∈ks.map txk)) (by decide) sp ?_ ?_ ?_
 . intro x H2 R2 hx s2 k2;show tTest _ [none,some (.str x),some (.ref Kd)] H2 R2;symm;rw[GD ((s1.trans s2) _ _ hK)];exact⟨_,rfl,k2 _ (LQ _)⟩
 . intro x H2 Q2 hx hb s2 k2;show tVar 1 [none,some (.str x),some (.ref Kd)] H2 Q2;symm;exact k2 _ (LQ _)
 . intro S H2 hS s2 eS
   have ef:((allT.map txk).filter fun x=>decide (x∈ks.map txk))=(allT.filter fun t=>decide (t∈ks)).map txk:=by
    rw[Oa];refine congrArg _ (List.filter_congr fun t _=>?_);exact B0
   rw[ef] at eS;have s12:=s1.trans s2;have rise:=allT_rise.filter fun t=>decide (t∈ks);have inW:∀ th,b4 h w g LC cl LA ks th->th.t∈allT.filter fun t=>decide (t∈ks):=fun th ok=>LS.mpr ⟨by cases th.t <;> decide,LU ok.1⟩;have inK:∀ t∈allT.filter fun t=>decide (t∈ks),t∈ks:=fun t ht=>LX (LS.mp ht).2;generalize (allT.filter fun t=>decide (t∈ks))=ts at*;unfold kG;symm;refine⟨⟨_,Mc eS⟩,?_⟩
   refine bq (K:=K) (xs:=(ts.map txk).map V.str) (fun i σ H'=>∃(v5 v7 v8 v9 v10 v11:Option V),σ=[some (.ref P),some (.ref A),some (.ref Kd),some (.int g),some (.int R),v5,some (.ref S),v7,v8,v9,v10,v11]/\Same H2 H'/\∀ th',b4 h w g LC cl LA ks th'->th'.t∈ts.take i->False)
    ⟨_,_,_,_,_,_,rfl,LQ H2,fun _ _ hm=>by simp at hm⟩ (fun i σ H' _ ⟨_,_,_,_,_,_,_,s,_⟩=>Mc (s _ _ eS)) ?_ ?_
   . rintro i v σ H3 hv ⟨v5,v7,v8,v9,v10,v11,rfl,s3,not⟩;rw[LW,LW] at hv;obtain⟨u,hu,rfl⟩:=M5.mp hv;obtain⟨t,ht,rfl⟩:=M5.mp hu;have hi:i<ts.length:=(LP.mp ht).1;have et:ts.take (i+1)=ts.take i++[t]:=by rw[Ni,ht];rfl
     have s13:=s12.trans s3;have tk:=inK t (LV ht);symm;rw[bc (s13 _ _ X.A),LM];symm;refine⟨t,LA.length,g,rfl,by rw[X.n];omega,g0,g6,fun L7 as H4 s4 hL hA Y=>?_⟩;rw[X.n] at Y;symm;refine HH (Hs:=H4) ((X.same s13).same s4) g3 n9 eR (LQ H4) Y tk (fun T M th H5 s5 iT tt ok mn=>?_) (fun nn H5 v8 v9 v10 v11 s5=>⟨_,_,_,_,_,_,rfl,(s3.trans s4).trans s5,fun th' ok hm=>?_⟩)
     . refine yes T M th H5 ((s13.trans s4).trans s5) iT ⟨ok,fun th' ok'=>?_,fun th' ok' e1=>?_,fun th' ok' e1 e2=>?_,fun th' ok' e1 e2 e3=>?_,fun th' ok' e1 e2 e3 e4=>?_⟩
       . obtain⟨j,hj,ej⟩:=N6 (inW th' ok');have ei:ts[i]=t:=(LP.mp ht).2;rcases Pb j i with q | q | q
         . exact(not th' ok' (NY.mpr ⟨j,by omega,ej⟩)).elim
         . subst q;rw[tt,← ei,ej];exact Mj _
         . have:=NZ.mp rise i j hi hj q;rw[ei,ej] at this;rw[tt];omega
       . exact(mn th' ok' (by rw[e1,tt])).1
       . exact(mn th' ok' (by rw[e1,tt])).2.1 e2
       . exact(mn th' ok' (by rw[e1,tt])).2.2.1 e2 e3
       . exact(mn th' ok' (by rw[e1,tt])).2.2.2 e2 e3 e4
     . rw[et] at hm;rcases Ml.mp hm with hm | hm
       . exact not th' ok hm
       . exact nn th' ok (L0.mp hm)
   . rintro σ H3 ⟨v5,v7,v8,v9,v10,v11,rfl,s3,not⟩;rw[LM,LM,M6] at not;symm;exact no (fun th ok=>not th ok (inW th ok)) H3 (s12.trans s3)
theorem Eu{n:Nat}(hn:n<11):atI (gt_KINDS.map V.str) (n:Int)=some (V.str (txk (allT.getD n .clue))):=by
 refine dD ?_;rw[lG,LW,LW,LN (show n<allT.length from hn),List.getD,LN (show n<allT.length from hn)];rfl
variable{cs:List Nat}
theorem Ev{i:Nat}{x:V}(e:(nsV cs)[i]? =some x):i<cs.length/\x=V.int ((cs.getD i 0:Nat):Int):=by
 unfold nsV at e;rw[LW,LW] at e
 cases hi:cs[i]? with
 | none=>rw[hi] at e;cases e
 | some y=>
  rw[hi] at e;refine⟨(LP.mp hi).1,?_⟩;rw[List.getD,hi];exact(M9 e).symm
theorem iteT'{b:Bool}{A B:Prop}(e:b=true)(h:A):if b=true then A else B:=by rw[e];exact iteT h
theorem iteF'{b:Bool}{A B:Prop}(e:b=false)(h:B):if b=true then A else B:=by rw[e];exact iteF h
def cc(K:Frag):Sp:=fun vs H Q _=>∃ x y,vs=[x,y]/\((x=.non/\y=.non)\/∃(T M T' M':Addr) (th:Tho),x=.ref T/\y=.ref T'/\IsTh H T M th.t th.r th.z th.s th.ms/\IsTh H T' M' th.t th.r th.z th.s th.ms)/\∀ H',Same H H'->Q (.bl true) H'
def kH(K:Frag):TS:=
 (tSeq (tFor (iList K (tOp cAdd (tLst (tCons (tOp cIx (tVar 0) (tC (.int 1))) (tCons (tOp cIx (tVar 0) (tC (.int 2))) (tCons (tOp cIx (tVar 0) (tC (.int 3))) tNil)))) (tOp cIx (tVar 0) (tC (.int 4))))) (gName 2)
  (tIfS (tOr (tNot (tB (tCB kIsi (tCons (tVar 2) (tCons (tC (.ty "int")) tNil))))) (tB (tCB kIsi (tCons (tVar 2) (tCons (tC (.ty "bool")) tNil))))) (tRet (tC (.bl false))) tNext))
  (tRet (tAndV (tCB kIsi (tCons (tOp cIx (tVar 0) (tC (.int 0))) (tCons (tC (.ty "str")) tNil))) (tOp (cEq K) (tVar 0) (tVar 1)))))
def dq(K:Frag):TS:=
 (tSeq (tIfS (tOr (tTest (tOp rIsN (tVar 1) (tC .non))) (tOr (tNot (tB (tCB kIsi (tCons (tVar 0) (tCons (tC (.ty "tuple")) tNil))))) (tOr (tTest (tOp (cNe K) (tCB kLen (tCons (tVar 0) tNil)) (tC (.int 5)))) (tNot (tB (tCB kIsi (tCons (tOp cIx (tVar 0) (tC (.int 4))) (tCons (tC (.ty "list")) tNil)))))))) (tRet (tAndV (tOp rIsN (tVar 0) (tC .non)) (tOp rIsN (tVar 1) (tC .non)))) tNext)
  (kH K))
theorem wp(h:cc K vs H Q E):dq K (eD9 Q) (start ["_law_found","_law_due","_law_number"] vs) H:=by
 obtain⟨x,y,rfl,⟨rfl,rfl⟩ | ⟨T,M,T',M',th,rfl,rfl,iT,iT'⟩,q⟩:=h
 . show dq K _ [some .non,some .non,none] H;unfold dq;rw[aD,ax];symm;exact q _ (LQ _)
 . show dq K _ [some (.ref T),some (.ref T'),none] H;unfold dq;rw[aD,ax];symm;rw[LR (fun e=>by cases e)];symm;refine zQ iT.T ?_;symm;rw[zK iT.T];symm;refine iteF' (by rfl) ?_;refine ixT iT.T (v:=V.ref M) rfl ?_;refine zP iT.M ?_;symm;unfold kH;symm;refine ixT iT.T (v:=V.int th.r) rfl ?_;symm;refine ixT iT.T (v:=V.int th.z) rfl ?_;symm;refine ixT iT.T (v:=V.int th.s) rfl ?_;symm;refine⟨lnR rfl,fun U hU=>?_⟩;obtain⟨H1,z9,s1,eU⟩:∃ z,upd H U (.lst [V.int th.r,V.int th.z,V.int th.s])=z/\Same H z/\z U=some (.lst (([th.r,th.z,th.s]:List Int).map V.int)):=aU _ hU;rw[z9];refine ixT (iT.same s1).T (v:=V.ref M) rfl ?_;have n100:=iT.n;refine lR eU (iT.same s1).M (by rw[LM,LM];show 3+_<=1000;omega) fun Z hZ=>?_;have s2:Same H1 (upd H1 Z (.lst (([th.r,th.z,th.s]:List Int).map V.int++th.ms.map V.int))):=(LQ H1).laid hZ;have eZ:(upd H1 Z (.lst (([th.r,th.z,th.s]:List Int).map V.int++th.ms.map V.int))) Z=some (.lst ((([th.r,th.z,th.s]:List Int)++th.ms).map V.int)):=by rw[ag,NQ]
   generalize upd H1 Z (.lst (([th.r,th.z,th.s]:List Int).map V.int++th.ms.map V.int))=H2 at*;refine⟨Z,rfl,⟨_,Mc eZ⟩,?_⟩;refine bq (K:=K) (xs:=(([th.r,th.z,th.s]:List Int)++th.ms).map V.int) (fun i σ H'=>∃ v2:Option V,σ=[some (.ref T),some (.ref T'),v2]/\H'=H2) ⟨_,rfl,rfl⟩ (fun i σ H' _ ⟨_,_,e⟩=>by rw[e];exact Mc eZ) ?_ ?_
   . rintro i v σ H3 hv ⟨v2,rfl,rfl⟩;obtain⟨z,hz,rfl⟩:=aP hv;symm;rw[ax];symm;exact⟨_,rfl,trivial⟩
   . rintro σ H3 ⟨v2,rfl,rfl⟩;have s12:=s1.trans s2;symm;refine ixT (iT.same s12).T (v:=V.str (tx (tkC th.t))) rfl ?_;symm;show rEqD K (.ref T) (.ref T') H3 Q;refine⟨_,_,CI (iT.same s12),CI (iT'.same s12),yu _ _ _ _ _,yu _ _ _ _ _,?_⟩;rw[Hv];exact q _ s12
def Ew(K:Frag)(c:RCl RK)(d:RCl PzK):Sp:=fun vs H Q _=>∃(a:Addr) (ns:List Int),vs=[.ref a]/\SqL K H a (ns.map V.int)/\ns.length<=63/\(∀ k,k≠.Rule->c.ok k=true)/\d.ok .Puzzle=true/\∀ H',Q (.bl true) H'
def xM(K:Frag):Sp:=fun vs H Q _=>∃(a:Addr) (ns:List Int),vs=[.ref a]/\SqL K H a (ns.map V.int)/\ns.length<=63/\∀ H',Q (.bl true) H'
def qb(K:Frag)(c:RCl RK)(d:RCl PzK):TS:=
 (tSeq (tIfS (tTest (tOp rNotN (tVar 13) (tC .non))) (tDrop (tBM K "list" bD (tOp cIx (tVar 13) (tC (.int 4))) (tCons (tC (.int 0)) tNil))) tNext)
  (tRet (tCall (cc K) [] E0 (tCons (tCall (dm K c d) [] E0 (tCons (tVar 6) (tCons (tVar 7) (tCons (tVar 9) tNil)))) (tCons (tVar 10) tNil)))))
def qc(K:Frag)(c:RCl RK)(d:RCl PzK):TS:=
 (tSeq (tIfS (tOr (tNot (tB (tCall (cc K) [] E0 (tCons (tVar 13) (tCons (tVar 10) tNil))))) (tOr (tTest (tOp (cNe K) (tVar 11) (tVar 7))) (tTest (tOp (cNe K) (tVar 12) (tVar 9))))) (tRet (tC (.bl false))) tNext)
  (qb K c d))
def qd(K:Frag)(c:RCl RK)(d:RCl PzK):TS:=
 (tSeq (tAsg (tCB kList (tCons (tVar 7) tNil)) (gName 11))
  (tSeq (tAsg (tCB kList (tCons (tVar 9) tNil)) (gName 12))
  (tSeq (tAsg (tCall (dm K c d) [] E0 (tCons (tVar 6) (tCons (tVar 11) (tCons (tVar 12) tNil)))) (gName 13))
  (qc K c d))))
def qe(K:Frag)(c:RCl RK)(d:RCl PzK):TS:=
 (tSeq (tAsg (tC .non) (gName 10))
  (tSeq (tIfS (tTest (tOp (cIn K true) (tC (.int 0)) (tVar 7))) (tAsg (tCall (jM K c d) [] E0 (tCons (tVar 6) (tCons (tVar 7) (tCons (tVar 9) (tCons (tVar 4) (tCons (tVar 5) tNil)))))) (gName 10)) tNext)
  (qd K c d)))
def rK(K:Frag)(c:RCl RK)(d:RCl PzK):TS:=
 (tSeq (sComp 9 [none,none] (iList K (tSl j3 (tVar 8) eI (tPart (tOp cAdd (tC (.int 1)) (tOp cMod (tOp cDiv (tVar 1) (tC (.int 36))) (tC (.int 11))))))) (gName 1) tTrue (tOp cIx (tCall (dn K) [] E0 tNil) (tVar 1)))
  (tSeq (tAsg (tOp cAdd (tVar 9) (tSl j3 (tVar 9) eI (tPart (tOp cMod (tOp cDiv (tVar 1) (tC (.int 400))) (tC (.int 3)))))) (gName 9))
  (qe K c d)))
def rL(K:Frag)(c:RCl RK)(d:RCl PzK):TS:=
 (tSeq (tIfS (tOr (tNot (tB (tCB (kIsiT K) (tCons (tGT K gt_KINDS) (tCons (tC (.ty "tuple")) tNil))))) (tTest (tOp (cNe K) (tGT K gt_KINDS) (tCall (dn K) [] E0 tNil)))) (tRet (tC (.bl false))) tNext)
  (rK K c d))
def rM(K:Frag)(c:RCl RK)(d:RCl PzK):TS:=
 (tSeq (tAsg (tOp cAdd (tC (.int 2)) (tOp cMod (tOp cDiv (tVar 1) (tC (.int 6))) (tC (.int 2)))) (gName 4))
  (tSeq (tAsg (tOp cMod (tOp cDiv (tVar 1) (tC (.int 12))) (tC (.int 4))) (gName 5))
  (tSeq (tAsg (tCall (iD K c d) [] E0 (tCons (tVar 0) (tCons (tVar 2) (tCons (tVar 3) (tCons (tVar 4) (tCons (tVar 5) tNil)))))) (gName 6))
  (tSeq (tAsg (tCall (jK K) [] E0 (tCons (tVar 0) (tCons (tOp cMul (tVar 2) (tVar 3)) (tCons (tVar 4) tNil)))) (gName 7))
  (tSeq (tAsg (tCall (fT K) [] E0 (tCons (tOp cMod (tOp cMul (tCall (b5 K) [] E0 (tCons (tVar 0) (tCons (tC (.int 17)) tNil))) (tC (.int 30011))) (tC (.int 1000003))) (tCons (tC (.int 11)) tNil))) (gName 8))
  (rL K c d))))))
def rN(K:Frag)(c:RCl RK)(d:RCl PzK):TS:=
 (tSeq (tAsg (tOp cIx (tLst (tCons (tTup (tCons (tC (.int 1)) (tCons (tC (.int 2)) tNil))) (tCons (tTup (tCons (tC (.int 2)) (tCons (tC (.int 2)) tNil))) (tCons (tTup (tCons (tC (.int 1)) (tCons (tC (.int 5)) tNil))) (tCons (tTup (tCons (tC (.int 2)) (tCons (tC (.int 3)) tNil))) (tCons (tTup (tCons (tC (.int 3)) (tCons (tC (.int 2)) tNil))) (tCons (tTup (tCons (tC (.int 2)) (tCons (tC (.int 2)) tNil))) tNil))))))) (tOp cMod (tVar 1) (tC (.int 6)))) (gTup K 2 (gCons (gName 2) (gCons (gName 3) gNil))))
  (rM K c d))
def AC(K:Frag)(c:RCl RK)(d:RCl PzK):TS:=
 (tSeq (tAsg (tOp cMod (tOp cMul (tCall (b5 K) [] E0 (tCons (tVar 0) (tCons (tC (.int 0)) tNil))) (tC (.int 48271))) (tC (.int 65537))) (gName 1))
  (rN K c d))
theorem xN(ks:List TK):∀ x∈ks.map txk,PyData.strOk x=true:=fun x hx=>by
 obtain⟨t,_,rfl⟩:=L1.mp hx;exact zu (by cases t <;> decide)
def Due50(fr:Addr->Prop)(H:Hp)(nt:Option Tho)(v:V):Prop:=(v=.non/\nt=none)\/∃(T M:Addr) (th:Tho),v=.ref T/\fr M/\IsTh H T M th.t th.r th.z th.s th.ms/\nt=some th
section
variable{K:Frag}{c:RCl RK}{d:RCl PzK}{Hb H:Hp}{Q:VK}{P L G A Kd:Addr}{h w g:Int}{LC:List RR}{cl LA:List Int}{ks:List TK}
theorem xO{Q:VK}{x y:V}{nt:Option Tho}{f1 f2:Addr->Prop}(a:Due50 f1 H nt x)(b:Due50 f2 H nt y)(q:∀ H',Same H H'->Q (.bl true) H'):cc K [x,y] H Q E0:=by
 refine⟨x,y,rfl,?_,q⟩;rcases a with ⟨rfl,e1⟩ | ⟨T,M,th,rfl,_,iT,e1⟩
 . rcases b with ⟨rfl,e2⟩ | ⟨T',M',th',rfl,_,iT',e2⟩
   . exact .inl ⟨rfl,rfl⟩
   . rw[e1] at e2;cases e2
 . rcases b with ⟨rfl,e2⟩ | ⟨T',M',th',rfl,_,iT',e2⟩
   . rw[e1] at e2;cases e2
   . rw[e1] at e2;cases e2;exact .inr ⟨T,M,T',M',th,rfl,rfl,iT,iT'⟩
theorem Due50.same{fr:Addr->Prop}{H':Hp}{nt:Option Tho}{v:V}(a:Due50 fr H nt v)(s:Same H H'):Due50 fr H' nt v:=by
 rcases a with a | ⟨T,M,th,e,f,iT,e2⟩
 . exact .inl a
 . exact .inr ⟨T,M,th,e,f,iT.same s,e2⟩
theorem CO{x y:V}{v0 v1 v2 v3 v4 v5 v8 v11 v12:Option V}(X:Lk Hb c d P L G A h w g LC cl LA)(hK:KdL Hb Kd ks)(sb:Same Hb H)(fx:Due50 (fun M=>Hb M=none) H (ntF h w g LC cl LA ks) x)(dy:Due50 (fun _=>True) Hb (ntF h w g LC cl LA ks) y)(q:∀ H',Q (.bl true) H'):
  qb K c d (eD9 Q) [v0,v1,v2,v3,v4,v5,some (.ref P),some (.ref A),v8,some (.ref Kd),some y,v11,v12,some x] H:=by
 have last:∀ H',Same Hb H'->dm K c d [V.ref P,V.ref A,V.ref Kd] H' (fun x H1=>cc K [x,y] H1 Q E0) E0:=fun H' s'=>by
  refine⟨P,L,G,A,Kd,h,w,g,LC,cl,LA,ks,rfl,X.same s',.inl (s' _ _ hK),fun e H2 s2=>?_,fun th T M H2 e s2 hT hM iT=>?_⟩
  . exact xO (f1:=fun _=>True) (nt:=ntF h w g LC cl LA ks) (.inl ⟨rfl,e⟩) (dy.same (s'.trans s2)) fun H3 _=>q H3
  . exact xO (f1:=fun _=>True) (nt:=ntF h w g LC cl LA ks) (.inr ⟨T,M,th,rfl,trivial,iT,e⟩) (dy.same (s'.trans s2)) fun H3 _=>q H3
 unfold qb;rw[aD,ax];symm;rcases fx with ⟨rfl,e⟩ | ⟨T,M,th,rfl,hM,iT,e⟩
 . refine iteF' (by rfl) ?_;exact last H sb
 . refine iteT' (by rfl) ?_;symm;refine ixT iT.T (v:=V.ref M) rfl ?_;symm;refine⟨bd iT.M,?_⟩;rw[dW iT.M];have n100:=iT.n;refine⟨by rw[LM];exact aE (by omega),?_⟩;exact last _ (sb.own hM)
theorem wq{x y:V}{A2 K2:Addr}{v0 v1 v2 v3 v4 v5 v8:Option V}(X:Lk Hb c d P L G A h w g LC cl LA)(hK:KdL Hb Kd ks)(e2:Hb A2=some (.lst (LA.map V.int)))(k2:KdL Hb K2 ks)(sb:Same Hb H)(fx:Due50 (fun M=>Hb M=none) H (ntF h w g LC cl LA ks) x)(dy:Due50 (fun _=>True) Hb (ntF h w g LC cl LA ks) y)(q:∀ H',Q (.bl true) H'):
  qc K c d (eD9 Q) [v0,v1,v2,v3,v4,v5,some (.ref P),some (.ref A),v8,some (.ref Kd),some y,some (.ref A2),some (.ref K2),some x] H:=by
 unfold qc;rw[aD,ax];symm;refine xO fx (dy.same sb) fun H3 s3=>?_;have s13:=sb.trans s3;refine⟨true,rfl,?_⟩;symm;refine pJ (s13 _ _ e2) (s13 _ _ X.A) ?_;rw[LU rfl];symm;refine DR (s13 _ _ k2) (s13 _ _ hK) (xN ks) (xN ks) ?_;rw[LU rfl];symm;exact CO X hK s13 (fx.same s3) dy q
theorem qf{y:V}{v0 v1 v2 v3 v4 v5 v8:Option V}(X:Lk H c d P L G A h w g LC cl LA)(hK:KdL H Kd ks)(dy:Due50 (fun _=>True) H (ntF h w g LC cl LA ks) y)(q:∀ H',Q (.bl true) H'):
  qd K c d (eD9 Q) [v0,v1,v2,v3,v4,v5,some (.ref P),some (.ref A),v8,some (.ref Kd),some y,none,none,none] H:=by
 unfold qd;symm;refine oz X.A fun A2 hA2=>?_;obtain⟨H1,z9,s1,eA⟩:=aU (.lst (LA.map V.int)) hA2;rw[z9];symm;refine oz (s1 _ _ hK) fun K2 hK2=>?_;have s2:Same H1 (upd H1 K2 (.lst ((ks.map txk).map V.str))):=(LQ H1).laid hK2;have eK:KdL (upd H1 K2 (.lst ((ks.map txk).map V.str))) K2 ks:=ag;generalize upd H1 K2 (.lst ((ks.map txk).map V.str))=H2 at*;have s12:=s1.trans s2;have X2:=X.same s12;symm;refine⟨P,L,G,A2,K2,h,w,g,LC,cl,LA,ks,rfl,⟨X2.P,s2 _ _ eA,X.n,X.mm⟩,.inl eK,fun e H3 s3=>?_,fun th T M H3 e s3 hT hM iT=>?_⟩
 . exact wq X2 (s12 _ _ hK) (s2 _ _ eA) eK s3 (.inl ⟨rfl,e⟩) (dy.same s12) q
 . exact wq X2 (s12 _ _ hK) (s2 _ _ eA) eK s3 (.inr ⟨T,M,th,rfl,hM,iT,e⟩) (dy.same s12) q
theorem CP{R:Int}{v0 v1 v2 v3 v8:Option V}(X:Lk H c d P L G A h w g LC cl LA)(hK:KdL H Kd ks)(g3:g<=3)(n9:h*w<=9)(eR:R=(LC.length:Int))(q:∀ H',Q (.bl true) H'):
  qe K c d (eD9 Q) [v0,v1,v2,v3,some (.int g),some (.int R),some (.ref P),some (.ref A),v8,some (.ref Kd),none,none,none,none] H:=by
 unfold qe;rw[aD,bI,w_c,a7];dsimp only[List.set_cons_succ,List.set_cons_zero];rw[aD,ax];symm;rw[lx X.A];by_cases h0:(0:Int)∈LA
 . rw[LU h0];refine⟨false,rfl,?_⟩;symm;have e:ntF h w g LC cl LA ks=none:=by unfold ntF;rw[Md h0]
   have dy:Due50 (fun _=>True) H (ntF h w g LC cl LA ks) .non:=.inl ⟨rfl,e⟩;exact qf X hK dy q
 . rw[LR h0];refine⟨true,rfl,?_⟩;symm;refine⟨P,L,G,A,Kd,h,w,g,R,LC,cl,LA,ks,rfl,X,hK,g3,n9,eR,fun T M th H1 s1 iT F=>?_,fun no H1 s1=>?_⟩
   . symm;have e:=GA X.P.R X.mkp h0 F;have dy:Due50 (fun _=>True) H1 (ntF h w g LC cl LA ks) (.ref T):=.inr ⟨T,M,th,rfl,trivial,iT,e⟩;exact qf (X.same s1) (s1 _ _ hK) dy q
   . symm;have e:=HD X.P.R X.mkp h0 no;have dy:Due50 (fun _=>True) H1 (ntF h w g LC cl LA ks) .non:=.inl ⟨rfl,e⟩;exact qf (X.same s1) (s1 _ _ hK) dy q
end
theorem Ex(ks:List TK)(n:Nat):(ks.map txk).map V.str++((ks.map txk).map V.str).take n=((ks++ks.take n).map txk).map V.str:=by simp[N7]
theorem Ey{P L G A O:Addr}{h w g y R:Int}{cl LA:List Int}{v0 v2 v3:Option V}(X:Lk H c d P L G A h w g LC cl LA)(g3:g<=3)(n9:h*w<=9)(eR:R=(LC.length:Int))(eO:H O=some (.lst (nsV cs)))(lt:∀ c∈cs,(c:Int)<11)(len:(cs.length:Int)=11)(q:∀ H',Q (.bl true) H'):
  rK K c d (eD9 Q) [v0,some (.int y),v2,v3,some (.int g),some (.int R),some (.ref P),some (.ref A),some (.ref O),none,none,none,none,none] H:=by
 unfold rK;symm;have b0:=MC (y/36) (show(11:Int)≠0 by decide);have b1:=Mu (y/36) (show(0:Int)<11 by decide);refine⟨⟨by decide,by decide⟩,by decide,?_⟩;generalize y/36%11=x at*;refine pK eO fun O2 hO2=>?_;rw[pX _ (by omega),uG];obtain⟨H4,z9,s4,e4⟩:=aU (.lst (nsV (cs.take (1+x).toNat))) hO2;rw[z9];have lt2:∀ z∈cs.take (1+x).toNat,z<11:=fun z hz=>by have:=lt z (List.mem_of_mem_take hz);omega
 have tl:(cs.take (1+x).toNat).length<=11:=by rw[M0];omega
 generalize cs.take (1+x).toNat=ds at*;have nl:(nsV ds).length=ds.length:=by unfold nsV;rw[LM,LM]
 refine⟨O2,rfl,⟨_,Mc e4⟩,?_⟩;refine bN (fun _=>true) (fun i=>V.str (txk (allT.getD (ds.getD i 0) .clue))) (by omega) (Mc e4) ?_ ?_ ?_
 . intro i z H5 R5 hz s5 k5;exact k5 _ (LQ _)
 . intro i z H5 Q5 hz hb5 s5 k5;obtain⟨hi,rfl⟩:=Ev hz;show tOp _ _ _ [none,some (.int _)] H5 Q5;have hd:ds.getD i 0<11:=lt2 _ (by rw[List.getD,LN hi];exact Mp hi);symm;refine⟨rfl,fun l H6 s6 hl el=>?_⟩;symm;exact ixT el (Eu hd) (k5 _ s6)
 . intro K1 H5 hK1 s5 eK;rw[a9] at eK
   have ek:KdL H5 K1 ((List.range (nsV ds).length).map fun i=>allT.getD (ds.getD i 0) .clue):=by
    unfold KdL;rw[Mv,Mv];exact eK
   have kl:((List.range (nsV ds).length).map fun i=>allT.getD (ds.getD i 0) .clue).length<=11:=by rw[LM,MS];omega
   generalize ((List.range (nsV ds).length).map fun i=>allT.getD (ds.getD i 0) .clue)=ks at*;have s45:=s4.trans s5;have c0:=MC (y/400) (show(3:Int)≠0 by decide);have c1:=Mu (y/400) (show(0:Int)<3 by decide);symm;refine⟨⟨by decide,by decide⟩,by decide,?_⟩;generalize y/400%3=x3 at*;refine pK ek fun K2 hK2=>?_;rw[pX _ (by omega)];obtain⟨H6,z9,s6,e6⟩:=aU (.lst (((ks.map txk).map V.str).take x3.toNat)) hK2;rw[z9];refine lR (s6 _ _ ek) e6 (by rw[M0,LM,LM];omega) fun K3 hK3=>?_;rw[Ex];have s7:Same H6 (upd H6 K3 (.lst (((ks++ks.take x3.toNat).map txk).map V.str))):=(LQ H6).laid hK3;have e7:KdL (upd H6 K3 (.lst (((ks++ks.take x3.toNat).map txk).map V.str))) K3 (ks++ks.take x3.toNat):=ag;generalize upd H6 K3 (.lst (((ks++ks.take x3.toNat).map txk).map V.str))=H7 at*;exact CP (X.same (s45.trans (s6.trans s7))) e7 g3 n9 eR q
theorem Ez{P L G A O:Addr}{h w g y R:Int}{cl LA:List Int}{v0 v2 v3:Option V}(X:Lk H c d P L G A h w g LC cl LA)(g3:g<=3)(n9:h*w<=9)(eR:R=(LC.length:Int))(eO:H O=some (.lst (nsV cs)))(lt:∀ c∈cs,(c:Int)<11)(len:(cs.length:Int)=11)(q:∀ H',Q (.bl true) H'):
  rL K c d (eD9 Q) [v0,some (.int y),v2,v3,some (.int g),some (.int R),some (.ref P),some (.ref A),some (.ref O),none,none,none,none,none] H:=by
 have ok:∀ x∈gt_KINDS,PyData.strOk x=true:=by rw[lG];exact xN allT
 unfold rL;rw[aD,ax];symm;rw[Fm];intro u hu;symm;refine GB hu ?_;symm;rw[Fm];intro u2 hu2;symm;refine⟨rfl,fun l H6 s6 hl el=>?_⟩;symm;refine HE (s6.sqt hu2) (PM el) ok ok ?_;rw[LU rfl];symm;exact Ey (X.same s6) g3 n9 eR (s6 _ _ eO) lt len q
theorem EA{y h w:Int}(hS:SqL K H a (ns.map V.int))(hn:ns.length<=63)(h0:1<=h)(h6:h<=6)(w0:1<=w)(w6:w<=6)(m1:1<=h*w)(m9:h*w<=9)(hk:∀ k,k≠.Rule->c.ok k=true)(ok:d.ok .Puzzle=true)(k:∀ H',Q (.bl true) H'):
  rM K c d (eD9 Q) [some (.ref a),some (.int y),some (.int h),some (.int w),none,none,none,none,none,none,none,none,none,none] H:=by
 unfold rM;symm;refine⟨⟨by decide,by decide⟩,by decide,⟨by decide,by decide⟩,by decide,?_⟩;have g0:=MC (y/6) (show(2:Int)≠0 by decide);have g1:=Mu (y/6) (show(0:Int)<2 by decide);have g2:2<=2+y/6%2:=by omega
 have g3:2+y/6%2<=3:=by omega
 generalize 2+y/6%2=g at*;have n0:=MC (y/12) (show(4:Int)≠0 by decide);have n1:=Mu (y/12) (show(0:Int)<4 by decide);generalize y/12%4=n at*;have F:FlOk h w g:=⟨h0,h6,w0,w6,by omega,by omega,by omega⟩;refine⟨a,ns,n,h,w,g,rfl,hS,hn,F,n0,by omega,hk,ok,fun P L G LC cl H1 s1 pz er=>?_⟩;symm;refine⟨mP h0 h6,?_⟩;refine⟨a,ns,h*w,g,rfl,s1.seq hS,hn,m1,by omega,g2,g3,fun A ms H2 s2 hA eA mk=>?_⟩;symm;have s12:=s1.trans s2;refine⟨a,ns,17,rfl,s12.seq hS,hn,by decide,by decide,?_⟩;symm;refine⟨.inr ⟨by decide,by decide⟩,by decide,?_⟩;refine⟨_,11,rfl,by decide,by decide,fun O H3 cs s3 hO eO nd lt len=>?_⟩;symm;exact Ez ⟨(pz.same s2).same s3,s3 _ _ eA,mk.1,mk.2⟩ g3 m9 er.symm eO lt len k
def fl50:List (Int × Int):=[(1,2),(2,2),(1,5),(2,3),(3,2),(2,2)]
theorem GE:∀ p∈fl50,1<=p.1/\p.1<=6/\1<=p.2/\p.2<=6/\1<=p.1*p.2/\p.1*p.2<=9:=by decide
theorem EB{n:Int}(hS:SqL K H a (ns.map V.int))(hn:ns.length<=63)(hk:∀ k,k≠.Rule->c.ok k=true)(ok:d.ok .Puzzle=true)(k:∀ H',Q (.bl true) H'):
  rN K c d (eD9 Q) [some (.ref a),some (.int n),none,none,none,none,none,none,none,none,none,none,none,none] H:=by
 unfold rN;rw[aD,bI,gy,dU];refine AB fl50 H _ fun as H1 s1 hl ha=>?_;have hl6:as.length=6:=hl;refine⟨by rw[LM];exact aQ (by omega),fun U hU=>?_⟩;obtain⟨H2,z9,s2,eU⟩:=aU (.lst (as.map V.ref)) hU;rw[z9];symm;refine⟨by decide,?_⟩;have j0:=MC n (show(6:Int)≠0 by decide);have j1:=Mu n (show(0:Int)<6 by decide);have ej:n%6=(((n%6).toNat:Nat):Int):=by omega
 have hj:(n%6).toNat<fl50.length:=by show _<6;omega
 rw[ej];generalize (n%6).toNat=j at*;have ea:as[j]? =some (as[j]'(by omega)):=LN (by omega);have ep:fl50[j]? =some fl50[j]:=LN hj;have et:=ha j _ _ ea ep;have ok2:=GE _ (Mp hj);generalize fl50[j]=pr at*;refine ixL eU (v:=V.ref (as[j]'(by omega))) (dD (by rw[LW,ea];rfl)) ?_;refine Ha (s2 _ _ et) rfl ?_;rw[E6];symm;exact EA ((s1.trans s2).seq hS) hn ok2.1 ok2.2.1 ok2.2.2.1 ok2.2.2.2.1 ok2.2.2.2.2.1 ok2.2.2.2.2.2 hk ok k
theorem HI(h:Ew K c d vs H Q E):AC K c d (eD9 Q) (start ["_law_script","_law_cell","_law_high","_law_wide","_law_signs","_law_rules","_law_puzzle_here","_law_masks_here","_law_order_here","_law_kinds_here","_law_due","_law_heard","_law_words","_law_found"] vs) H:=by
 obtain⟨a,ns,rfl,hS,hn,hk,ok,k⟩:=h;show AC K c d _ [some (.ref a),none,none,none,none,none,none,none,none,none,none,none,none,none] H;unfold AC;symm;refine⟨a,ns,0,rfl,hS,hn,by decide,by decide,?_⟩;symm;refine⟨.inr ⟨by decide,by decide⟩,by decide,?_⟩;generalize xJ ns 0*48271%65537=n at*;exact EB hS hn hk ok k
section
variable{X:Cx}{e:Expr}{es rs:List Expr}{te:TE}{t:TA}
theorem kj{k}{p:Pos}(ha:PE X (.Tuple rs k p) te)(hr:PA X es t):PA X (.Tuple rs k p::es) (tCons te t):=aa ha hr
theorem aV{c:Const}{k}{p:Pos}(ha:PE X (.Constant c k p) te)(hr:PA X es t):PA X (.Constant c k p::es) (tCons te t):=aa ha hr
end
structure Z5 where
 P:Program
 w:World
 K:Frag
 mg:Str->Option Value
 base:Heap
structure Bt3(Z:Z5):Prop extends Bt2 Z.mg where
 ns:∀{x:Str} {v:Value},nsIn Z.K mainGlobals x=some (some v)->Z.mg x=some v
def Nn(K:Frag)(b:Str):Prop:=nsIn K mainGlobals b=some none
def Zn(K:Frag):Prop:=Nn K "len"/\Nn K "abs"/\Nn K "min"/\Nn K "max"/\Nn K "sorted"/\Nn K "any"/\Nn K "isinstance"/\Nn K "list"/\Nn K "int"/\Nn K "bool"/\Nn K "str"/\Nn K "tuple"/\Nn K "reversed"/\Nn K "set"/\Nn K "range"/\Nn K "zip"/\Nn K "all"/\Nn K "sum"/\Nn K "enumerate"
theorem HJ{Z:Z5}{h:Heap}(X:Z.K.In h)(G:h.Ns mainGlobals Z.mg)(z:Zn Z.K):Bt3 Z:=by
 obtain⟨a,b,c,d,e,f,g,i,j,k,l,m,n,o,p,q,r,s,t⟩:=z;have N:∀{b:Str},Nn Z.K b->Z.mg b=none:=fun h=>PySem.W.mg_none_of X G h;exact⟨⟨⟨N a,N b,N c,N d,N e,N f,N g,N i,N j,N k,N l,N m,N n,N o,N p,N q⟩,N r,N s,N t⟩,fun h=>PySem.W.mg_of X G h⟩
structure De(K:Frag)(x:Str)(st:Stmt):Prop where
 ex:∃(f:Addr) (fd:FuncData),nsIn K mainGlobals x=some (some (.ref f))/\Fun K x x st f fd
structure Me(K:Frag)(x qual:Str)(st:Stmt)(f:Addr):Prop where
 ex:∃ fd:FuncData,Fun K x qual st f fd/\isFn K (.ref f)=true
structure ClsP(K:Frag)(x:Str)(A f:Addr):Prop where
 q:nsIn K mainGlobals x=some (some (.ref A))
 m1:PySem.W.makesIn K A=true
 m2:findIn K (.ref A) "__init__"=some (some (.ref f))
 m4:keepIn K (.ref A)=true
 cl:Cls K A
def mkC(x1 x2 x3 x4 x5 x6 x7 x8:Addr):RCl RK:=⟨fun k=>match k with | .Rule=>x1 | .Unlike=>x1 | .Sum=>x2 | .Rising=>x3 | .Seen=>x4 | .Count=>x5 | .Joined=>x6 | .NoSquare=>x7 | .Ring=>x8,fun k=>match k with | .Rule=>false | _=>true⟩
def mk1(c:RCl RK)(k:RK):RCl RK:=⟨c.A,match k with | .Joined=>(fun i=>match i with | .Joined=>true | _=>false) | .Ring=>(fun i=>match i with | .Ring=>true | _=>false) | _=>fun _=>false⟩
def mkD(y:Addr):RCl PzK:=⟨fun _=>y,fun _=>true⟩
theorem oI{c:RCl RK}{k i:RK}(h:(mk1 c k).ok i=true):i=k:=by cases k <;> cases i <;> first | rfl | cases h
def At8(K:Frag)(m:Str)(v:Option Value)(x1 x2 x3 x4 x5 x6 x7 x8:Addr):Prop:=findIn K (.ref x1) m=some v/\findIn K (.ref x2) m=some v/\findIn K (.ref x3) m=some v/\findIn K (.ref x4) m=some v/\findIn K (.ref x5) m=some v/\findIn K (.ref x6) m=some v/\findIn K (.ref x7) m=some v/\findIn K (.ref x8) m=some v
def C8(K:Frag)(x1 x2 x3 x4 x5 x6 x7 x8:Addr):Prop:=Cls K x1/\Cls K x2/\Cls K x3/\Cls K x4/\Cls K x5/\Cls K x6/\Cls K x7/\Cls K x8
section
variable{Z:Z5}{K:Frag}{x1 x2 x3 x4 x5 x6 x7 x8 f:Addr}{m:Str}{v:Option Value}
theorem at8(h:At8 K m v x1 x2 x3 x4 x5 x6 x7 x8)(k:RK):findIn K (.ref ((mkC x1 x2 x3 x4 x5 x6 x7 x8).A k)) m=some v:=by
 obtain⟨a,b,c,d,e,f,g,i⟩:=h;cases k <;> assumption
theorem c8(h:C8 K x1 x2 x3 x4 x5 x6 x7 x8)(k:RK):Cls K ((mkC x1 x2 x3 x4 x5 x6 x7 x8).A k):=by
 obtain⟨a,b,c,d,e,f,g,i⟩:=h;cases k <;> assumption
theorem fk8(C:C8 K x1 x2 x3 x4 x5 x6 x7 x8)(h:At8 K m none x1 x2 x3 x4 x5 x6 x7 x8):FldK K (mkC x1 x2 x3 x4 x5 x6 x7 x8) m:=⟨fun k _=>⟨c8 C k,at8 h k⟩⟩
theorem fk1{c:RCl RK}{k:RK}(hk:c.ok k=true)(F:FldK K c m):FldK K (mk1 c k) m:=⟨fun i hi=>by cases oI hi;exact F.ex k hk⟩
variable{N ps:List Str}{k k':Nat}{sp sp':Sp}{t:TS}{x qual:Str}{st:Stmt}
abbrev Hb(Z:Z5)(N:List Str)(qual:Str)(st:Stmt)(f:Addr)(k:Nat)(t:TS):Prop:=∀{LD:Value} {A:Around} {outer:List Env} {s:Shared} {H:Hp} {E:XK},Room k (A.deeper (envOfC qual (aX st) s.heap.objs.size f LD))->(A.deeper (envOfC qual (aX st) s.heap.objs.size f LD)).units+64<cLine->N.Nodup->PSs (cxOf CX0 Z.P Z.w Z.K Z.mg Z.base N qual (aX st) f LD A outer s H E).nox (bT st) t
abbrev Rk(N:List Str)(sp:Sp)(t:TS):Prop:=∀{vs H Q E},sp vs H Q E->t (eD9 Q) (start N vs) H
abbrev Ln(ps:List Str)(sp:Sp):Prop:=∀{vs H Q E},sp vs H Q E->vs.length=ps.length
abbrev Bd(x qual:Str)(st:Stmt)(ps:List Str):Prop:=∀(kV doc pm:Value) (an:Option Addr) (LD ct:Value) (us:List Value),us.length=ps.length->bindArgs (fnOf x qual (cr st) (bT st) (aX st) .none kV doc pm an LD ct) ⟨us,[]⟩=pure (ps.zip us)
theorem okf{f:Addr}{fd:FuncData}(F:Fun Z.K x qual st f fd)(S:lI N ps (aX st))(rk:Rk N sp t)(hb:Hb Z N qual st f k t)(len:Ln ps sp):FnOk Z.P Z.w Z.K Z.mg Z.base CX0 (k+1) f fd ps sp:=F.ok S (fun _ _ _ _ h=>len h) fun LD A outer s H vs Q E hr h=>⟨t,hb hr hr.units S.nd,rk h⟩
local macro_rules | `(tactic| walk_at "l")=>`(tactic| (intro vs H Q E h; (repeat obtain ⟨_,h⟩:=h); subst_vars; rfl))
theorem xP{α:Type}{us:List α}{n:Nat}(e:us.length=n+1):∃ u t,t.length=n/\us=u::t:=by
 cases us with
 | nil=>cases e
 | cons u t=>exact⟨u,t,Nat.succ.inj e,rfl⟩
theorem bd1{a0:Str}(h:∀ kV doc pm an LD ct u0,bindArgs (fnOf x qual (cr st) (bT st) (aX st) .none kV doc pm an LD ct) ⟨[u0],[]⟩=pure ([a0].zip [u0]):=by intros;rfl):Bd x qual st [a0]:=by
 intro _ _ _ _ _ _ _ e;(iterate 1 (obtain⟨_,_,f,rfl⟩:=xP e;clear e;have e:=f;clear f));cases MZ e;exact h ..
theorem bd2{a0 a1:Str}(h:∀ kV doc pm an LD ct u0 u1,bindArgs (fnOf x qual (cr st) (bT st) (aX st) .none kV doc pm an LD ct) ⟨[u0,u1],[]⟩=pure ([a0,a1].zip [u0,u1]):=by intros;rfl):Bd x qual st [a0,a1]:=by
 intro _ _ _ _ _ _ _ e;(iterate 2 (obtain⟨_,_,f,rfl⟩:=xP e;clear e;have e:=f;clear f));cases MZ e;exact h ..
theorem bd3{a0 a1 a2:Str}(h:∀ kV doc pm an LD ct u0 u1 u2,bindArgs (fnOf x qual (cr st) (bT st) (aX st) .none kV doc pm an LD ct) ⟨[u0,u1,u2],[]⟩=pure ([a0,a1,a2].zip [u0,u1,u2]):=by intros;rfl):Bd x qual st [a0,a1,a2]:=by
 intro _ _ _ _ _ _ _ e;(iterate 3 (obtain⟨_,_,f,rfl⟩:=xP e;clear e;have e:=f;clear f));cases MZ e;exact h ..
theorem bd4{a0 a1 a2 a3:Str}(h:∀ kV doc pm an LD ct u0 u1 u2 u3,bindArgs (fnOf x qual (cr st) (bT st) (aX st) .none kV doc pm an LD ct) ⟨[u0,u1,u2,u3],[]⟩=pure ([a0,a1,a2,a3].zip [u0,u1,u2,u3]):=by intros;rfl):Bd x qual st [a0,a1,a2,a3]:=by
 intro _ _ _ _ _ _ _ e;(iterate 4 (obtain⟨_,_,f,rfl⟩:=xP e;clear e;have e:=f;clear f));cases MZ e;exact h ..
theorem bd5{a0 a1 a2 a3 a4:Str}(h:∀ kV doc pm an LD ct u0 u1 u2 u3 u4,bindArgs (fnOf x qual (cr st) (bT st) (aX st) .none kV doc pm an LD ct) ⟨[u0,u1,u2,u3,u4],[]⟩=pure ([a0,a1,a2,a3,a4].zip [u0,u1,u2,u3,u4]):=by intros;rfl):Bd x qual st [a0,a1,a2,a3,a4]:=by
 intro _ _ _ _ _ _ _ e;(iterate 5 (obtain⟨_,_,f,rfl⟩:=xP e;clear e;have e:=f;clear f));cases MZ e;exact h ..
theorem bd6{a0 a1 a2 a3 a4 a5:Str}(h:∀ kV doc pm an LD ct u0 u1 u2 u3 u4 u5,bindArgs (fnOf x qual (cr st) (bT st) (aX st) .none kV doc pm an LD ct) ⟨[u0,u1,u2,u3,u4,u5],[]⟩=pure ([a0,a1,a2,a3,a4,a5].zip [u0,u1,u2,u3,u4,u5]):=by intros;rfl):Bd x qual st [a0,a1,a2,a3,a4,a5]:=by
 intro _ _ _ _ _ _ _ e;(iterate 6 (obtain⟨_,_,f,rfl⟩:=xP e;clear e;have e:=f;clear f));cases MZ e;exact h ..
local macro_rules | `(tactic| ac_rfl)=>`(tactic| exact ⟨rfl,rfl,rfl,by decide+kernel,rfl,by decide+kernel,by decide+kernel⟩)
theorem okc(B:Bt3 Z)(D:De Z.K x st)(rk:Rk N sp t)(b:Bd x x st ps)(hb:∀{f},Hb Z N x st f k t)(S:lI N ps (aX st):=by ac_rfl)(len:Ln ps sp:=by walk_at "l"):Cal Z.P Z.w Z.K Z.mg Z.base (k+1) x ps sp:=
 let ⟨f,fd,a,F⟩:=D.ex
 ⟨f,fd,okf F S rk hb len,B.ns a,F.kp,F.binds b⟩
structure Mo(Z:Z5)(k:Nat)(f:Addr)(ps:List Str)(sp:Sp):Prop where
 ex:∃ fd:FuncData,FnOk Z.P Z.w Z.K Z.mg Z.base CX0 k f fd ps sp/\Binds Z.K fd ps []/\isFn Z.K (.ref f)=true/\keepIn Z.K (.ref f)=true
theorem okm(D:Me Z.K x qual st f)(rk:Rk N sp t)(b:Bd x qual st ps)(hb:Hb Z N qual st f k t)(S:lI N ps (aX st):=by ac_rfl)(len:Ln ps sp:=by walk_at "l"):Mo Z (k+1) f ps sp:=
 let ⟨fd,F,n⟩:=D.ex
 ⟨fd,okf F S rk hb len,F.binds b,n,F.kp⟩
theorem Mo.at{C:Addr}(T:Mo Z k f ps sp)(cl:Cls Z.K C)(a:findIn Z.K (.ref C) m=some (some (.ref f)))(imp:∀ vs H Q E,sp' vs H Q E->sp vs H Q E)(hk:k<=k':=by decide):∃(f:Addr) (fd:FuncData),Cls Z.K C/\Meth Z.K C m f/\FnOk Z.P Z.w Z.K Z.mg Z.base CX0 k' f fd ps sp'/\Binds Z.K fd ps []:=
 let ⟨fd,F,b,n,kp⟩:=T.ex
 ⟨f,fd,cl,⟨a,n,kp⟩,(F.mono hk).imp imp,b⟩
theorem Mo.mke{C:Addr}(T:Mo Z k f ps sp)(B:Bt3 Z)(c:ClsP Z.K x C f):KCal Z.P Z.w Z.K Z.mg Z.base k x C ps sp:=
 let ⟨fd,F,b,n,_⟩:=T.ex
 ⟨f,fd,⟨c.m1,c.m2,n,c.m4⟩,F,B.ns c.q,b⟩
theorem De.of{K:Frag}{f:Addr}{fd:FuncData}(a:nsIn K mainGlobals x=some (some (.ref f)))(F:Fun K x x st f fd):De K x st:=⟨f,fd,a,F⟩
theorem Me.of{K:Frag}{f:Addr}{fd:FuncData}(F:Fun K x qual st f fd)(n:isFn K (.ref f)=true):Me K x qual st f:=⟨fd,F,n⟩
structure GT0(K:Frag)(x:Str)(ws:List Str):Prop where
 ex:∃(p:Addr) (o:Obj) (LF:Array Value) (n:Nat),nsIn K mainGlobals x=some (some (.ref p))/\K.lookup p=some o/\o.cls=.type "tuple"/\o.data=.seq LF n/\LF.size<=sizeLine/\Vals (ws.map V.str) LF.toList
theorem GT0.mk'{K:Frag}{ws:List Str}{p:Addr}{o:Obj}{LF:Array Value}{n:Nat}(a:nsIn K mainGlobals x=some (some (.ref p)))(b:K.lookup p=some o)(c:o.cls=.type "tuple")(d:o.data=.seq LF n)(e:LF.size<=sizeLine)(v:Vals (ws.map V.str) LF.toList):GT0 K x ws:=⟨p,o,LF,n,a,b,c,d,e,v⟩
theorem GT0.of{ws:List Str}(g:GT0 Z.K x ws)(B:Bt3 Z):GTup Z.K Z.mg x ws:=let ⟨p,o,i,n,a,r⟩:=g.ex;⟨p,o,i,n,B.ns a,r⟩
structure GD0(w:World)(K:Frag)(x:Str)(D:List (Str × List Str)):Prop where
 ex:∃(p:Addr) (o:Obj) (es:Array DictEntry) (ep:Nat),nsIn K mainGlobals x=some (some (.ref p))/\K.lookup p=some o/\o.ExactDict/\o.data=.dict es ep/\DRows w K es.toList D/\(D.map fun x=>x.1).Nodup
theorem GD0.of{D:List (Str × List Str)}(g:GD0 Z.w Z.K x D)(B:Bt3 Z):GDict Z.w Z.K Z.mg x D:=let ⟨p,o,i,n,a,r⟩:=g.ex;⟨p,o,i,n,B.ns a,r⟩
end
section
variable{X:Cx}{a b e:Expr}{ta tb te:TE}{pos pos' p:Pos}{x:Str}{es:List Expr}{t:TA}{ps:List Str}{sp:Sp}{k n:Nat}
theorem kcal(C:Cal X.prog X.w X.K X.mg X.base k x ps sp)(hr:Room n X.A)(ha:PA X (e::es) t)(hk:k<=n:=by decide)(hg:Gl X x:=by exact rfl)(hdb:(x==("__debug__":Str))=false:=by decide)(he:starEach (e::es) X.env=(false,eval e X.env)::starEach es X.env:=by rfl)(hpl:(backTo pos (starEach es X.env)).any (·.1)=false:=by rfl):PE X (.Call (.Name x p) (e::es) [] pos) (tCall sp [] E0 t):=G4 C hr hk hg ha hdb he hpl
theorem kix(hu:X.A.units+64<cLine)(ha:PE X a ta)(hb:PE X b tb)(hs:xb b:=by exact fun _ _=>rfl):PE X (.Subscript a b pos) (tOp cIx ta tb):=zt (G3 hu) ha hb hs
theorem kset(i:Nat)(hN:X.N.Nodup)(he:PE X e te)(hi:X.N[i]? =some x:=by exact rfl)(hx:Loc X.env.scope x:=by exact Or.inl rfl)(hs:swapsWith e (some (.Name x pos')) pos.line X.env=pure false:=by rfl)(hf:X.fn x=true\/X.env.scope.names.lookup x=some .local:=by first | exact .inl rfl | exact .inr rfl | assumption):PS X (.Assign [.Name x pos'] e pos) (tAsg te (gName i)):=d8 hN hi hx he hs hf
end
theorem bd0{x qual:Str}{st:Stmt}(h:∀ kV doc pm an LD ct,bindArgs (fnOf x qual (cr st) (bT st) (aX st) .none kV doc pm an LD ct) ⟨[],[]⟩=pure (([]:List Str).zip []):=by intros;rfl):Bd x qual st []:=fun _ _ _ _ _ _ us hl=>match us,hl with | [],_=>h ..
theorem CQ{X:Cx}{k n:Nat}{x:Str}{ps:List Str}{sp:Sp}{p pos:Pos}(C:Cal X.prog X.w X.K X.mg X.base k x ps sp)(hr:Room n X.A)(hk:k<=n:=by decide)(hg:Gl X x:=by exact rfl)(hdb:(x==("__debug__":Str))=false:=by decide):PE X (.Call (.Name x p) [] [] pos) (tCall sp [] E0 tNil):=
 let ⟨_,_,F,hm,hkp,hb⟩:=C.ex
 ES F (hr.mono hk) hg hm hkp hb .nil u9 hdb
local macro_rules | `(tactic| walk_at "l")=>`(tactic| (intro vs H Q E h; (repeat obtain ⟨_,h⟩:=h); subst_vars; rfl))
local macro_rules | `(tactic| ac_rfl)=>`(tactic| exact ⟨rfl,rfl,rfl,by decide+kernel,rfl,by decide+kernel,by decide+kernel⟩)
def top(i:Nat):Stmt:=PySem.Challenge.pw_cluemaker_k50_the_next_thought.main.body.getD i (.Pass ⟨0,0,0,0⟩)
def mtop(i j:Nat):Stmt:=match top i with
 | .ClassDef _ _ _ body _ _ _ _ _ _ _=>body.getD j (.Pass ⟨0,0,0,0⟩)
 | s=>s
abbrev gw(Z:Z5):Prop:=Cal Z.P Z.w Z.K Z.mg Z.base 1 "is_whole" ["value"] (du Z.K)
abbrev cP(Z:Z5):Prop:=Cal Z.P Z.w Z.K Z.mg Z.base 1 "many_cells" ["floor"] (bR Z.K)
abbrev rO(Z:Z5):Prop:=Cal Z.P Z.w Z.K Z.mg Z.base 1 "spot_of" ["floor","cell"] (lA Z.K)
abbrev tU(Z:Z5):Prop:=Cal Z.P Z.w Z.K Z.mg Z.base 1 "square_at" ["floor","corner"] (lU Z.K)
abbrev AD(Z:Z5):Prop:=Cal Z.P Z.w Z.K Z.mg Z.base 1 "bit_of" ["sign"] (rf Z.K)
abbrev km(Z:Z5):Prop:=Cal Z.P Z.w Z.K Z.mg Z.base 1 "stands" ["mask","sign"] (gf Z.K)
abbrev kI(Z:Z5):Prop:=Cal Z.P Z.w Z.K Z.mg Z.base 1 "clashes" ["masks"] (gu Z.K)
abbrev d5(Z:Z5):Prop:=Cal Z.P Z.w Z.K Z.mg Z.base 1 "masks_at" ["masks","cells"] (bW Z.K)
abbrev oJ(Z:Z5):Prop:=Cal Z.P Z.w Z.K Z.mg Z.base 1 "clue_strikes" ["clues","cell","sign","more"] (jg Z.K)
abbrev jS(Z:Z5):Prop:=Cal Z.P Z.w Z.K Z.mg Z.base 1 "are_told_in_order" ["cells","more"] (d0 Z.K)
abbrev ot(Z:Z5):Prop:=Cal Z.P Z.w Z.K Z.mg Z.base 1 "with_sign" ["filling","cell","sign"] (js Z.K)
abbrev qp(Z:Z5):Prop:=Cal Z.P Z.w Z.K Z.mg Z.base 1 "place_mores" ["floor","sign"] (kc Z.K)
abbrev tV(Z:Z5):Prop:=Cal Z.P Z.w Z.K Z.mg Z.base 1 "is_within" ["some","cells"] (mf Z.K)
abbrev tW(Z:Z5):Prop:=Cal Z.P Z.w Z.K Z.mg Z.base 1 "number_in" ["word"] (lZ Z.K)
abbrev gx(Z:Z5):Prop:=Cal Z.P Z.w Z.K Z.mg Z.base 1 "_law_cell_at" ["_law_script","_law_k"] (b5 Z.K)
abbrev my(Z:Z5):Prop:=Cal Z.P Z.w Z.K Z.mg Z.base 1 "_law_kinds" [] (dn Z.K)
abbrev mB(Z:Z5):Prop:=Cal Z.P Z.w Z.K Z.mg Z.base 1 "_law_order" ["_law_number","_law_many"] (fT Z.K)
abbrev rP(Z:Z5):Prop:=Cal Z.P Z.w Z.K Z.mg Z.base 1 "_law_mores" ["_law_word","_law_many","_law_signs"] (jH Z.K)
abbrev rQ(Z:Z5):Prop:=Cal Z.P Z.w Z.K Z.mg Z.base 1 "_law_alike" ["_law_found","_law_due"] (cc Z.K)
abbrev iF(Z:Z5):Prop:=Cal Z.P Z.w Z.K Z.mg Z.base 2 "is_from_one_to" ["value","most"] (bP Z.K)
abbrev kn(Z:Z5):Prop:=Cal Z.P Z.w Z.K Z.mg Z.base 2 "beside" ["floor","cell"] (dO Z.K)
abbrev tX(Z:Z5):Prop:=Cal Z.P Z.w Z.K Z.mg Z.base 2 "is_corner" ["floor","cell"] (lS Z.K)
abbrev rR(Z:Z5):Prop:=Cal Z.P Z.w Z.K Z.mg Z.base 2 "without" ["mask","sign"] (lC Z.K)
abbrev cg(Z:Z5):Prop:=Cal Z.P Z.w Z.K Z.mg Z.base 2 "signs_in" ["mask"] (bA Z.K)
abbrev rS(Z:Z5):Prop:=Cal Z.P Z.w Z.K Z.mg Z.base 2 "is_cell" ["floor","value"] (lD Z.K)
abbrev rT(Z:Z5)(c:RCl RK):Prop:=Cal Z.P Z.w Z.K Z.mg Z.base 2 "goes_by" ["kind","rule"] (lF Z.K c)
abbrev cQ(Z:Z5)(c:RCl RK):Prop:=Cal Z.P Z.w Z.K Z.mg Z.base 2 "others" ["rule","cell"] (bE Z.K c)
abbrev lH(Z:Z5):Prop:=Cal Z.P Z.w Z.K Z.mg Z.base 2 "many_may" ["some","sign"] (fe Z.K)
abbrev wr(Z:Z5)(c:RCl RK):Prop:=Cal Z.P Z.w Z.K Z.mg Z.base 2 "ahead_of" ["rule","cell"] (nY Z.K c)
abbrev AE(Z:Z5)(c:RCl RK):Prop:=Cal Z.P Z.w Z.K Z.mg Z.base 2 "behind" ["rule","cell"] (rm Z.K c)
abbrev mC(Z:Z5):Prop:=Cal Z.P Z.w Z.K Z.mg Z.base 2 "with_each_sign" ["fillings","cell","signs"] (gI Z.K)
abbrev oK(Z:Z5)(c:RCl RK)(d:RCl PzK):Prop:=Cal Z.P Z.w Z.K Z.mg Z.base 2 "cells_to_try" ["puzzle","kind","number"] (jD Z.K c d)
abbrev jO(Z:Z5):Prop:=Cal Z.P Z.w Z.K Z.mg Z.base 2 "number_within" ["word","least","most"] (dY Z.K)
abbrev rV(Z:Z5):Prop:=Cal Z.P Z.w Z.K Z.mg Z.base 2 "is_filling" ["floor","filling","least"] (kR Z.K)
abbrev wt(Z:Z5):Prop:=Cal Z.P Z.w Z.K Z.mg Z.base 2 "_law_row" ["_law_cell","_law_many","_law_signs"] (lg Z.K)
abbrev rW(Z:Z5):Prop:=Cal Z.P Z.w Z.K Z.mg Z.base 2 "_law_masks" ["_law_script","_law_many","_law_signs"] (jK Z.K)
abbrev wu(Z:Z5):Prop:=Cal Z.P Z.w Z.K Z.mg Z.base 3 "floor_of" ["high","wide","signs"] (nR Z.K)
abbrev mZ(Z:Z5):Prop:=Cal Z.P Z.w Z.K Z.mg Z.base 3 "squares" ["floor"] (i5 Z.K)
abbrev m3(Z:Z5):Prop:=Cal Z.P Z.w Z.K Z.mg Z.base 3 "reached" ["floor","cells","start"] (d3 Z.K)
abbrev d6(Z:Z5):Prop:=Cal Z.P Z.w Z.K Z.mg Z.base 3 "has_only" ["mask","sign"] (ck Z.K)
abbrev AF(Z:Z5):Prop:=Cal Z.P Z.w Z.K Z.mg Z.base 3 "struck" ["masks","cell","sign"] (rF Z.K)
abbrev EC(Z:Z5):Prop:=Cal Z.P Z.w Z.K Z.mg Z.base 3 "ways" ["masks"] (xy Z.K)
abbrev rX(Z:Z5):Prop:=Cal Z.P Z.w Z.K Z.mg Z.base 3 "is_sign" ["floor","value"] (lE Z.K)
abbrev oM(Z:Z5)(c:RCl RK)(d:RCl PzK):Prop:=Cal Z.P Z.w Z.K Z.mg Z.base 3 "has_its_rule" ["puzzle","kind","number","cell"] (jd Z.K c d)
abbrev m5(Z:Z5):Prop:=Cal Z.P Z.w Z.K Z.mg Z.base 3 "is_no_greater" ["sign","mask"] (iq Z.K)
abbrev rY(Z:Z5):Prop:=Cal Z.P Z.w Z.K Z.mg Z.base 3 "is_no_less" ["sign","mask"] (kT Z.K)
abbrev oN(Z:Z5)(c:RCl RK):Prop:=Cal Z.P Z.w Z.K Z.mg Z.base 3 "pair_strikes" ["rule","masks","cell","sign","more"] (jm Z.K c)
abbrev qq(Z:Z5)(c:RCl RK):Prop:=Cal Z.P Z.w Z.K Z.mg Z.base 3 "sum_strikes" ["rule","masks","cell","sign","more"] (j7 Z.K c)
abbrev AG(Z:Z5):Prop:=Cal Z.P Z.w Z.K Z.mg Z.base 3 "around" ["floor","middle","cell"] (rA Z.K)
abbrev rZ(Z:Z5):Prop:=Cal Z.P Z.w Z.K Z.mg Z.base 3 "turn_mores" ["floor","cell"] (k9 Z.K)
abbrev r8(Z:Z5)(c:RCl RK):Prop:=Cal Z.P Z.w Z.K Z.mg Z.base 3 "pair_mores" ["rule","masks","cell"] (ld Z.K c)
abbrev oO(Z:Z5)(c:RCl RK)(d:RCl PzK):Prop:=Cal Z.P Z.w Z.K Z.mg Z.base 3 "rule_numbers" ["puzzle","kind"] (jB Z.K c d)
abbrev oP(Z:Z5):Prop:=Cal Z.P Z.w Z.K Z.mg Z.base 3 "first_within" ["words","least","most"] (dj Z.K)
abbrev sd(Z:Z5):Prop:=Cal Z.P Z.w Z.K Z.mg Z.base 3 "told_cells" ["floor","words"] (kN Z.K)
abbrev yy(Z:Z5)(c:RCl RK):Prop:=Cal Z.P Z.w Z.K Z.mg Z.base 3 "rule_by" ["floor","words","cells","amount","mark"] (pR Z.K c)
abbrev m6(Z:Z5):Prop:=Cal Z.P Z.w Z.K Z.mg Z.base 3 "checked_clues" ["floor","clues"] (ii Z.K)
abbrev tY(Z:Z5)(c:RCl RK)(d:RCl PzK):Prop:=Cal Z.P Z.w Z.K Z.mg Z.base 4 "is_formed" ["puzzle","thought"] (l8 Z.K c d)
abbrev kC(Z:Z5):Prop:=Cal Z.P Z.w Z.K Z.mg Z.base 4 "many_only" ["some","sign"] (dM Z.K)
abbrev oQ(Z:Z5)(c:RCl RK):Prop:=Cal Z.P Z.w Z.K Z.mg Z.base 4 "only_strikes" ["rule","masks","cell","sign","more"] (ji Z.K c)
abbrev m7(Z:Z5)(c:RCl RK):Prop:=Cal Z.P Z.w Z.K Z.mg Z.base 4 "place_strikes" ["floor","rule","masks","cell","sign","more"] (il Z.K c)
abbrev oR(Z:Z5)(c:RCl RK):Prop:=Cal Z.P Z.w Z.K Z.mg Z.base 4 "step_strikes" ["rule","masks","cell","sign","more"] (jo Z.K c)
abbrev mD(Z:Z5):Prop:=Cal Z.P Z.w Z.K Z.mg Z.base 4 "rest_of_square" ["floor","corner","cell"] (gB Z.K)
abbrev gX(Z:Z5):Prop:=Cal Z.P Z.w Z.K Z.mg Z.base 4 "is_another_with_only" ["floor","masks","cell","other","mark"] (cS Z.K)
abbrev se(Z:Z5)(c:RCl RK):Prop:=Cal Z.P Z.w Z.K Z.mg Z.base 4 "only_mores" ["rule","masks","cell","sign"] (kY Z.K c)
abbrev oS(Z:Z5):Prop:=Cal Z.P Z.w Z.K Z.mg Z.base 4 "square_mores" ["floor","cell"] (jx Z.K)
abbrev qr(Z:Z5)(c:RCl RK):Prop:=Cal Z.P Z.w Z.K Z.mg Z.base 4 "reach_mores" ["floor","rule","masks","cell","sign"] (kf Z.K c)
abbrev wv(Z:Z5):Prop:=Cal Z.P Z.w Z.K Z.mg Z.base 4 "cells_of" ["floor","name","words"] (nO Z.K)
abbrev m8(Z:Z5):Prop:=Cal Z.P Z.w Z.K Z.mg Z.base 4 "checked_floor" ["floor"] (ie Z.K)
abbrev ln(Z:Z5)(c:RCl RK)(d:RCl PzK):Prop:=Cal Z.P Z.w Z.K Z.mg Z.base 5 "strikes_by_line" ["puzzle","masks","thought"] (fm Z.K c d)
abbrev nc(Z:Z5)(c:RCl RK):Prop:=Cal Z.P Z.w Z.K Z.mg Z.base 5 "count_strikes" ["rule","masks","cell","sign","more"] (io Z.K c)
abbrev mE(Z:Z5)(c:RCl RK):Prop:=Cal Z.P Z.w Z.K Z.mg Z.base 5 "square_strikes" ["floor","rule","masks","cell","sign","more"] (gD Z.K c)
abbrev nh(Z:Z5)(c:RCl RK):Prop:=Cal Z.P Z.w Z.K Z.mg Z.base 5 "reach_strikes" ["floor","rule","masks","cell","sign","more"] (iw Z.K c)
abbrev oT(Z:Z5)(c:RCl RK):Prop:=Cal Z.P Z.w Z.K Z.mg Z.base 5 "turn_strikes" ["floor","rule","masks","cell","sign","more"] (jv Z.K c)
abbrev oU(Z:Z5)(c:RCl RK)(d:RCl PzK):Prop:=Cal Z.P Z.w Z.K Z.mg Z.base 5 "mores_to_try" ["puzzle","masks","kind","number","cell","sign"] (jz Z.K c d)
abbrev tZ(Z:Z5)(c:RCl RK):Prop:=Cal Z.P Z.w Z.K Z.mg Z.base 5 "read_rule" ["floor","line"] (l6 Z.K c)
abbrev oV(Z:Z5)(c:RCl RK):Prop:=Cal Z.P Z.w Z.K Z.mg Z.base 6 "ways_strikes" ["rule","masks","cell","sign","more"] (jt Z.K c)
abbrev jT(Z:Z5)(c:RCl RK)(d:RCl PzK):Prop:=Cal Z.P Z.w Z.K Z.mg Z.base 6 "strikes_by_region" ["puzzle","masks","thought"] (dw Z.K c d)
abbrev sf(Z:Z5)(c:RCl RK):Prop:=Cal Z.P Z.w Z.K Z.mg Z.base 6 "read_rules" ["floor","lines"] (kP Z.K c)
abbrev jU(Z:Z5)(c:RCl RK)(d:RCl PzK):Prop:=Cal Z.P Z.w Z.K Z.mg Z.base 7 "strikes_by_number" ["puzzle","masks","thought"] (dA Z.K c d)
abbrev sh(Z:Z5)(c:RCl RK)(d:RCl PzK):Prop:=Cal Z.P Z.w Z.K Z.mg Z.base 8 "strikes" ["puzzle","masks","thought"] (kB Z.K c d)
abbrev yz(Z:Z5)(c:RCl RK)(d:RCl PzK):Prop:=Cal Z.P Z.w Z.K Z.mg Z.base 9 "allowed" ["puzzle","masks","thought"] (oj Z.K c d)
abbrev ww(Z:Z5)(c:RCl RK)(d:RCl PzK):Prop:=Cal Z.P Z.w Z.K Z.mg Z.base 9 "first_at" ["puzzle","masks","kind","number","cell","sign"] (oq Z.K c d)
abbrev qt(Z:Z5)(c:RCl RK)(d:RCl PzK):Prop:=Cal Z.P Z.w Z.K Z.mg Z.base 9 "_law_puzzle" ["_law_script","_law_high","_law_wide","_law_signs","_law_rules"] (iD Z.K c d)
abbrev ni(Z:Z5)(c:RCl RK)(d:RCl PzK):Prop:=Cal Z.P Z.w Z.K Z.mg Z.base 10 "found_by_rule" ["puzzle","masks","kind","number"] (iA Z.K c d)
abbrev si(Z:Z5)(c:RCl RK)(d:RCl PzK):Prop:=Cal Z.P Z.w Z.K Z.mg Z.base 10 "_law_first" ["_law_puzzle_here","_law_masks_here","_law_kinds_here","_law_signs","_law_rules"] (jM Z.K c d)
abbrev qu(Z:Z5)(c:RCl RK)(d:RCl PzK):Prop:=Cal Z.P Z.w Z.K Z.mg Z.base 11 "first_found" ["puzzle","masks","kinds"] (kh Z.K c d)
abbrev oW(Z:Z5)(c:RCl RK)(d:RCl PzK):Prop:=Cal Z.P Z.w Z.K Z.mg Z.base 12 "next_thought" ["puzzle","masks","kinds"] (dm Z.K c d)
abbrev B6(Z:Z5)(c:RCl RK)(d:RCl PzK):Prop:=MCal Z.P Z.w Z.K Z.mg Z.base d d.ok 1 "clues" ["self"] (uu Z.K c d)
abbrev mF(Z:Z5)(c:RCl RK):Prop:=MCal Z.P Z.w Z.K Z.mg Z.base c c.ok 3 "has_two_beside" ["self","cells","cell"] (gz Z.K c)
abbrev B7(Z:Z5)(c:RCl RK):Prop:=MCal Z.P Z.w Z.K Z.mg Z.base c c.ok 5 "holds" ["self","filling"] (dt Z.K c)
abbrev kD(Z:Z5)(c:RCl RK):Prop:=MCal Z.P Z.w Z.K Z.mg Z.base c c.ok 4 "is_joined" ["self","cells"] (i6 Z.K c)
abbrev iG(Z:Z5)(c:RCl RK):Prop:=MCal Z.P Z.w Z.K Z.mg Z.base c c.ok 1 "marked" ["self","filling"] (iL Z.K c)
abbrev ED(Z:Z5)(c:RCl RK):Prop:=MCal Z.P Z.w Z.K Z.mg Z.base c c.ok 1 "name" ["self"] (xj Z.K c)
abbrev uL(Z:Z5)(c:RCl RK):Prop:=MCal Z.P Z.w Z.K Z.mg Z.base c c.ok 1 "number" ["self"] (iJ Z.K c)
abbrev lL(Z:Z5)(c:RCl RK)(d:RCl PzK):Prop:=MCal Z.P Z.w Z.K Z.mg Z.base d d.ok 1 "place" ["self"] (ik Z.K c d)
abbrev iM(Z:Z5)(c:RCl RK)(d:RCl PzK):Prop:=MCal Z.P Z.w Z.K Z.mg Z.base d d.ok 1 "rules" ["self"] (cN Z.K c d)
abbrev oX(Z:Z5)(c:RCl RK):Prop:=MCal Z.P Z.w Z.K Z.mg Z.base c c.ok 1 "sign" ["self"] (iK Z.K c)
abbrev jP(Z:Z5)(c:RCl RK):Prop:=MCal Z.P Z.w Z.K Z.mg Z.base c c.ok 1 "signs_at" ["self","filling"] (e8 Z.K c)
abbrev iN(Z:Z5)(c:RCl RK):Prop:=MCal Z.P Z.w Z.K Z.mg Z.base c c.ok 1 "spots" ["self"] (dX Z.K c)
abbrev lq(Z:Z5)(x:Str)(C:Addr)(c:RCl RK)(d:RCl PzK):Prop:=KCal Z.P Z.w Z.K Z.mg Z.base 7 x C ["self","floor","lines","clues"] (bZ Z.K c d)
abbrev aL(Z:Z5)(x:Str)(C:Addr)(c:RCl RK):Prop:=KCal Z.P Z.w Z.K Z.mg Z.base 1 x C ["self","floor","words","cells","amount","mark"] (aN Z.K c)
section
variable{Z:Z5}(Bz:Bt3 Z)
include Bz
set_option maxHeartbeats 4000000
abbrev wx:Stmt:=top 10
theorem Bq(D:De Z.K "is_whole" wx):gw Z:=okc Bz D Bb bd1 fun hr hu nd=>(ad (af (bb (ar bQ rfl Bz.isinstance_ aY (aa (pv 0) (aa (cq (v:=.ty "int") rfl Bz.int_ vg rfl) ab))) (bm (Db (ar bQ rfl Bz.isinstance_ aY (aa (pv 0) (aa (cq (v:=.ty "bool") rfl Bz.bool_ BM rfl) ab))))))))
abbrev sj:Stmt:=top 13
theorem y7(D:De Z.K "many_cells" sj):cP Z:=okc Bz D yN bd1 fun hr hu nd=>(ad (af (ao bw (kix hu (pv 0) ae) (kix hu (pv 0) ae))))
abbrev yA:Stmt:=top 14
theorem CS(D:De Z.K "spot_of" yA):rO Z:=okc Bz D Cn bd2 fun hr hu nd=>(ac (kset 2 nd (kix hu (pv 0) ae))
   (ad (af (cy (aa (ao bh (pv 1) (pv 2)) (aa (ao aR (pv 1) (pv 2)) ab))))))
abbrev t1:Stmt:=top 17
theorem AH(D:De Z.K "square_at" t1):tU Z:=okc Bz D zY bd2 fun hr hu nd=>(ac (kset 2 nd (ao aH (pv 1) (kix hu (pv 0) ae)))
   (ad (af (az (aa (pv 1) (aa (ao aH (pv 1) ae) (aa (pv 2) (aa (ao aH (pv 2) ae) ab))))))))
abbrev AI:Stmt:=top 21
theorem EE(D:De Z.K "bit_of" AI):AD Z:=okc Bz D DW bd1 fun hr hu nd=>(ac (kset 1 nd ae)
   (ac (be Mq rfl (bX rfl Bz.range_ (aa (ao b7 (pv 0) ae) ab)) (aq (i:=2) nd rfl (Or.inl rfl))
   (ad (kset 1 nd (ao bw (pv 1) ae))))
   (ad (af (pv 1)))))
abbrev AJ:Stmt:=top 22
theorem EF(D:De Z.K "stands" AJ):km Z:=okc Bz D DU bd2 fun hr hu nd=>(ad (af (bb (ay gO ae (pv 1) (ah _)) (bb (ay gO (pv 1) (Dp Ps OS OT vm (pv 0)) (ah _)) (bm (ay (aw hu) (ao aR (ao FW (pv 0) (ao b7 (pv 1) ae)) ae) ae (ah _)))))))
abbrev yB:Stmt:=top 27
theorem CT(D:De Z.K "clashes" yB):kI Z:=okc Bz D Cz bd1 fun hr hu nd=>(ad (af (ay (dE hu) ae (pv 0) (by with_unfolding_all rfl))))
abbrev wy:Stmt:=top 38
theorem Br(D:De Z.K "masks_at" wy):d5 Z:=okc Bz D Bg bd2 fun hr hu nd=>(ad (af (aJ (ix:=[none,none,some 0]) [".0","cell","masks"] (aC rfl (by decide+kernel) rfl rfl rfl) rfl (aB (pv 1)) (fun cl s H fp=>(aq (i:=1) (show([".0","cell","masks"]:List Str).Nodup by decide+kernel) rfl (Or.inl rfl))) (fun cl s H fp=>aW) (fun cl s H fp=>(kix hu (pv 2) (pv 1))))))
abbrev oY:Stmt:=top 43
theorem wz(D:De Z.K "clue_strikes" oY):oJ Z:=okc Bz D vJ bd4 fun hr hu nd=>(ad (af (bb (ay (aw hu) (pv 3) (az ab) (ah _)) (bb (ay (aT hu) (kix hu (pv 0) (pv 1)) ae (ah _)) (bm (ay (aT hu) (kix hu (pv 0) (pv 1)) (pv 2) (ah _)))))))
abbrev jV:Stmt:=top 51
theorem qg(D:De Z.K "are_told_in_order" jV):jS Z:=okc Bz D pZ bd2 fun hr hu nd=>(ac (au (N9 (bt (ai (aT hu) (ar aG rfl Bz.len_ aO (aa (pv 1) ab)) ae (ah _)) (bt (ai (cj hu) (kix hu (pv 1) ae) (pv 0) (by with_unfolding_all rfl)) (bS (ai (cj hu) (kix hu (pv 1) ae) (pv 0) (by with_unfolding_all rfl)))))) (ad (af br)) aj)
   (ad (af (ay cf (bH Mg Nc Nd (iH hu) (pv 0) (aa (kix hu (pv 1) ae) ab)) (bH Mg Nc Nd (iH hu) (pv 0) (aa (kix hu (pv 1) ae) ab)) (ah _)))))
abbrev t3:Stmt:=top 59
theorem AK(D:De Z.K "with_sign" t3):ot Z:=okc Bz D Ai bd3 fun hr hu nd=>(ad (af (aJ (ix:=[none,none,none,some 1,some 2]) [".0","place","other","cell","sign"] (aC rfl (by decide+kernel) rfl rfl rfl) rfl (xf rfl Bz.enumerate_ (aa (pv 0) ab)) (fun cl s H fp=>(uX rfl (fU (aq (i:=1) (show([".0","place","other","cell","sign"]:List Str).Nodup by decide+kernel) rfl (Or.inl rfl)) (fU (aq (i:=2) (show([".0","place","other","cell","sign"]:List Str).Nodup by decide+kernel) rfl (Or.inl rfl)) sO)))) (fun cl s H fp=>aW) (fun cl s H fp=>(g8 (ai (aw hu) (pv 1) (pv 3) (ah _)) (pv 4) (pv 2))))))
abbrev qv:Stmt:=top 76
theorem xQ(D:De Z.K "place_mores" qv):qp Z:=okc Bz D xA bd2 fun hr hu nd=>(ad (af (aJ (ix:=[none,none,some 1]) [".0","other","sign"] (aC rfl (by decide+kernel) rfl rfl rfl) rfl (qJ rfl Bz.range_ (aa ae (aa (ao aH (kix hu (pv 0) ae) ae) ab))) (fun cl s H fp=>(aq (i:=1) (show([".0","other","sign"]:List Str).Nodup by decide+kernel) rfl (Or.inl rfl))) (fun cl s H fp=>(ba (ai (aT hu) (pv 1) (pv 2) (ah _)))) (fun cl s H fp=>(az (aa (pv 1) ab))))))
abbrev t4:Stmt:=top 90
theorem AL(D:De Z.K "is_within" t4):tV Z:=okc Bz D Ag bd2 fun hr hu nd=>(ad (af (ar (di rfl) rfl Bz.all_ iY (aa (aJ (ix:=[none,none,some 1]) [".0","cell","cells"] (aC rfl (by decide+kernel) rfl rfl rfl) rfl (aB (pv 0)) (fun cl s H fp=>(aq (i:=1) (show([".0","cell","cells"]:List Str).Nodup by decide+kernel) rfl (Or.inl rfl))) (fun cl s H fp=>aW) (fun cl s H fp=>(ay (dE hu) (pv 1) (pv 2) (by with_unfolding_all rfl)))) ab))))
abbrev nk:Stmt:=mtop 91 0
theorem uM{c:RCl RK}(II:FldK Z.K c "amount")(IM:FldK Z.K c "cells")(IP:FldK Z.K c "floor")(IX:FldK Z.K c "mark")(Jl:FldK Z.K c "words"){f:Addr}(D:Me Z.K "__init__" "Rule.__init__" nk f):Mo Z 1 f ["self","floor","words","cells","amount","mark"] (aN Z.K c):=okm D um bd6 fun hr hu nd=>(ac (iI (pv 0) (pv 1) IP)
   (ac (iI (pv 0) (bu nN rfl Bz.tuple_ g9 (aa (pv 2) ab)) Jl)
   (ac (iI (pv 0) (bu nN rfl Bz.tuple_ g9 (aa (pv 3) ab)) IM)
   (ac (iI (pv 0) (pv 4) II)
   (ad (iI (pv 0) (pv 5) IX))))))
abbrev t5:Stmt:=mtop 91 1
theorem AM{c:RCl RK}(Jl:FldK Z.K c "words"){f:Addr}(D:Me Z.K "name" "Rule.name" t5 f):Mo Z 1 f ["self"] (qZ Z.K c):=okm D zZ bd1 fun hr hu nd=>(ad (af (kix hu (bz (pv 0) Jl) ae)))
abbrev sk:Stmt:=mtop 91 2
theorem y8{c:RCl RK}(IM:FldK Z.K c "cells"){f:Addr}(D:Me Z.K "spots" "Rule.spots" sk f):Mo Z 1 f ["self"] (qk Z.K c):=okm D yO bd1 fun hr hu nd=>(ad (af (bu dR rfl Bz.list_ dF (aa (bz (pv 0) IM) ab))))
abbrev qw:Stmt:=mtop 91 3
theorem xR{c:RCl RK}(II:FldK Z.K c "amount"){f:Addr}(D:Me Z.K "number" "Rule.number" qw f):Mo Z 1 f ["self"] (oC Z.K c):=okm D xk bd1 fun hr hu nd=>(ad (af (bz (pv 0) II)))
abbrev t6:Stmt:=mtop 91 4
theorem AN{c:RCl RK}(IX:FldK Z.K c "mark"){f:Addr}(D:Me Z.K "sign" "Rule.sign" t6 f):Mo Z 1 f ["self"] (q5 Z.K c):=okm D z4 bd1 fun hr hu nd=>(ad (af (bz (pv 0) IX)))
abbrev np:Stmt:=mtop 91 8
theorem uN{c:RCl RK}(IM:FldK Z.K c "cells"){f:Addr}(D:Me Z.K "signs_at" "Rule.signs_at" np f):Mo Z 1 f ["self","filling"] (lY Z.K c):=okm D uo bd2 fun hr hu nd=>(ad (af (aJ (ix:=[none,none,some 1]) [".0","cell","filling"] (aC rfl (by decide+kernel) rfl rfl rfl) rfl (uY (bz (pv 0) IM)) (fun cl s H fp=>(aq (i:=1) (show([".0","cell","filling"]:List Str).Nodup by decide+kernel) rfl (Or.inl rfl))) (fun cl s H fp=>aW) (fun cl s H fp=>(kix hu (pv 2) (pv 1))))))
abbrev qx:Stmt:=mtop 91 9
theorem ko{c:RCl RK}(IM:FldK Z.K c "cells")(IX:FldK Z.K c "mark"){f:Addr}(D:Me Z.K "marked" "Rule.marked" qx f):Mo Z 1 f ["self","filling"] (oE Z.K c):=okm D xv bd2 fun hr hu nd=>(ad (af (aJ (ix:=[none,none,some 1,some 0]) [".0","cell","filling","self"] (aC rfl (by decide+kernel) rfl rfl rfl) rfl (uY (bz (pv 0) IM)) (fun cl s H fp=>(aq (i:=1) (show([".0","cell","filling","self"]:List Str).Nodup by decide+kernel) rfl (Or.inl rfl))) (fun cl s H fp=>(ba (ai (aw hu) (kix hu (pv 2) (pv 1)) (bz (pv 3) IX) (ah _)))) (fun cl s H fp=>(pv 1)))))
abbrev t7:Stmt:=top 107
theorem AO{t_FIGURES:Tok}(KC:Z.mg "FIGURES"=some (.str (tx [48,49,50,51,52,53,54,55,56,57]) t_FIGURES)){t_MOST_FIGURES:Tok}(JJ:Z.mg "MOST_FIGURES"=some (.int 9 t_MOST_FIGURES))(D:De Z.K "number_in" t7):tW Z:=okc Bz D z5 bd1 fun hr hu nd=>(ac (au (N9 (bt (ai (aw hu) (pv 0) av (ah _)) (bt (ai fV (ar aG rfl Bz.len_ aO (aa (pv 0) ab)) (cp rfl JJ ⟨t_MOST_FIGURES,rfl⟩) (ah _)) (bS (N9 (uW (ai (aw hu) (kix hu (pv 0) ae) av (ah _)) (sN (ai (aT hu) (pv 0) av (ah _))))))))) (ad (af d7)) aj)
   (ac (au (bi (aM (ar (di rfl) rfl Bz.all_ iY (aa (aJ (ix:=[none,none]) [".0","figure"] (aC rfl (by decide+kernel) rfl rfl rfl) rfl (G7 (pv 0)) (fun cl s H fp=>(aq (i:=1) (show([".0","figure"]:List Str).Nodup by decide+kernel) rfl (Or.inl rfl))) (fun cl s H fp=>aW) (fun cl s H fp=>(ay (dE hu) (pv 1) (cp rfl KC ⟨t_FIGURES,rfl⟩) (by with_unfolding_all rfl)))) ab)))) (ad (af d7)) aj)
   (ad (af (bu vv rfl Bz.int_ vg (aa (pv 0) ab))))))
abbrev oZ:Stmt:=mtop 120 1
theorem wA{c:RCl RK}{d:RCl PzK}(Ja:FldK Z.K d "floor"){f:Addr}(D:Me Z.K "place" "Puzzle.place" oZ f):Mo Z 1 f ["self"] (mS Z.K c d):=okm D vE bd1 fun hr hu nd=>(ad (af (bz (pv 0) Ja)))
abbrev o6:Stmt:=mtop 120 3
theorem wB{c:RCl RK}{d:RCl PzK}(Jm:FldK Z.K d "given"){f:Addr}(D:Me Z.K "clues" "Puzzle.clues" o6 f):Mo Z 1 f ["self"] (mT Z.K c d):=okm D vF bd1 fun hr hu nd=>(ad (af (bu dR rfl Bz.list_ dF (aa (bz (pv 0) Jm) ab))))
abbrev o7:Stmt:=mtop 120 4
theorem wC{c:RCl RK}{d:RCl PzK}(Jt:FldK Z.K d "laws"){f:Addr}(D:Me Z.K "rules" "Puzzle.rules" o7 f):Mo Z 1 f ["self"] (mU Z.K c d):=okm D vG bd1 fun hr hu nd=>(ad (af (bu dR rfl Bz.list_ dF (aa (bz (pv 0) Jt) ab))))
abbrev o8:Stmt:=top 122
theorem wD(D:De Z.K "_law_cell_at" o8):gx Z:=okc Bz D AA bd2 fun hr hu nd=>(ac (au (ai cf (pv 1) (ar qO rfl Bz.len_ aO (aa (pv 0) ab)) (ah _)) (ad (af (zt BG (pv 0) (pv 1) (fun _ _=>rfl)))) aj)
   (ad (af ae)))
abbrev so:Stmt:=top 123
theorem y9(D:De Z.K "_law_kinds" so):my Z:=okc Bz D wm bd0 fun hr hu nd=>by
 refine ac ?_ ?_
 . refine d8 (i:=0) ?n ?a ?b ?e ?c ?d
   case n=>exact nd
   case a=>exact rfl
   case b=>exact Or.inl rfl
   case d=>exact .inl rfl
   case c=>rfl
   case e=>
    refine az ?_;refine aV av ?_;refine aV av ?_;refine aV av ?_;refine aV av ?_;refine aV av ?_;refine aV av ?_;refine aV av ?_;refine aV av ?_;refine aV av ?_;refine aV av ?_;refine aV av ?_;exact ab
 . refine ad ?_
   . exact(af (bu nN rfl Bz.tuple_ g9 (aa (pv 0) ab)))
abbrev su:Stmt:=top 124
theorem za(D:De Z.K "_law_order" su):mB Z:=okc Bz D wf bd2 fun hr hu nd=>(ac (kset 2 nd (nL rfl rfl rfl Bz.list_ Bz.range_ (aa (pv 1) ab)))
   (ac (kset 3 nd (az ab))
   (ac (be Mq rfl (bX rfl Bz.range_ (aa (pv 1) ab)) (aq (i:=4) nd rfl (Or.inl rfl))
   (ad (b6 (bH Mg ME MF bB (pv 3) (aa (bH Mg PySem.F.slot_list_pop PySem.F.type_list_pop DO (pv 2) (aa (ao aR (ao bh (pv 0) (ao aH (pv 4) ae)) (ar aG rfl Bz.len_ aO (aa (pv 2) ab))) ab)) ab)))))
   (ad (af (pv 3))))))
abbrev sw:Stmt:=top 128
theorem zb(D:De Z.K "_law_mores" sw):rP Z:=okc (N:=["_law_word","_law_many","_law_signs","_law_found","_law_one","_law_other"]) Bz D wg bd3 fun hr hu nd=>(ac (au (ai (dE hu) (pv 0) (cy (aa av (aa av (aa av (aa av (aa av ab)))))) (by with_unfolding_all rfl)) (ad (af (az (aa (az ab) ab)))) aj)
   (ac (au (ai (aw hu) (pv 0) av (ah _)) (ad (af (aJ (ix:=[none,none]) [".0","_law_sign"] (aC rfl (by decide+kernel) rfl rfl rfl) rfl (qJ rfl Bz.range_ (aa ae (aa (ao aH (pv 2) ae) ab))) (fun cl s H fp=>(aq (i:=1) (show([".0","_law_sign"]:List Str).Nodup by decide+kernel) rfl (Or.inl rfl))) (fun cl s H fp=>aW) (fun cl s H fp=>(az (aa (pv 1) ab)))))) aj)
   (ac (kset 3 nd (az (aa (az ab) ab)))
   (ac (be Mq rfl (bX rfl Bz.range_ (aa (pv 1) ab)) (aq (i:=4) nd rfl (Or.inl rfl))
   (ac (b6 (bH Mg ME MF bB (pv 3) (aa (az (aa (pv 4) ab)) ab)))
   (ad (au (ai (dE hu) (pv 0) (cy (aa av (aa av ab))) (by with_unfolding_all rfl)) (ad (be Mq rfl (bX rfl Bz.range_ (aa (pv 1) ab)) (aq (i:=5) nd rfl (Or.inl rfl))
   (ad (b6 (bH Mg ME MF bB (pv 3) (aa (az (aa (pv 4) (aa (pv 5) ab))) ab)))))) aj))))
   (ad (af (pv 3)))))))
abbrev sx:Stmt:=top 130
theorem zc(D:De Z.K "_law_alike" sx):rQ Z:=okc Bz D wp bd2 fun hr hu nd=>(ac (au (N9 (bt (ai uZ (pv 1) d7 (ah _)) (bt (bi (aM (ar bQ rfl Bz.isinstance_ aY (aa (pv 0) (aa (cq (v:=.ty "tuple") rfl Bz.tuple_ g9 rfl) ab))))) (bt (ai (aT hu) (ar aG rfl Bz.len_ aO (aa (pv 0) ab)) ae (ah _)) (bS (bi (aM (ar bQ rfl Bz.isinstance_ aY (aa (kix hu (pv 0) ae) (aa (cq (v:=.ty "list") rfl Bz.list_ dF rfl) ab)))))))))) (ad (af (bb (ay uZ (pv 0) d7 (ah _)) (bm (ay uZ (pv 1) d7 (ah _)))))) aj)
   (ac (be Mq rfl (aB (ao aH (az (aa (kix hu (pv 0) ae) (aa (kix hu (pv 0) ae) (aa (kix hu (pv 0) ae) ab)))) (kix hu (pv 0) ae))) (aq (i:=2) nd rfl (Or.inl rfl))
   (ad (au (N9 (bt (bi (aM (ar bQ rfl Bz.isinstance_ aY (aa (pv 2) (aa (cq (v:=.ty "int") rfl Bz.int_ vg rfl) ab))))) (bS (aM (ar bQ rfl Bz.isinstance_ aY (aa (pv 2) (aa (cq (v:=.ty "bool") rfl Bz.bool_ BM rfl) ab))))))) (ad (af br)) aj)))
   (ad (af (bb (ar bQ rfl Bz.isinstance_ aY (aa (kix hu (pv 0) ae) (aa (cq (v:=.ty "str") rfl Bz.str_ vh rfl) ab))) (bm (ay (aw hu) (pv 0) (pv 1) (ah _))))))))
abbrev mG:Stmt:=top 11
theorem tH(IK:gw Z)(D:De Z.K "is_from_one_to" mG):iF Z:=okc Bz D tq bd2 fun hr hu nd=>(ad (af (bb (kcal IK hr (aa (pv 0) ab)) (bb (ay gO ae (pv 0) (ah _)) (bm (ay gO (pv 0) (pv 1) (ah _)))))))
abbrev AQ:Stmt:=top 15
theorem EG(Ju:rO Z)(D:De Z.K "beside" AQ):kn Z:=okc Bz D DK bd2 fun hr hu nd=>(ac (kset 2 nd (kix hu (pv 0) ae))
   (ac (kset 3 nd (kix hu (pv 0) ae))
   (ac (kset 4 nd (kcal Ju hr (aa (pv 0) (aa (pv 1) ab))))
   (ac (kset 5 nd (az ab))
   (ac (au (ai fV (kix hu (pv 4) ae) ae (ah _)) (ad (b6 (bH Mg ME MF bB (pv 5) (aa (ao b7 (pv 1) (pv 3)) ab)))) aj)
   (ac (au (ai fV (kix hu (pv 4) ae) ae (ah _)) (ad (b6 (bH Mg ME MF bB (pv 5) (aa (ao b7 (pv 1) ae) ab)))) aj)
   (ac (au (ai cf (kix hu (pv 4) ae) (ao b7 (pv 3) ae) (ah _)) (ad (b6 (bH Mg ME MF bB (pv 5) (aa (ao aH (pv 1) ae) ab)))) aj)
   (ac (au (ai cf (kix hu (pv 4) ae) (ao b7 (pv 2) ae) (ah _)) (ad (b6 (bH Mg ME MF bB (pv 5) (aa (ao aH (pv 1) (pv 3)) ab)))) aj)
   (ad (af (pv 5)))))))))))
abbrev t8:Stmt:=top 16
theorem AR(Ju:rO Z)(D:De Z.K "is_corner" t8):tX Z:=okc Bz D zX bd2 fun hr hu nd=>(ac (kset 2 nd (kcal Ju hr (aa (pv 0) (aa (pv 1) ab))))
   (ad (af (bb (ay cf (kix hu (pv 2) ae) (ao b7 (kix hu (pv 0) ae) ae) (ah _)) (bm (ay cf (kix hu (pv 2) ae) (ao b7 (kix hu (pv 0) ae) ae) (ah _)))))))
abbrev yC:Stmt:=top 23
theorem CU(KJ:AD Z)(IR:km Z)(D:De Z.K "without" yC):rR Z:=okc Bz D Cs bd2 fun hr hu nd=>(ad (af (g8 (aM (kcal IR hr (aa (pv 0) (aa (pv 1) ab)))) (ao b7 (pv 0) (kcal KJ hr (aa (pv 1) ab))) (pv 0))))
abbrev wE:Stmt:=top 25
theorem Bs(IR:km Z)(D:De Z.K "signs_in" wE):cg Z:=okc Bz D Bf bd1 fun hr hu nd=>(ad (af (aJ (ix:=[none,none,some 0]) [".0","sign","mask"] (aC rfl (by decide+kernel) rfl rfl rfl) rfl (qJ rfl Bz.range_ (aa ae (aa (ao aH (Dp Ps OS OT vm (pv 0)) ae) ab))) (fun cl s H fp=>(aq (i:=1) (show([".0","sign","mask"]:List Str).Nodup by decide+kernel) rfl (Or.inl rfl))) (fun cl s H fp=>(ba (aM (kcal IR hr (aa (pv 2) (aa (pv 1) ab)))))) (fun cl s H fp=>(pv 1)))))
abbrev yD:Stmt:=top 32
theorem CV(IK:gw Z)(IE:cP Z)(D:De Z.K "is_cell" yD):rS Z:=okc Bz D Ct bd2 fun hr hu nd=>(ad (af (bb (kcal IK hr (aa (pv 1) ab)) (bb (ay gO ae (pv 1) (ah _)) (bm (ay cf (pv 1) (kcal IE hr (aa (pv 0) ab)) (ah _)))))))
abbrev yE:Stmt:=top 34
theorem CW{c:RCl RK}(Lc:ED Z c)(JA:GDict Z.w Z.K Z.mg "RULES_OF_KIND" gd_RULES_OF_KIND)(D:De Z.K "goes_by" yE):rT Z c:=okc Bz D Cv bd2 fun hr hu nd=>(ad (af (zq (ay (aw hu) (pv 0) av (ah _)) (bm (ay Hl (aI Lc hr (by decide) (pv 1)) (Hk JA (pv 0) rfl (fun _ _=>rfl)) (by with_unfolding_all rfl))))))
abbrev AS:Stmt:=top 37
theorem EH{c:RCl RK}(IL:iN Z c)(D:De Z.K "others" AS):cQ Z c:=okc Bz D DX bd2 fun hr hu nd=>(ad (af (aJ (ix:=[none,none,some 1]) [".0","spot","cell"] (aC rfl (by decide+kernel) rfl rfl rfl) rfl (aB (aI IL hr (by decide) (pv 0))) (fun cl s H fp=>(aq (i:=1) (show([".0","spot","cell"]:List Str).Nodup by decide+kernel) rfl (Or.inl rfl))) (fun cl s H fp=>(ba (ai (aT hu) (pv 1) (pv 2) (ah _)))) (fun cl s H fp=>(pv 1)))))
abbrev wF:Stmt:=top 40
theorem Bu(IR:km Z)(D:De Z.K "many_may" wF):lH Z:=okc Bz D Bh bd2 fun hr hu nd=>(ad (af (ar aG rfl Bz.len_ aO (aa (aJ (ix:=[none,none,some 1]) [".0","mask","sign"] (aC rfl (by decide+kernel) rfl rfl rfl) rfl (aB (pv 0)) (fun cl s H fp=>(aq (i:=1) (show([".0","mask","sign"]:List Str).Nodup by decide+kernel) rfl (Or.inl rfl))) (fun cl s H fp=>(ba (aM (kcal IR hr (aa (pv 1) (aa (pv 2) ab)))))) (fun cl s H fp=>(pv 1))) ab))))
abbrev wG:Stmt:=top 46
theorem Bv{c:RCl RK}(IL:iN Z c)(D:De Z.K "ahead_of" wG):wr Z c:=okc Bz D Bi bd2 fun hr hu nd=>(ac (kset 2 nd (aI IL hr (by decide) (pv 0)))
   (ac (kset 3 nd (bH Mg Nc Nd (iH hu) (pv 2) (aa (pv 1) ab)))
   (ad (af (g8 (ai fV (pv 3) ae (ah _)) (dQ ly (pv 2) (dC (ao b7 (pv 3) ae)) (dC (pv 3))) (az ab))))))
abbrev AT:Stmt:=top 47
theorem EI{c:RCl RK}(IL:iN Z c)(D:De Z.K "behind" AT):AE Z c:=okc Bz D DZ bd2 fun hr hu nd=>(ac (kset 2 nd (aI IL hr (by decide) (pv 0)))
   (ac (kset 3 nd (bH Mg Nc Nd (iH hu) (pv 2) (aa (pv 1) ab)))
   (ad (af (dQ ly (pv 2) (dC (ao aH (pv 3) ae)) (dC (ao aH (pv 3) ae)))))))
abbrev mH:Stmt:=top 60
theorem tI(Jf:ot Z)(D:De Z.K "with_each_sign" mH):mC Z:=okc Bz D tF bd3 fun hr hu nd=>(ac (kset 3 nd (az ab))
   (ac (be Mq rfl (aB (pv 0)) (aq (i:=4) nd rfl (Or.inr rfl))
   (ad (b6 (bH Mg Pf Pg vf (pv 3) (aa (aJ (ix:=[none,none,some 1,some 4]) [".0","sign","cell","filling"] (aC rfl (by decide+kernel) rfl rfl rfl) rfl (aB (pv 2)) (fun cl s H fp=>(aq (i:=1) (show([".0","sign","cell","filling"]:List Str).Nodup by decide+kernel) rfl (Or.inl rfl))) (fun cl s H fp=>aW) (fun cl s H fp=>(kcal Jf hr (aa (pv 3) (aa (pv 2) (aa (pv 1) ab)))))) ab)))))
   (ad (af (pv 3)))))
abbrev o9:Stmt:=top 84
theorem wH{c:RCl RK}{d:RCl PzK}(IE:cP Z)(IV:lL Z c d)(IJ:iM Z c d)(IL:iN Z c)(D:De Z.K "cells_to_try" o9):oK Z c d:=okc Bz D vX bd3 fun hr hu nd=>(ac (au (ai (aw hu) (pv 1) av (ah _)) (ad (af (nL rfl rfl rfl Bz.list_ Bz.range_ (aa (kcal IE hr (aa (aI IV hr (by decide) (pv 0)) ab)) ab)))) aj)
   (ad (af (ar iQ rfl Bz.sorted_ mO (aa (aI IL hr (by decide) (kix hu (aI IJ hr (by decide) (pv 0)) (pv 2))) ab)))))
abbrev pb:Stmt:=mtop 92 0
theorem wI{c:RCl RK}(IQ:jP Z c){f:Addr}(D:Me Z.K "holds" "Unlike.holds" pb f):Mo Z 2 f ["self","filling"] (mR Z.K c):=okm D vC bd2 fun hr hu nd=>(ac (kset 2 nd (ce IQ hr (by decide) (pv 0) (aa (pv 1) ab)))
   (ad (af (ay (aw hu) (yj rfl rfl rfl Bz.len_ Bz.set_ (pv 2)) (ar aG rfl Bz.len_ aO (aa (pv 2) ab)) (ah _)))))
abbrev t9:Stmt:=mtop 93 1
theorem AU{c:RCl RK}(II:FldK Z.K c "amount")(IQ:jP Z c){f:Addr}(D:Me Z.K "holds" "Sum.holds" t9 f):Mo Z 2 f ["self","filling"] (rz Z.K c):=okm D Af bd2 fun hr hu nd=>(ad (af (ay (aw hu) (ar (qW rfl) rfl Bz.sum_ zN (aa (ce IQ hr (by decide) (pv 0) (aa (pv 1) ab)) ab)) (bz (pv 0) II) (ah _))))
abbrev pc:Stmt:=mtop 94 1
theorem wJ{c:RCl RK}(IQ:jP Z c){f:Addr}(D:Me Z.K "holds" "Rising.holds" pc f):Mo Z 2 f ["self","filling"] (mV Z.K c):=okm D vO bd2 fun hr hu nd=>(ac (d8 (i:=2) nd rfl (Or.inr rfl) (ce IQ hr (by decide) (pv 0) (aa (pv 1) ab)))
   (ad (af (ar (di rfl) rfl Bz.all_ iY (aa (aJ (ix:=[none,none,some 2]) [".0","place","signs"] (aC rfl (by decide+kernel) rfl rfl rfl) rfl (bX rfl Bz.range_ (aa (ao b7 (ar aG rfl Bz.len_ aO (aa (pv 2) ab)) ae) ab)) (fun cl s H fp=>(aq (i:=1) (show([".0","place","signs"]:List Str).Nodup by decide+kernel) rfl (Or.inl rfl))) (fun cl s H fp=>aW) (fun cl s H fp=>(ay cf (kix hu (pv 2) (pv 1)) (kix hu (pv 2) (ao aH (pv 1) ae)) (ah _)))) ab)))))
abbrev sy:Stmt:=mtop 95 1
theorem zd{c:RCl RK}(II:FldK Z.K c "amount")(IQ:jP Z c){f:Addr}(D:Me Z.K "holds" "Seen.holds" sy f):Mo Z 2 f ["self","filling"] (qm Z.K c):=okm D yU bd2 fun hr hu nd=>(ac (kset 2 nd ae)
   (ac (kset 3 nd ae)
   (ac (be Mq rfl (aB (ce IQ hr (by decide) (pv 0) (aa (pv 1) ab))) (aq (i:=4) nd rfl (Or.inl rfl))
   (ad (au (ai fV (pv 4) (pv 2) (ah _)) (ac (kset 2 nd (pv 4))
   (ad (kset 3 nd (ao aH (pv 3) ae)))) aj)))
   (ad (af (ay (aw hu) (pv 3) (bz (pv 0) II) (ah _)))))))
abbrev qy:Stmt:=mtop 96 0
theorem xS{c:RCl RK}(II:FldK Z.K c "amount")(Jc:iG Z c){f:Addr}(D:Me Z.K "holds" "Count.holds" qy f):Mo Z 2 f ["self","filling"] (oF Z.K c):=okm D xw bd2 fun hr hu nd=>(ad (af (ay (aw hu) (ar aG rfl Bz.len_ aO (aa (ce Jc hr (by decide) (pv 0) (aa (pv 1) ab)) ab)) (bz (pv 0) II) (ah _))))
abbrev nv:Stmt:=top 108
theorem uO(Km:tW Z)(D:De Z.K "number_within" nv):jO Z:=okc Bz D uq bd3 fun hr hu nd=>(ac (kset 3 nd (kcal Km hr (aa (pv 0) ab)))
   (ac (au (N9 (bt (ai uZ (pv 3) d7 (ah _)) (bt (ai cf (pv 3) (pv 1) (ah _)) (bS (ai fV (pv 3) (pv 2) (ah _)))))) (ad bG) aj)
   (ad (af (pv 3)))))
abbrev sA:Stmt:=top 118
theorem ze(IK:gw Z)(IE:cP Z)(D:De Z.K "is_filling" sA):rV Z:=okc Bz D yR bd3 fun hr hu nd=>(ac (au (N9 (bt (bi (aM (ar bQ rfl Bz.isinstance_ aY (aa (pv 1) (aa (cq (v:=.ty "list") rfl Bz.list_ dF rfl) ab))))) (bS (ai (aT hu) (ar aG rfl Bz.len_ aO (aa (pv 1) ab)) (kcal IE hr (aa (pv 0) ab)) (ah _))))) (ad (af br)) aj)
   (ad (af (ar (di rfl) rfl Bz.all_ iY (aa (aJ (ix:=[none,none,some 0,some 2]) [".0","sign","floor","least"] (aC rfl (by decide+kernel) rfl rfl rfl) rfl (aB (pv 1)) (fun cl s H fp=>(aq (i:=1) (show([".0","sign","floor","least"]:List Str).Nodup by decide+kernel) rfl (Or.inl rfl))) (fun cl s H fp=>aW) (fun cl s H fp=>(bb (kcal IK hr (aa (pv 1) ab)) (bb (ay gO (pv 3) (pv 1) (ah _)) (bm (ay gO (pv 1) (kix hu (pv 2) ae) (ah _))))))) ab)))))
abbrev wK:Stmt:=top 125
theorem Bw(Je:mB Z)(D:De Z.K "_law_row" wK):wt Z:=okc Bz D y4 bd3 fun hr hu nd=>(ac (kset 3 nd (kix hu (az (aa av (aa av (aa av (aa av (aa av (aa av (aa av (aa av (aa av (aa av ab))))))))))) (ao aR (pv 0) ae)))
   (ac (au (ai (dE hu) (pv 3) (cy (aa av (aa av (aa av ab)))) (by with_unfolding_all rfl)) (ad (af (ao aH (ao aH (pv 3) av) (bu yh rfl Bz.str_ vh (aa (ao aH ae (ao aR (ao bh (pv 0) ae) (pv 2))) ab))))) aj)
   (ac (kset 4 nd (dQ ly (kcal Je hr (aa (ao bh (pv 0) ae) (aa (pv 1) ab))) jZ (dC (ao aH ae (ao aR (ao bh (pv 0) ae) (pv 1))))))
   (ac (au (N9 (uW (ai (aw hu) (pv 3) av (ah _)) (sN (ai (aw hu) (ao aR (ao bh (pv 0) ae) ae) ae (ah _))))) (ad (kset 4 nd (dQ ly (pv 4) jZ (dC (pv 2))))) aj)
   (ac (kset 5 nd (az ab))
   (ac (au (ai (aw hu) (pv 3) av (ah _)) (ad (kset 5 nd (az (aa (ao aH (ar aG rfl Bz.len_ aO (aa (pv 4) ab)) (ao aR (ao bh (pv 0) ae) (ao aH (ar aG rfl Bz.len_ aO (aa (pv 4) ab)) ae))) ab)))) aj)
   (ac (au (ai (aw hu) (pv 3) av (ah _)) (ad (kset 5 nd (az (aa (ao aH ae (ao aR (ao bh (pv 0) ae) ae)) ab)))) aj)
   (ac (au (ai (aw hu) (pv 3) av (ah _)) (ad (kset 5 nd (az (aa (ao aR (ao bh (pv 0) ae) (ao aH (ar aG rfl Bz.len_ aO (aa (pv 4) ab)) ae)) (aa (ao aH ae (ao aR (ao bh (pv 0) ae) (pv 2))) ab))))) aj)
   (ad (af (bH Pt PySem.F.slot_str_join PySem.F.type_str_join DN av (aa (ao aH (az (aa (pv 3) ab)) (aJ (ix:=[none,none]) [".0","_law_one"] (aC rfl (by decide+kernel) rfl rfl rfl) rfl (aB (ao aH (pv 5) (pv 4))) (fun cl s H fp=>(aq (i:=1) (show([".0","_law_one"]:List Str).Nodup by decide+kernel) rfl (Or.inl rfl))) (fun cl s H fp=>aW) (fun cl s H fp=>(bu yh rfl Bz.str_ vh (aa (pv 1) ab))))) ab))))))))))))
abbrev sB:Stmt:=top 127
theorem zg(IH:gx Z)(D:De Z.K "_law_masks" sB):rW Z:=okc Bz D wn bd3 fun hr hu nd=>(ac (kset 3 nd (az ab))
   (ac (be Mq rfl (bX rfl Bz.range_ (aa (pv 1) ab)) (aq (i:=4) nd rfl (Or.inl rfl))
   (ac (kset 5 nd (ao aR (ao bw (ao aH (kcal IH hr (aa (pv 0) (aa (ao aH ae (pv 4)) ab))) (ao bw (ao bw ae (pv 4)) (pv 4))) ae) ae))
   (ad (b6 (bH Mg ME MF bB (pv 3) (aa (ao aH ae (ao aR (pv 5) (ao b7 (kix hu (az (aa ae (aa ae (aa ae (aa ae ab))))) (pv 2)) ae))) ab))))))
   (ac (kset 5 nd (ao aR (ao bw (kcal IH hr (aa (pv 0) (aa ae ab))) ae) ae))
   (ac (au (ai (aw hu) (ao aR (pv 5) ae) ae (ah _)) (ad (Dc ae (GL (pv 3) (ao aR (ao bh (pv 5) ae) (pv 1)) (Ia hu)))) aj)
   (ad (af (pv 3)))))))
abbrev wL:Stmt:=top 12
theorem Bx(IN:iF Z){t_MOST_CELLS:Tok}(J6:Z.mg "MOST_CELLS"=some (.int 16 t_MOST_CELLS)){t_MOST_SIDE:Tok}(JX:Z.mg "MOST_SIDE"=some (.int 6 t_MOST_SIDE)){t_MOST_SIGNS:Tok}(J7:Z.mg "MOST_SIGNS"=some (.int 6 t_MOST_SIGNS))(D:De Z.K "floor_of" wL):wu Z:=okc Bz D Bc bd3 fun hr hu nd=>(ac (au (bi (aM (kcal IN hr (aa (pv 0) (aa (cp rfl JX ⟨t_MOST_SIDE,rfl⟩) ab))))) (ad bG) aj)
   (ac (au (bi (aM (kcal IN hr (aa (pv 1) (aa (cp rfl JX ⟨t_MOST_SIDE,rfl⟩) ab))))) (ad bG) aj)
   (ac (au (ai fV (ao bw (pv 0) (pv 1)) (cp rfl J6 ⟨t_MOST_CELLS,rfl⟩) (ah _)) (ad bG) aj)
   (ac (au (bi (aM (kcal IN hr (aa (pv 2) (aa (cp rfl J7 ⟨t_MOST_SIGNS,rfl⟩) ab))))) (ad bG) aj)
   (ad (af (cy (aa (pv 0) (aa (pv 1) (aa (pv 2) ab))))))))))
abbrev yF:Stmt:=top 18
theorem CY(Kn:tX Z)(IE:cP Z)(Ko:tU Z)(D:De Z.K "squares" yF):mZ Z:=okc Bz D Cq bd1 fun hr hu nd=>(ad (af (aJ (ix:=[none,none,some 0]) [".0","cell","floor"] (aC rfl (by decide+kernel) rfl rfl rfl) rfl (bX rfl Bz.range_ (aa (kcal IE hr (aa (pv 0) ab)) ab)) (fun cl s H fp=>(aq (i:=1) (show([".0","cell","floor"]:List Str).Nodup by decide+kernel) rfl (Or.inl rfl))) (fun cl s H fp=>(ba (aM (kcal Kn hr (aa (pv 2) (aa (pv 1) ab)))))) (fun cl s H fp=>(kcal Ko hr (aa (pv 2) (aa (pv 1) ab)))))))
abbrev yG:Stmt:=top 19
theorem CZ(IO:kn Z)(D:De Z.K "reached" yG):m3 Z:=okc Bz D CA bd3 fun hr hu nd=>(ac (au (ai (cj hu) (pv 2) (pv 1) (by with_unfolding_all rfl)) (ad (af (az ab))) aj)
   (ac (kset 3 nd (az (aa (pv 2) ab)))
   (ac (kset 4 nd ae)
   (ac (EN Mq (ai cf (pv 4) (ar aG rfl Bz.len_ aO (aa (pv 3) ab)) (ah _))
   (ac (be Mq rfl (aB (kcal IO hr (aa (pv 0) (aa (kix hu (pv 3) (pv 4)) ab)))) (aq (i:=5) nd rfl (Or.inl rfl))
   (ad (au (N9 (uW (ai (dE hu) (pv 5) (pv 1) (by with_unfolding_all rfl)) (sN (ai (cj hu) (pv 5) (pv 3) (by with_unfolding_all rfl))))) (ad (b6 (bH Mg ME MF bB (pv 3) (aa (pv 5) ab)))) aj)))
   (ad (kset 4 nd (ao aH (pv 4) ae)))))
   (ad (af (ar iQ rfl Bz.sorted_ mO (aa (pv 3) ab))))))))
abbrev wM:Stmt:=top 24
theorem By(Jv:rR Z)(D:De Z.K "has_only" wM):d6 Z:=okc Bz D Be bd2 fun hr hu nd=>(ad (af (ay (aw hu) (kcal Jv hr (aa (pv 0) (aa (pv 1) ab))) ae (ah _))))
abbrev AV:Stmt:=top 26
theorem EJ(Jv:rR Z)(D:De Z.K "struck" AV):AF Z:=okc Bz D Ek bd3 fun hr hu nd=>(ad (af (aJ (ix:=[none,none,none,some 1,some 2]) [".0","place","mask","cell","sign"] (aC rfl (by decide+kernel) rfl rfl rfl) rfl (xf rfl Bz.enumerate_ (aa (pv 0) ab)) (fun cl s H fp=>(uX rfl (fU (aq (i:=1) (show([".0","place","mask","cell","sign"]:List Str).Nodup by decide+kernel) rfl (Or.inl rfl)) (fU (aq (i:=2) (show([".0","place","mask","cell","sign"]:List Str).Nodup by decide+kernel) rfl (Or.inl rfl)) sO)))) (fun cl s H fp=>aW) (fun cl s H fp=>(g8 (ai (aw hu) (pv 1) (pv 3) (ah _)) (kcal Jv hr (aa (pv 2) (aa (pv 4) ab))) (pv 2))))))
abbrev EK:Stmt:=top 28
theorem GF(IC:cg Z)(D:De Z.K "ways" EK):EC Z:=okc Bz D Gf bd1 fun hr hu nd=>(ac (kset 1 nd ae)
   (ac (be Mq rfl (aB (pv 0)) (aq (i:=2) nd rfl (Or.inl rfl))
   (ad (kset 1 nd (ao bw (pv 1) (ar aG rfl Bz.len_ aO (aa (kcal IC hr (aa (pv 2) ab)) ab))))))
   (ad (af (pv 1)))))
abbrev yH:Stmt:=top 33
theorem C0(IN:iF Z)(D:De Z.K "is_sign" yH):rX Z:=okc Bz D Cu bd2 fun hr hu nd=>(ad (af (kcal IN hr (aa (pv 1) (aa (kix hu (pv 0) ae) ab)))))
abbrev pf:Stmt:=top 35
theorem wN{c:RCl RK}{d:RCl PzK}(Jw:rT Z c)(IK:gw Z)(IJ:iM Z c d)(IL:iN Z c)(D:De Z.K "has_its_rule" pf):oM Z c d:=okc Bz D vH bd4 fun hr hu nd=>(ac (au (N9 (bt (bi (aM (kcal IK hr (aa (pv 2) ab)))) (bS (ai cf (pv 2) ae (ah _))))) (ad (af br)) aj)
   (ac (au (ai (aw hu) (pv 1) av (ah _)) (ad (af (ay (aw hu) (pv 2) ae (ah _)))) aj)
   (ac (kset 4 nd (aI IJ hr (by decide) (pv 0)))
   (ac (au (ai ve (pv 2) (ar aG rfl Bz.len_ aO (aa (pv 4) ab)) (ah _)) (ad (af br)) aj)
   (ad (af (bb (kcal Jw hr (aa (pv 1) (aa (kix hu (pv 4) (pv 2)) ab))) (bm (ay (dE hu) (pv 3) (aI IL hr (by decide) (kix hu (pv 4) (pv 2))) (by with_unfolding_all rfl))))))))))
abbrev nA:Stmt:=top 48
theorem uP(IC:cg Z)(D:De Z.K "is_no_greater" nA):m5 Z:=okc Bz D ux bd2 fun hr hu nd=>(ad (af (ar (di rfl) rfl Bz.all_ iY (aa (aJ (ix:=[none,none,some 0]) [".0","other","sign"] (aC rfl (by decide+kernel) rfl rfl rfl) rfl (aB (kcal IC hr (aa (pv 1) ab))) (fun cl s H fp=>(aq (i:=1) (show([".0","other","sign"]:List Str).Nodup by decide+kernel) rfl (Or.inl rfl))) (fun cl s H fp=>aW) (fun cl s H fp=>(ay gO (pv 2) (pv 1) (ah _)))) ab))))
abbrev sC:Stmt:=top 49
theorem zh(IC:cg Z)(D:De Z.K "is_no_less" sC):rY Z:=okc Bz D yS bd2 fun hr hu nd=>(ad (af (ar (di rfl) rfl Bz.all_ iY (aa (aJ (ix:=[none,none,some 0]) [".0","other","sign"] (aC rfl (by decide+kernel) rfl rfl rfl) rfl (aB (kcal IC hr (aa (pv 1) ab))) (fun cl s H fp=>(aq (i:=1) (show([".0","other","sign"]:List Str).Nodup by decide+kernel) rfl (Or.inl rfl))) (fun cl s H fp=>aW) (fun cl s H fp=>(ay ve (pv 2) (pv 1) (ah _)))) ab))))
abbrev ph:Stmt:=top 52
theorem wO{c:RCl RK}(Jh:jS Z)(ID:cQ Z c)(IC:cg Z)(D:De Z.K "pair_strikes" ph):oN Z c:=okc Bz D vM bd5 fun hr hu nd=>(ac (au (bi (aM (kcal Jh hr (aa (kcal ID hr (aa (pv 0) (aa (pv 2) ab))) (aa (pv 4) ab))))) (ad (af br)) aj)
   (ac (kset 5 nd (kcal IC hr (aa (ao G8 (kix hu (pv 1) (kix hu (pv 4) ae)) (kix hu (pv 1) (kix hu (pv 4) ae))) ab)))
   (ad (af (ay gO (ar aG rfl Bz.len_ aO (aa (aJ (ix:=[none,none,some 3]) [".0","other","sign"] (aC rfl (by decide+kernel) rfl rfl rfl) rfl (aB (pv 5)) (fun cl s H fp=>(aq (i:=1) (show([".0","other","sign"]:List Str).Nodup by decide+kernel) rfl (Or.inl rfl))) (fun cl s H fp=>(ba (ai (aT hu) (pv 1) (pv 2) (ah _)))) (fun cl s H fp=>(pv 1))) ab)) ae (ah _))))))
abbrev qz:Stmt:=top 58
theorem xT{c:RCl RK}(IT:kI Z)(IF:d5 Z)(ID:cQ Z c)(IC:cg Z)(Jk:uL Z c)(D:De Z.K "sum_strikes" qz):qq Z c:=okc Bz D xt bd5 fun hr hu nd=>(ac (au (ai (aT hu) (pv 4) (az ab) (ah _)) (ad (af br)) aj)
   (ac (kset 5 nd (kcal IF hr (aa (pv 1) (aa (kcal ID hr (aa (pv 0) (aa (pv 2) ab))) ab))))
   (ac (au (aM (kcal IT hr (aa (pv 5) ab))) (ad (af br)) aj)
   (ac (kset 6 nd (ao aH (pv 3) (ar (qW rfl) rfl Bz.sum_ zN (aa (aJ (ix:=[none,none]) [".0","mask"] (aC rfl (by decide+kernel) rfl rfl rfl) rfl (aB (pv 5)) (fun cl s H fp=>(aq (i:=1) (show([".0","mask"]:List Str).Nodup by decide+kernel) rfl (Or.inl rfl))) (fun cl s H fp=>aW) (fun cl s H fp=>(kix hu (kcal IC hr (aa (pv 1) ab)) ae))) ab))))
   (ac (kset 7 nd (ao aH (pv 3) (ar (qW rfl) rfl Bz.sum_ zN (aa (aJ (ix:=[none,none]) [".0","mask"] (aC rfl (by decide+kernel) rfl rfl rfl) rfl (aB (pv 5)) (fun cl s H fp=>(aq (i:=1) (show([".0","mask"]:List Str).Nodup by decide+kernel) rfl (Or.inl rfl))) (fun cl s H fp=>aW) (fun cl s H fp=>(kix hu (kcal IC hr (aa (pv 1) ab)) (HN GR ae)))) ab))))
   (ad (af (zq (ay fV (pv 6) (aI Jk hr (by decide) (pv 0)) (ah _)) (bm (ay cf (pv 7) (aI Jk hr (by decide) (pv 0)) (ah _)))))))))))
abbrev AW:Stmt:=top 68
theorem EL(IO:kn Z)(D:De Z.K "around" AW):AG Z:=okc Bz D Ei bd3 fun hr hu nd=>(ad (af (aJ (ix:=[none,none,some 2]) [".0","other","cell"] (aC rfl (by decide+kernel) rfl rfl rfl) rfl (aB (kcal IO hr (aa (pv 0) (aa (pv 1) ab)))) (fun cl s H fp=>(aq (i:=1) (show([".0","other","cell"]:List Str).Nodup by decide+kernel) rfl (Or.inl rfl))) (fun cl s H fp=>(ba (ai (aT hu) (pv 1) (pv 2) (ah _)))) (fun cl s H fp=>(pv 1)))))
abbrev sD:Stmt:=top 79
theorem zi(IO:kn Z)(D:De Z.K "turn_mores" sD):rZ Z:=okc Bz D yX bd2 fun hr hu nd=>(ad (af (ao aH (az (aa (az ab) ab)) (aJ (ix:=[none,none]) [".0","other"] (aC rfl (by decide+kernel) rfl rfl rfl) rfl (aB (kcal IO hr (aa (pv 0) (aa (pv 1) ab)))) (fun cl s H fp=>(aq (i:=1) (show([".0","other"]:List Str).Nodup by decide+kernel) rfl (Or.inl rfl))) (fun cl s H fp=>aW) (fun cl s H fp=>(az (aa (pv 1) ab)))))))
abbrev sE:Stmt:=top 80
theorem zj{c:RCl RK}(ID:cQ Z c)(IC:cg Z)(IL:iN Z c)(D:De Z.K "pair_mores" sE):r8 Z c:=okc Bz D yY bd3 fun hr hu nd=>(ac (d8 (i:=3) nd rfl (Or.inr rfl) (aI IL hr (by decide) (pv 0)))
   (ac (j2 (k:=4) nd rfl (Or.inl rfl) rfl (ix:=[none,none,some 1]) [".0","other","masks"] (aC rfl (by decide+kernel) rfl rfl rfl) rfl (aB (ar iQ rfl Bz.sorted_ mO (aa (kcal ID hr (aa (pv 0) (aa (pv 2) ab))) ab))) (fun cl s H fp=>(aq (i:=1) (show([".0","other","masks"]:List Str).Nodup by decide+kernel) rfl (Or.inl rfl))) (fun cl s H fp=>(ba (ai gO (ar aG rfl Bz.len_ aO (aa (kcal IC hr (aa (kix hu (pv 2) (pv 1)) ab)) ab)) ae (ah _)))) (fun cl s H fp=>(pv 1)))
   (ac (kset 5 nd (az ab))
   (ac (be Mq rfl (aB (pv 4)) (aq (i:=6) nd rfl (Or.inr rfl))
   (ad (b6 (bH Mg Pf Pg vf (pv 5) (aa (aJ (ix:=[none,none,some 6,some 3]) [".0","second","first","spots"] (aC rfl (by decide+kernel) rfl rfl rfl) rfl (aB (pv 4)) (fun cl s H fp=>(aq (i:=1) (show([".0","second","first","spots"]:List Str).Nodup by decide+kernel) rfl (Or.inl rfl))) (fun cl s H fp=>(ba (ai cf (bH Mg Nc Nd (iH hu) (pv 3) (aa (pv 2) ab)) (bH Mg Nc Nd (iH hu) (pv 3) (aa (pv 1) ab)) (ah _)))) (fun cl s H fp=>(az (aa (pv 2) (aa (pv 1) ab))))) ab)))))
   (ad (af (pv 5)))))))
abbrev pi:Stmt:=top 83
theorem wP{c:RCl RK}{d:RCl PzK}(Jw:rT Z c)(IJ:iM Z c d)(D:De Z.K "rule_numbers" pi):oO Z c d:=okc Bz D vW bd2 fun hr hu nd=>(ac (au (ai (aw hu) (pv 1) av (ah _)) (ad (af (az (aa ae ab)))) aj)
   (ad (af (aJ (ix:=[none,none,none,some 1]) [".0","number","rule","kind"] (aC rfl (by decide+kernel) rfl rfl rfl) rfl (xf rfl Bz.enumerate_ (aa (aI IJ hr (by decide) (pv 0)) ab)) (fun cl s H fp=>(uX rfl (fU (aq (i:=1) (show([".0","number","rule","kind"]:List Str).Nodup by decide+kernel) rfl (Or.inl rfl)) (fU (aq (i:=2) (show([".0","number","rule","kind"]:List Str).Nodup by decide+kernel) rfl (Or.inl rfl)) sO)))) (fun cl s H fp=>(ba (aM (kcal Jw hr (aa (pv 3) (aa (pv 2) ab)))))) (fun cl s H fp=>(pv 1))))))
abbrev iO:Stmt:=mtop 99 1
theorem ou{c:RCl RK}(IO:kn Z)(IP:FldK Z.K c "floor"){f:Addr}(D:Me Z.K "has_two_beside" "Ring.has_two_beside" iO f):Mo Z 3 f ["self","cells","cell"] (gU Z.K c):=okm D oe bd3 fun hr hu nd=>(ad (af (ay (aw hu) (ar aG rfl Bz.len_ aO (aa (aJ (ix:=[none,none,some 1]) [".0","other","cells"] (aC rfl (by decide+kernel) rfl rfl rfl) rfl (aB (kcal IO hr (aa (bz (pv 0) IP) (aa (pv 2) ab)))) (fun cl s H fp=>(aq (i:=1) (show([".0","other","cells"]:List Str).Nodup by decide+kernel) rfl (Or.inl rfl))) (fun cl s H fp=>(ba (ai (dE hu) (pv 1) (pv 2) (by with_unfolding_all rfl)))) (fun cl s H fp=>(pv 1))) ab)) ae (ah _))))
abbrev pj:Stmt:=top 109
theorem wQ(IY:jO Z)(D:De Z.K "first_within" pj):oP Z:=okc Bz D vw bd3 fun hr hu nd=>(ac (au (ai (aw hu) (pv 0) (az ab) (ah _)) (ad bG) aj)
   (ad (af (kcal IY hr (aa (kix hu (pv 0) ae) (aa (pv 1) (aa (pv 2) ab)))))))
abbrev sF:Stmt:=top 110
theorem zk(IE:cP Z)(IY:jO Z)(D:De Z.K "told_cells" sF):sd Z:=okc Bz D yP bd2 fun hr hu nd=>(ac (j2 (k:=2) nd rfl (Or.inl rfl) rfl (ix:=[none,none,some 0]) [".0","word","floor"] (aC rfl (by decide+kernel) rfl rfl rfl) rfl (aB (pv 1)) (fun cl s H fp=>(aq (i:=1) (show([".0","word","floor"]:List Str).Nodup by decide+kernel) rfl (Or.inl rfl))) (fun cl s H fp=>aW) (fun cl s H fp=>(kcal IY hr (aa (pv 1) (aa ae (aa (ao b7 (kcal IE hr (aa (pv 2) ab)) ae) ab))))))
   (ac (au (ai (aw hu) (pv 2) (az ab) (ah _)) (ad bG) aj)
   (ac (au (ai (aT hu) (yj rfl rfl rfl Bz.len_ Bz.set_ (pv 2)) (ar aG rfl Bz.len_ aO (aa (pv 2) ab)) (ah _)) (ad bG) aj)
   (ad (af (pv 2))))))
abbrev yI:Stmt:=top 112
theorem C2{c:RCl RK}(K0:aL Z "Count" (c.A .Count) c)(KK:aL Z "Joined" (c.A .Joined) c)(Kw:aL Z "NoSquare" (c.A .NoSquare) c)(Ld:aL Z "Ring" (c.A .Ring) c)(KL:aL Z "Rising" (c.A .Rising) c)(Le:aL Z "Seen" (c.A .Seen) c)(K_Sum:aL Z "Sum" (c.A .Sum) c)(KM:aL Z "Unlike" (c.A .Unlike) c)(D:De Z.K "rule_by" yI):yy Z c:=okc Bz D Cr bd5 fun hr hu nd=>(ac (kset 5 nd (kix hu (pv 1) ae))
   (ac (au (ai (aw hu) (pv 5) av (ah _)) (ad (af (lB KM hr (by decide) rfl (aa (pv 0) (aa (pv 1) (aa (pv 2) (aa (pv 3) (aa (pv 4) ab)))))))) aj)
   (ac (au (ai (aw hu) (pv 5) av (ah _)) (ad (af (lB K_Sum hr (by decide) rfl (aa (pv 0) (aa (pv 1) (aa (pv 2) (aa (pv 3) (aa (pv 4) ab)))))))) aj)
   (ac (au (ai (aw hu) (pv 5) av (ah _)) (ad (af (lB KL hr (by decide) rfl (aa (pv 0) (aa (pv 1) (aa (pv 2) (aa (pv 3) (aa (pv 4) ab)))))))) aj)
   (ac (au (ai (aw hu) (pv 5) av (ah _)) (ad (af (lB Le hr (by decide) rfl (aa (pv 0) (aa (pv 1) (aa (pv 2) (aa (pv 3) (aa (pv 4) ab)))))))) aj)
   (ac (au (ai (aw hu) (pv 5) av (ah _)) (ad (af (lB K0 hr (by decide) rfl (aa (pv 0) (aa (pv 1) (aa (pv 2) (aa (pv 3) (aa (pv 4) ab)))))))) aj)
   (ac (au (ai (aw hu) (pv 5) av (ah _)) (ad (af (lB KK hr (by decide) rfl (aa (pv 0) (aa (pv 1) (aa (pv 2) (aa (pv 3) (aa (pv 4) ab)))))))) aj)
   (ac (au (ai (aw hu) (pv 5) av (ah _)) (ad (af (lB Kw hr (by decide) rfl (aa (pv 0) (aa (pv 1) (aa (pv 2) (aa (pv 3) (aa (pv 4) ab)))))))) aj)
   (ac (au (ai (aw hu) (pv 5) av (ah _)) (ad (af (lB Ld hr (by decide) rfl (aa (pv 0) (aa (pv 1) (aa (pv 2) (aa (pv 3) (aa (pv 4) ab)))))))) aj)
   (ad bG))))))))))
abbrev nD:Stmt:=top 119
theorem uQ(J8:rV Z)(D:De Z.K "checked_clues" nD):m6 Z:=okc Bz D ut bd2 fun hr hu nd=>(ac (au (bi (aM (kcal J8 hr (aa (pv 0) (aa (pv 1) (aa ae ab)))))) (ad bG) aj)
   (ad (af (bu dR rfl Bz.list_ dF (aa (pv 1) ab)))))
abbrev uc:Stmt:=top 36
theorem AX{c:RCl RK}{d:RCl PzK}(JK:oM Z c d)(Jx:rS Z)(Jy:rX Z)(IK:gw Z)(IV:lL Z c d)(Jg:GTup Z.K Z.mg "KINDS" gt_KINDS)(D:De Z.K "is_formed" uc):tY Z c d:=okc Bz D Aa bd2 fun hr hu nd=>(ac (au (N9 (bt (bi (aM (ar bQ rfl Bz.isinstance_ aY (aa (pv 1) (aa (cq (v:=.ty "tuple") rfl Bz.tuple_ g9 rfl) ab))))) (bt (ai (aT hu) (ar aG rfl Bz.len_ aO (aa (pv 1) ab)) ae (ah _)) (bS (BS Jg (kix hu (pv 1) ae) rfl))))) (ad (af br)) aj)
   (ac (kset 2 nd (aI IV hr (by decide) (pv 0)))
   (ac (au (N9 (bt (bi (aM (kcal Jx hr (aa (pv 2) (aa (kix hu (pv 1) ae) ab))))) (bS (bi (aM (kcal Jy hr (aa (pv 2) (aa (kix hu (pv 1) ae) ab)))))))) (ad (af br)) aj)
   (ac (au (bi (aM (kcal JK hr (aa (pv 0) (aa (kix hu (pv 1) ae) (aa (kix hu (pv 1) ae) (aa (kix hu (pv 1) ae) ab))))))) (ad (af br)) aj)
   (ad (af (bb (ar bQ rfl Bz.isinstance_ aY (aa (kix hu (pv 1) ae) (aa (cq (v:=.ty "list") rfl Bz.list_ dF rfl) ab))) (bm (ar (di rfl) rfl Bz.all_ iY (aa (aJ (ix:=[none,none]) [".0","part"] (aC rfl (by decide+kernel) rfl rfl rfl) rfl (aB (kix hu (pv 1) ae)) (fun cl s H fp=>(aq (i:=1) (show([".0","part"]:List Str).Nodup by decide+kernel) rfl (Or.inl rfl))) (fun cl s H fp=>aW) (fun cl s H fp=>(kcal IK hr (aa (pv 1) ab)))) ab))))))))))
abbrev ud:Stmt:=top 39
theorem AY(IG:d6 Z)(D:De Z.K "many_only" ud):kC Z:=okc Bz D Ac bd2 fun hr hu nd=>(ad (af (ar aG rfl Bz.len_ aO (aa (aJ (ix:=[none,none,some 1]) [".0","mask","sign"] (aC rfl (by decide+kernel) rfl rfl rfl) rfl (aB (pv 0)) (fun cl s H fp=>(aq (i:=1) (show([".0","mask","sign"]:List Str).Nodup by decide+kernel) rfl (Or.inl rfl))) (fun cl s H fp=>(ba (aM (kcal IG hr (aa (pv 1) (aa (pv 2) ab)))))) (fun cl s H fp=>(pv 1))) ab))))
abbrev pk:Stmt:=top 44
theorem wR{c:RCl RK}(IG:d6 Z)(ID:cQ Z c)(D:De Z.K "only_strikes" pk):oQ Z c:=okc Bz D vK bd5 fun hr hu nd=>(ad (af (bb (ay (aw hu) (ar aG rfl Bz.len_ aO (aa (pv 4) ab)) ae (ah _)) (bb (ay (dE hu) (kix hu (pv 4) ae) (kcal ID hr (aa (pv 0) (aa (pv 2) ab))) (by with_unfolding_all rfl)) (bm (kcal IG hr (aa (kix hu (pv 1) (kix hu (pv 4) ae)) (aa (pv 3) ab))))))))
abbrev nE:Stmt:=top 45
theorem uR{c:RCl RK}(Jy:rX Z)(IW:lH Z)(IF:d5 Z)(ID:cQ Z c)(IL:iN Z c)(D:De Z.K "place_strikes" nE):m7 Z c:=okc Bz D uv bd6 fun hr hu nd=>(ac (au (N9 (bt (ai (aT hu) (ar aG rfl Bz.len_ aO (aa (aI IL hr (by decide) (pv 1)) ab)) (kix hu (pv 0) ae) (ah _)) (bS (ai (aT hu) (ar aG rfl Bz.len_ aO (aa (pv 5) ab)) ae (ah _))))) (ad (af br)) aj)
   (ac (au (N9 (bt (ai (aw hu) (kix hu (pv 5) ae) (pv 4) (ah _)) (bS (bi (aM (kcal Jy hr (aa (pv 0) (aa (kix hu (pv 5) ae) ab)))))))) (ad (af br)) aj)
   (ad (af (ay (aw hu) (kcal IW hr (aa (kcal IF hr (aa (pv 2) (aa (kcal ID hr (aa (pv 1) (aa (pv 3) ab))) ab))) (aa (kix hu (pv 5) ae) ab))) ae (ah _))))))
abbrev pp:Stmt:=top 50
theorem wS{c:RCl RK}(Kx:wr Z c)(KN:AE Z c)(JB:m5 Z)(J9:rY Z)(D:De Z.K "step_strikes" pp):oR Z c:=okc Bz D vN bd5 fun hr hu nd=>(ac (au (ai (aT hu) (pv 4) (az ab) (ah _)) (ad (af br)) aj)
   (ac (au (aM (ar (qV rfl) rfl Bz.any_ zJ (aa (aJ (ix:=[none,none,some 1,some 3]) [".0","other","masks","sign"] (aC rfl (by decide+kernel) rfl rfl rfl) rfl (aB (kcal Kx hr (aa (pv 0) (aa (pv 2) ab)))) (fun cl s H fp=>(aq (i:=1) (show([".0","other","masks","sign"]:List Str).Nodup by decide+kernel) rfl (Or.inl rfl))) (fun cl s H fp=>aW) (fun cl s H fp=>(kcal JB hr (aa (pv 3) (aa (kix hu (pv 2) (pv 1)) ab))))) ab))) (ad (af br)) aj)
   (ad (af (ar (qV rfl) rfl Bz.any_ zJ (aa (aJ (ix:=[none,none,some 1,some 3]) [".0","other","masks","sign"] (aC rfl (by decide+kernel) rfl rfl rfl) rfl (aB (kcal KN hr (aa (pv 0) (aa (pv 2) ab)))) (fun cl s H fp=>(aq (i:=1) (show([".0","other","masks","sign"]:List Str).Nodup by decide+kernel) rfl (Or.inl rfl))) (fun cl s H fp=>aW) (fun cl s H fp=>(kcal J9 hr (aa (pv 3) (aa (kix hu (pv 2) (pv 1)) ab))))) ab))))))
abbrev mI:Stmt:=top 64
theorem tJ(Jb:mZ Z)(D:De Z.K "rest_of_square" mI):mD Z:=okc Bz D tu bd3 fun hr hu nd=>(ac (be Mq rfl (aB (kcal Jb hr (aa (pv 0) ab))) (aq (i:=3) nd rfl (Or.inl rfl))
   (ad (au (N9 (uW (ai (aw hu) (kix hu (pv 3) ae) (pv 1) (ah _)) (sN (ai (dE hu) (pv 2) (pv 3) (by with_unfolding_all rfl))))) (ad (af (aJ (ix:=[none,none,some 2]) [".0","other","cell"] (aC rfl (by decide+kernel) rfl rfl rfl) rfl (aB (pv 3)) (fun cl s H fp=>(aq (i:=1) (show([".0","other","cell"]:List Str).Nodup by decide+kernel) rfl (Or.inl rfl))) (fun cl s H fp=>(ba (ai (aT hu) (pv 1) (pv 2) (ah _)))) (fun cl s H fp=>(pv 1))))) aj)))
   (ad (af (az ab))))
abbrev gY:Stmt:=top 66
theorem mM(IG:d6 Z)(Jx:rS Z)(D:De Z.K "is_another_with_only" gY):gX Z:=okc Bz D mL bd5 fun hr hu nd=>(ad (af (bb (kcal Jx hr (aa (pv 0) (aa (pv 3) ab))) (bb (ay (aT hu) (pv 3) (pv 2) (ah _)) (bm (kcal IG hr (aa (kix hu (pv 1) (pv 3)) (aa (pv 4) ab))))))))
abbrev sG:Stmt:=top 75
theorem zl{c:RCl RK}(IG:d6 Z)(ID:cQ Z c)(D:De Z.K "only_mores" sG):se Z c:=okc Bz D yW bd4 fun hr hu nd=>(ad (af (aJ (ix:=[none,none,some 1,some 3]) [".0","other","masks","sign"] (aC rfl (by decide+kernel) rfl rfl rfl) rfl (aB (ar iQ rfl Bz.sorted_ mO (aa (kcal ID hr (aa (pv 0) (aa (pv 2) ab))) ab))) (fun cl s H fp=>(aq (i:=1) (show([".0","other","masks","sign"]:List Str).Nodup by decide+kernel) rfl (Or.inl rfl))) (fun cl s H fp=>(ba (aM (kcal IG hr (aa (kix hu (pv 2) (pv 1)) (aa (pv 3) ab)))))) (fun cl s H fp=>(az (aa (pv 1) ab))))))
abbrev pq:Stmt:=top 77
theorem wT(Jb:mZ Z)(D:De Z.K "square_mores" pq):oS Z:=okc Bz D vU bd2 fun hr hu nd=>(ad (af (aJ (ix:=[none,none,some 1]) [".0","square","cell"] (aC rfl (by decide+kernel) rfl rfl rfl) rfl (aB (kcal Jb hr (aa (pv 0) ab))) (fun cl s H fp=>(aq (i:=1) (show([".0","square","cell"]:List Str).Nodup by decide+kernel) rfl (Or.inl rfl))) (fun cl s H fp=>(ba (ai (dE hu) (pv 2) (pv 1) (by with_unfolding_all rfl)))) (fun cl s H fp=>(az (aa (kix hu (pv 1) ae) ab))))))
abbrev qA:Stmt:=top 78
theorem xU{c:RCl RK}(IG:d6 Z)(ID:cQ Z c)(IU:m3 Z)(IR:km Z)(IZ:oX Z c)(D:De Z.K "reach_mores" qA):qr Z c:=okc Bz D xB bd5 fun hr hu nd=>(ac (d8 (i:=5) nd rfl (Or.inr rfl) (aI IZ hr (by decide) (pv 1)))
   (ac (d8 (i:=6) nd rfl (Or.inr rfl) (aJ (ix:=[none,none,some 5,some 2]) [".0","other","mark","masks"] (aC rfl (by decide+kernel) rfl rfl rfl) rfl (aB (kcal ID hr (aa (pv 1) (aa (pv 3) ab)))) (fun cl s H fp=>(aq (i:=1) (show([".0","other","mark","masks"]:List Str).Nodup by decide+kernel) rfl (Or.inl rfl))) (fun cl s H fp=>(ba (aM (kcal IG hr (aa (kix hu (pv 3) (pv 1)) (aa (pv 2) ab)))))) (fun cl s H fp=>(pv 1))))
   (ac (j2 (k:=7) nd rfl (Or.inl rfl) rfl (ix:=[none,none,some 5,some 2]) [".0","other","mark","masks"] (aC rfl (by decide+kernel) rfl rfl rfl) rfl (aB (kcal ID hr (aa (pv 1) (aa (pv 3) ab)))) (fun cl s H fp=>(aq (i:=1) (show([".0","other","mark","masks"]:List Str).Nodup by decide+kernel) rfl (Or.inl rfl))) (fun cl s H fp=>(ba (aM (kcal IR hr (aa (kix hu (pv 3) (pv 1)) (aa (pv 2) ab)))))) (fun cl s H fp=>(pv 1)))
   (ac (au (ai (aw hu) (pv 4) (pv 5) (ah _)) (ac (d8 (i:=8) nd rfl (Or.inr rfl) (kcal IU hr (aa (pv 0) (aa (ao aH (pv 7) (az (aa (pv 3) ab))) (aa (pv 3) ab)))))
   (ad (af (aJ (ix:=[none,none,some 8]) [".0","other","joined"] (aC rfl (by decide+kernel) rfl rfl rfl) rfl (aB (pv 6)) (fun cl s H fp=>(aq (i:=1) (show([".0","other","joined"]:List Str).Nodup by decide+kernel) rfl (Or.inl rfl))) (fun cl s H fp=>(ba (ai (cj hu) (pv 1) (pv 2) (by with_unfolding_all rfl)))) (fun cl s H fp=>(az (aa (pv 1) ab))))))) aj)
   (ac (d8 (i:=8) nd rfl (Or.inr rfl) (g8 (ai (aT hu) (pv 6) (az ab) (ah _)) (kcal IU hr (aa (pv 0) (aa (pv 7) (aa (kix hu (pv 6) ae) ab)))) (az ab)))
   (ad (af (aJ (ix:=[none,none,some 8,some 6]) [".0","other","joined","sure"] (aC rfl (by decide+kernel) rfl rfl rfl) rfl (aB (pv 6)) (fun cl s H fp=>(aq (i:=1) (show([".0","other","joined","sure"]:List Str).Nodup by decide+kernel) rfl (Or.inl rfl))) (fun cl s H fp=>(ba (ai (cj hu) (pv 1) (pv 2) (by with_unfolding_all rfl)))) (fun cl s H fp=>(az (aa (kix hu (pv 3) ae) (aa (pv 1) ab))))))))))))
abbrev kJ:Stmt:=mtop 97 1
theorem jW{c:RCl RK}(IU:m3 Z)(IP:FldK Z.K c "floor"){f:Addr}(D:Me Z.K "is_joined" "Joined.is_joined" kJ f):Mo Z 4 f ["self","cells"] (jR Z.K c):=okm D qF bd2 fun hr hu nd=>(ad (af (zq (ay (aw hu) (pv 1) (az ab) (ah _)) (bm (ay (aw hu) (kcal IU hr (aa (bz (pv 0) IP) (aa (pv 1) (aa (kix hu (pv 1) ae) ab)))) (pv 1) (ah _))))))
abbrev mJ:Stmt:=mtop 98 0
theorem tK{c:RCl RK}(Kp:tV Z)(Jb:mZ Z)(IP:FldK Z.K c "floor")(Jc:iG Z c){f:Addr}(D:Me Z.K "holds" "NoSquare.holds" mJ f):Mo Z 4 f ["self","filling"] (lj Z.K c):=okm D tE bd2 fun hr hu nd=>(ac (d8 (i:=2) nd rfl (Or.inr rfl) (ce Jc hr (by decide) (pv 0) (aa (pv 1) ab)))
   (ad (af (Db (ar (qV rfl) rfl Bz.any_ zJ (aa (aJ (ix:=[none,none,some 2]) [".0","square","cells"] (aC rfl (by decide+kernel) rfl rfl rfl) rfl (aB (kcal Jb hr (aa (bz (pv 0) IP) ab))) (fun cl s H fp=>(aq (i:=1) (show([".0","square","cells"]:List Str).Nodup by decide+kernel) rfl (Or.inl rfl))) (fun cl s H fp=>aW) (fun cl s H fp=>(kcal Kp hr (aa (pv 1) (aa (pv 2) ab))))) ab))))))
abbrev wU:Stmt:=top 111
theorem BA(IE:cP Z)(Ka:sd Z)(JL:GTup Z.K Z.mg "OF_ALL_CELLS" fQ)(D:De Z.K "cells_of" wU):wv Z:=okc Bz D A8 bd3 fun hr hu nd=>(ac (au (BS JL (pv 1) rfl) (ad (af (kcal Ka hr (aa (pv 0) (aa (pv 2) ab))))) aj)
   (ac (au (ai (aT hu) (pv 2) (az ab) (ah _)) (ad bG) aj)
   (ad (af (nL rfl rfl rfl Bz.list_ Bz.range_ (aa (kcal IE hr (aa (pv 0) ab)) ab))))))
abbrev nG:Stmt:=top 116
theorem uS(Ky:wu Z)(D:De Z.K "checked_floor" nG):m8 Z:=okc Bz D ur bd1 fun hr hu nd=>(ac (au (N9 (bt (bi (aM (ar bQ rfl Bz.isinstance_ aY (aa (pv 0) (aa (cq (v:=.ty "tuple") rfl Bz.tuple_ g9 rfl) ab))))) (bS (ai (aT hu) (ar aG rfl Bz.len_ aO (aa (pv 0) ab)) ae (ah _))))) (ad bG) aj)
   (ad (af (kcal Ky hr (aa (kix hu (pv 0) ae) (aa (kix hu (pv 0) ae) (aa (kix hu (pv 0) ae) ab)))))))
abbrev lr:Stmt:=top 53
theorem sH{c:RCl RK}{d:RCl PzK}(JM:oJ Z)(JN:oQ Z c)(JO:oN Z c)(JC:m7 Z c)(JP:oR Z c)(K4:B6 Z c d)(IV:lL Z c d)(IJ:iM Z c d)(D:De Z.K "strikes_by_line" lr):ln Z c d:=okc Bz D qI bd3 fun hr hu nd=>(ac (kset 3 nd (kix hu (pv 2) ae))
   (ac (kset 4 nd (kix hu (pv 2) ae))
   (ac (kset 5 nd (kix hu (pv 2) ae))
   (ac (kset 6 nd (kix hu (pv 2) ae))
   (ac (au (ai (aw hu) (pv 3) av (ah _)) (ad (af (kcal JM hr (aa (aI K4 hr (by decide) (pv 0)) (aa (pv 4) (aa (pv 5) (aa (pv 6) ab))))))) aj)
   (ac (kset 7 nd (kix hu (aI IJ hr (by decide) (pv 0)) (kix hu (pv 2) ae)))
   (ac (au (ai (aw hu) (pv 3) av (ah _)) (ad (af (kcal JN hr (aa (pv 7) (aa (pv 1) (aa (pv 4) (aa (pv 5) (aa (pv 6) ab)))))))) aj)
   (ac (au (ai (aw hu) (pv 3) av (ah _)) (ad (af (kcal JC hr (aa (aI IV hr (by decide) (pv 0)) (aa (pv 7) (aa (pv 1) (aa (pv 4) (aa (pv 5) (aa (pv 6) ab))))))))) aj)
   (ac (au (ai (aw hu) (pv 3) av (ah _)) (ad (af (kcal JP hr (aa (pv 7) (aa (pv 1) (aa (pv 4) (aa (pv 5) (aa (pv 6) ab)))))))) aj)
   (ad (af (kcal JO hr (aa (pv 7) (aa (pv 1) (aa (pv 4) (aa (pv 5) (aa (pv 6) ab)))))))))))))))))
abbrev nI:Stmt:=top 57
theorem uT{c:RCl RK}(IW:lH Z)(IS:kC Z)(IF:d5 Z)(ID:cQ Z c)(Jk:uL Z c)(IZ:oX Z c)(D:De Z.K "count_strikes" nI):nc Z c:=okc Bz D uw bd5 fun hr hu nd=>(ac (au (ai (aT hu) (pv 4) (az ab) (ah _)) (ad (af br)) aj)
   (ac (kset 5 nd (kcal IF hr (aa (pv 1) (aa (kcal ID hr (aa (pv 0) (aa (pv 2) ab))) ab))))
   (ac (au (ai (aw hu) (pv 3) (aI IZ hr (by decide) (pv 0)) (ah _)) (ad (af (ay ve (kcal IS hr (aa (pv 5) (aa (pv 3) ab))) (aI Jk hr (by decide) (pv 0)) (ah _)))) aj)
   (ad (af (ay cf (kcal IW hr (aa (pv 5) (aa (aI IZ hr (by decide) (pv 0)) ab))) (aI Jk hr (by decide) (pv 0)) (ah _)))))))
abbrev mK:Stmt:=top 65
theorem tL{c:RCl RK}(IS:kC Z)(IF:d5 Z)(Jq:mD Z)(IZ:oX Z c)(D:De Z.K "square_strikes" mK):mE Z c:=okc Bz D tw bd6 fun hr hu nd=>(ac (au (N9 (bt (ai (aT hu) (pv 4) (aI IZ hr (by decide) (pv 1)) (ah _)) (bS (ai (aT hu) (ar aG rfl Bz.len_ aO (aa (pv 5) ab)) ae (ah _))))) (ad (af br)) aj)
   (ac (kset 6 nd (kcal Jq hr (aa (pv 0) (aa (kix hu (pv 5) ae) (aa (pv 3) ab)))))
   (ad (af (bb (ay (aT hu) (pv 6) (az ab) (ah _)) (bm (ay (aw hu) (kcal IS hr (aa (kcal IF hr (aa (pv 2) (aa (pv 6) ab))) (aa (pv 4) ab))) (ar aG rfl Bz.len_ aO (aa (pv 6) ab)) (ah _))))))))
abbrev nJ:Stmt:=top 67
theorem uU{c:RCl RK}(Jd:gX Z)(ID:cQ Z c)(IU:m3 Z)(IR:km Z)(IZ:oX Z c)(D:De Z.K "reach_strikes" nJ):nh Z c:=okc Bz D uz bd6 fun hr hu nd=>(ac (d8 (i:=6) nd rfl (Or.inr rfl) (aI IZ hr (by decide) (pv 1)))
   (ac (au (bi (aM (ar (di rfl) rfl Bz.all_ iY (aa (aJ (ix:=[none,none,some 3,some 0,some 6,some 2]) [".0","other","cell","floor","mark","masks"] (aC rfl (by decide+kernel) rfl rfl rfl) rfl (aB (pv 5)) (fun cl s H fp=>(aq (i:=1) (show([".0","other","cell","floor","mark","masks"]:List Str).Nodup by decide+kernel) rfl (Or.inl rfl))) (fun cl s H fp=>aW) (fun cl s H fp=>(kcal Jd hr (aa (pv 3) (aa (pv 5) (aa (pv 2) (aa (pv 1) (aa (pv 4) ab)))))))) ab)))) (ad (af br)) aj)
   (ac (j2 (k:=7) nd rfl (Or.inl rfl) rfl (ix:=[none,none,some 6,some 2]) [".0","other","mark","masks"] (aC rfl (by decide+kernel) rfl rfl rfl) rfl (aB (kcal ID hr (aa (pv 1) (aa (pv 3) ab)))) (fun cl s H fp=>(aq (i:=1) (show([".0","other","mark","masks"]:List Str).Nodup by decide+kernel) rfl (Or.inl rfl))) (fun cl s H fp=>(ba (aM (kcal IR hr (aa (kix hu (pv 3) (pv 1)) (aa (pv 2) ab)))))) (fun cl s H fp=>(pv 1)))
   (ac (au (ai (aw hu) (pv 4) (pv 6) (ah _)) (ad (af (bb (ay (aw hu) (ar aG rfl Bz.len_ aO (aa (pv 5) ab)) ae (ah _)) (bm (ay (cj hu) (kix hu (pv 5) ae) (kcal IU hr (aa (pv 0) (aa (ao aH (pv 7) (az (aa (pv 3) ab))) (aa (pv 3) ab)))) (by with_unfolding_all rfl)))))) aj)
   (ac (au (N9 (bt (ai (aT hu) (ar aG rfl Bz.len_ aO (aa (pv 5) ab)) ae (ah _)) (bS (ai (aw hu) (kix hu (pv 5) ae) (kix hu (pv 5) ae) (ah _))))) (ad (af br)) aj)
   (ad (af (ay (cj hu) (kix hu (pv 5) ae) (kcal IU hr (aa (pv 0) (aa (pv 7) (aa (kix hu (pv 5) ae) ab)))) (by with_unfolding_all rfl)))))))))
abbrev px:Stmt:=top 69
theorem wV{c:RCl RK}(KO:AG Z)(IO:kn Z)(IG:d6 Z)(IW:lH Z)(IS:kC Z)(IF:d5 Z)(IZ:oX Z c)(D:De Z.K "turn_strikes" px):oT Z c:=okc Bz D vT bd6 fun hr hu nd=>(ac (kset 6 nd (aI IZ hr (by decide) (pv 1)))
   (ac (au (ai (aw hu) (pv 5) (az ab) (ah _)) (ac (kset 7 nd (kcal IF hr (aa (pv 2) (aa (kcal IO hr (aa (pv 0) (aa (pv 3) ab))) ab))))
   (ad (af (bb (ay (aw hu) (pv 4) (pv 6) (ah _)) (bm (zq (ay cf (kcal IW hr (aa (pv 7) (aa (pv 6) ab))) ae (ah _)) (bm (ay fV (kcal IS hr (aa (pv 7) (aa (pv 6) ab))) ae (ah _))))))))) aj)
   (ac (au (N9 (bt (ai (aT hu) (ar aG rfl Bz.len_ aO (aa (pv 5) ab)) ae (ah _)) (bt (ai (cj hu) (kix hu (pv 5) ae) (kcal IO hr (aa (pv 0) (aa (pv 3) ab))) (by with_unfolding_all rfl)) (bS (bi (aM (kcal IG hr (aa (kix hu (pv 2) (kix hu (pv 5) ae)) (aa (pv 6) ab))))))))) (ad (af br)) aj)
   (ac (kset 7 nd (kcal IF hr (aa (pv 2) (aa (kcal KO hr (aa (pv 0) (aa (kix hu (pv 5) ae) (aa (pv 3) ab)))) ab))))
   (ac (au (ai (aw hu) (pv 4) (pv 6) (ah _)) (ad (af (ay ve (kcal IS hr (aa (pv 7) (aa (pv 6) ab))) ae (ah _)))) aj)
   (ad (af (ay cf (kcal IW hr (aa (pv 7) (aa (pv 6) ab))) ae (ah _)))))))))
abbrev pA:Stmt:=top 81
theorem wW{c:RCl RK}{d:RCl PzK}(Kb:se Z c)(Kc:r8 Z c)(JY:qp Z)(JZ:qr Z c)(JQ:oS Z)(Ke:rZ Z)(IV:lL Z c d)(IJ:iM Z c d)(D:De Z.K "mores_to_try" pA):oU Z c d:=okc Bz D vV bd6 fun hr hu nd=>(ac (kset 6 nd (aI IV hr (by decide) (pv 0)))
   (ac (au (ai (aw hu) (pv 2) av (ah _)) (ad (af (kcal JY hr (aa (pv 6) (aa (pv 5) ab))))) aj)
   (ac (au (ai (aw hu) (pv 2) av (ah _)) (ad (af (kcal JQ hr (aa (pv 6) (aa (pv 4) ab))))) aj)
   (ac (au (ai (aw hu) (pv 2) av (ah _)) (ad (af (kcal Ke hr (aa (pv 6) (aa (pv 4) ab))))) aj)
   (ac (au (ai (aw hu) (pv 2) av (ah _)) (ad (af (kcal Kb hr (aa (kix hu (aI IJ hr (by decide) (pv 0)) (pv 3)) (aa (pv 1) (aa (pv 4) (aa (pv 5) ab))))))) aj)
   (ac (au (ai (aw hu) (pv 2) av (ah _)) (ad (af (kcal JZ hr (aa (pv 6) (aa (kix hu (aI IJ hr (by decide) (pv 0)) (pv 3)) (aa (pv 1) (aa (pv 4) (aa (pv 5) ab)))))))) aj)
   (ac (au (ai (aw hu) (pv 2) av (ah _)) (ad (af (kcal Kc hr (aa (kix hu (aI IJ hr (by decide) (pv 0)) (pv 3)) (aa (pv 1) (aa (pv 4) ab)))))) aj)
   (ad (af (az (aa (az ab) ab)))))))))))
abbrev pB:Stmt:=mtop 97 0
theorem wX{c:RCl RK}(Kq:kD Z c)(Jc:iG Z c){f:Addr}(D:Me Z.K "holds" "Joined.holds" pB f):Mo Z 5 f ["self","filling"] (mW Z.K c):=okm D vP bd2 fun hr hu nd=>(ad (af (ce Kq hr (by decide) (pv 0) (aa (ce Jc hr (by decide) (pv 0) (aa (pv 1) ab)) ab))))
abbrev sI:Stmt:=mtop 99 0
theorem zn{c:RCl RK}(KP:mF Z c)(Kq:kD Z c)(Jc:iG Z c){f:Addr}(D:Me Z.K "holds" "Ring.holds" sI f):Mo Z 5 f ["self","filling"] (qo Z.K c):=okm D yV bd2 fun hr hu nd=>(ac (d8 (i:=2) nd rfl (Or.inr rfl) (ce Jc hr (by decide) (pv 0) (aa (pv 1) ab)))
   (ad (af (bb (ce Kq hr (by decide) (pv 0) (aa (pv 2) ab)) (bm (ar (di rfl) rfl Bz.all_ iY (aa (aJ (ix:=[none,none,some 2,some 0]) [".0","cell","cells","self"] (aC rfl (by decide+kernel) rfl rfl rfl) rfl (aB (pv 2)) (fun cl s H fp=>(aq (i:=1) (show([".0","cell","cells","self"]:List Str).Nodup by decide+kernel) rfl (Or.inl rfl))) (fun cl s H fp=>aW) (fun cl s H fp=>(ce KP hr (by decide) (pv 3) (aa (pv 2) (aa (pv 1) ab))))) ab)))))))
abbrev ue:Stmt:=top 113
theorem AZ{c:RCl RK}(Kz:wv Z)(Jn:oP Z)(KD:yy Z c){t_MOST_NUMBER:Tok}(J0:Z.mg "MOST_NUMBER"=some (.int 99 t_MOST_NUMBER))(J1:GTup Z.K Z.mg "WITH_NUMBER" gt)(Kr:GTup Z.K Z.mg "WITH_SIGN" gd)(D:De Z.K "read_rule" ue):tZ Z c:=okc Bz D z8 bd2 fun hr hu nd=>(ac (au (bi (aM (ar bQ rfl Bz.isinstance_ aY (aa (pv 1) (aa (cq (v:=.ty "str") rfl Bz.str_ vh rfl) ab))))) (ad bG) aj)
   (ac (kset 2 nd (bH Pt PySem.F.slot_str_split PySem.F.type_str_split DC (pv 1) (aa av ab)))
   (ac (kset 3 nd (kix hu (pv 2) ae))
   (ac (kset 4 nd (dQ ly (pv 2) (dC ae) jZ))
   (ac (kset 5 nd ae)
   (ac (kset 6 nd ae)
   (ac (au (vD J1 (pv 3) rfl) (ac (kset 5 nd (kcal Jn hr (aa (pv 4) (aa ae (aa (cp rfl J0 ⟨t_MOST_NUMBER,rfl⟩) ab)))))
   (ad (kset 4 nd (dQ ly (pv 4) (dC ae) jZ)))) aj)
   (ac (au (vD Kr (pv 3) rfl) (ac (kset 6 nd (kcal Jn hr (aa (pv 4) (aa ae (aa (kix hu (pv 0) ae) ab)))))
   (ad (kset 4 nd (dQ ly (pv 4) (dC ae) jZ)))) aj)
   (ad (af (kcal KD hr (aa (pv 0) (aa (pv 2) (aa (kcal Kz hr (aa (pv 0) (aa (pv 3) (aa (pv 4) ab)))) (aa (pv 5) (aa (pv 6) ab))))))))))))))))
abbrev pC:Stmt:=top 61
theorem wY{c:RCl RK}(IT:kI Z)(IF:d5 Z)(ID:cQ Z c)(IC:cg Z)(Lf:EC Z)(Jr:mC Z)(Jf:ot Z){t_MOST_WAYS:Tok}(Ks:Z.mg "MOST_WAYS"=some (.int 32 t_MOST_WAYS))(K5:B7 Z c)(D:De Z.K "ways_strikes" pC):oV Z c:=okc Bz D vR bd5 fun hr hu nd=>(ac (kset 5 nd (kcal ID hr (aa (pv 0) (aa (pv 2) ab))))
   (ac (kset 6 nd (kcal IF hr (aa (pv 1) (aa (pv 5) ab))))
   (ac (au (N9 (bt (ai (aT hu) (pv 4) (az ab) (ah _)) (bS (ai fV (kcal Lf hr (aa (pv 6) ab)) (cp rfl Ks ⟨t_MOST_WAYS,rfl⟩) (ah _))))) (ad (af br)) aj)
   (ac (au (aM (kcal IT hr (aa (pv 6) ab))) (ad (af br)) aj)
   (ac (kset 7 nd (az (aa (kcal Jf hr (aa (ao EZ (az (aa ae ab)) (ar aG rfl Bz.len_ aO (aa (pv 1) ab))) (aa (pv 2) (aa (pv 3) ab)))) ab)))
   (ac (be Mq rfl (aB (pv 5)) (aq (i:=8) nd rfl (Or.inl rfl))
   (ad (kset 7 nd (kcal Jr hr (aa (pv 7) (aa (pv 8) (aa (kcal IC hr (aa (kix hu (pv 1) (pv 8)) ab)) ab)))))))
   (ac (be Mq rfl (aB (pv 7)) (aq (i:=9) nd rfl (Or.inl rfl))
   (ad (au (aM (ce K5 hr (by decide) (pv 0) (aa (pv 9) ab))) (ad (af br)) aj)))
   (ad (af br)))))))))
abbrev jX:Stmt:=top 70
theorem qh{c:RCl RK}{d:RCl PzK}(JD:nh Z c)(Js:mE Z c)(JR:oT Z c)(IV:lL Z c d)(IJ:iM Z c d)(D:De Z.K "strikes_by_region" jX):jT Z c d:=okc Bz D og bd3 fun hr hu nd=>(ac (kset 3 nd (aI IV hr (by decide) (pv 0)))
   (ac (kset 4 nd (kix hu (aI IJ hr (by decide) (pv 0)) (kix hu (pv 2) ae)))
   (ac (au (ai (aw hu) (kix hu (pv 2) ae) av (ah _)) (ad (af (kcal Js hr (aa (pv 3) (aa (pv 4) (aa (pv 1) (aa (kix hu (pv 2) ae) (aa (kix hu (pv 2) ae) (aa (kix hu (pv 2) ae) ab))))))))) aj)
   (ac (au (ai (aw hu) (kix hu (pv 2) ae) av (ah _)) (ad (af (kcal JD hr (aa (pv 3) (aa (pv 4) (aa (pv 1) (aa (kix hu (pv 2) ae) (aa (kix hu (pv 2) ae) (aa (kix hu (pv 2) ae) ab))))))))) aj)
   (ad (af (kcal JR hr (aa (pv 3) (aa (pv 4) (aa (pv 1) (aa (kix hu (pv 2) ae) (aa (kix hu (pv 2) ae) (aa (kix hu (pv 2) ae) ab)))))))))))))
abbrev sJ:Stmt:=top 117
theorem zo{c:RCl RK}(Kt:tZ Z c){t_MOST_RULES:Tok}(Kf:Z.mg "MOST_RULES"=some (.int 12 t_MOST_RULES))(D:De Z.K "read_rules" sJ):sf Z c:=okc Bz D yQ bd2 fun hr hu nd=>(ac (au (ai fV (ar aG rfl Bz.len_ aO (aa (pv 1) ab)) (cp rfl Kf ⟨t_MOST_RULES,rfl⟩) (ah _)) (ad bG) aj)
   (ad (af (aJ (ix:=[none,none,some 0]) [".0","line","floor"] (aC rfl (by decide+kernel) rfl rfl rfl) rfl (aB (pv 1)) (fun cl s H fp=>(aq (i:=1) (show([".0","line","floor"]:List Str).Nodup by decide+kernel) rfl (Or.inl rfl))) (fun cl s H fp=>aW) (fun cl s H fp=>(kcal Kt hr (aa (pv 2) (aa (pv 1) ab))))))))
abbrev jY:Stmt:=top 62
theorem qi{c:RCl RK}{d:RCl PzK}(JE:nc Z c)(J3:qq Z c)(JS:oV Z c)(IJ:iM Z c d)(D:De Z.K "strikes_by_number" jY):jU Z c d:=okc Bz D oh bd3 fun hr hu nd=>(ac (kset 3 nd (kix hu (aI IJ hr (by decide) (pv 0)) (kix hu (pv 2) ae)))
   (ac (au (ai (aw hu) (kix hu (pv 2) ae) av (ah _)) (ad (af (kcal JE hr (aa (pv 3) (aa (pv 1) (aa (kix hu (pv 2) ae) (aa (kix hu (pv 2) ae) (aa (kix hu (pv 2) ae) ab)))))))) aj)
   (ac (au (ai (aw hu) (kix hu (pv 2) ae) av (ah _)) (ad (af (kcal J3 hr (aa (pv 3) (aa (pv 1) (aa (kix hu (pv 2) ae) (aa (kix hu (pv 2) ae) (aa (kix hu (pv 2) ae) ab)))))))) aj)
   (ad (af (kcal JS hr (aa (pv 3) (aa (pv 1) (aa (kix hu (pv 2) ae) (aa (kix hu (pv 2) ae) (aa (kix hu (pv 2) ae) ab)))))))))))
abbrev lu:Stmt:=mtop 120 0
theorem sK{c:RCl RK}{d:RCl PzK}(JF:m6 Z)(JG:m8 Z)(Kg:sf Z c)(Ja:FldK Z.K d "floor")(Jm:FldK Z.K d "given")(Jt:FldK Z.K d "laws"){f:Addr}(D:Me Z.K "__init__" "Puzzle.__init__" lu f):Mo Z 7 f ["self","floor","lines","clues"] (bZ Z.K c d):=okm D rd bd4 fun hr hu nd=>(ac (iI (pv 0) (kcal JG hr (aa (pv 1) ab)) Ja)
   (ac (iI (pv 0) (kcal Kg hr (aa (bz (pv 0) Ja) (aa (pv 2) ab))) Jt)
   (ad (iI (pv 0) (kcal JF hr (aa (bz (pv 0) Ja) (aa (pv 3) ab))) Jm))))
abbrev yJ:Stmt:=top 72
theorem C5{c:RCl RK}{d:RCl PzK}(Jp:ln Z c d)(Ji:jU Z c d)(Jj:jT Z c d)(Kh:GTup Z.K Z.mg "LINE_KINDS" g7)(JT:GTup Z.K Z.mg "NUMBER_KINDS" fS)(D:De Z.K "strikes" yJ):sh Z c d:=okc Bz D Bj bd3 fun hr hu nd=>(ac (au (vD Kh (kix hu (pv 2) ae) rfl) (ad (af (kcal Jp hr (aa (pv 0) (aa (pv 1) (aa (pv 2) ab)))))) aj)
   (ac (au (vD JT (kix hu (pv 2) ae) rfl) (ad (af (kcal Ji hr (aa (pv 0) (aa (pv 1) (aa (pv 2) ab)))))) aj)
   (ad (af (kcal Jj hr (aa (pv 0) (aa (pv 1) (aa (pv 2) ab))))))))
abbrev yK:Stmt:=top 73
theorem C6{c:RCl RK}{d:RCl PzK}(Ku:tY Z c d)(Jz:sh Z c d)(D:De Z.K "allowed" yK):yz Z c d:=okc Bz D Bl bd3 fun hr hu nd=>(ad (af (bb (kcal Ku hr (aa (pv 0) (aa (pv 2) ab))) (bm (kcal Jz hr (aa (pv 0) (aa (pv 1) (aa (pv 2) ab))))))))
abbrev wZ:Stmt:=top 82
theorem BB{c:RCl RK}{d:RCl PzK}(JU:oU Z c d)(Jz:sh Z c d)(D:De Z.K "first_at" wZ):ww Z c d:=okc Bz D Bn bd6 fun hr hu nd=>(ac (be Mq rfl (aB (kcal JU hr (aa (pv 0) (aa (pv 1) (aa (pv 2) (aa (pv 3) (aa (pv 4) (aa (pv 5) ab)))))))) (aq (i:=6) nd rfl (Or.inl rfl))
   (ac (kset 7 nd (cy (aa (pv 2) (aa (pv 3) (aa (pv 4) (aa (pv 5) (aa (pv 6) ab)))))))
   (ad (au (aM (kcal Jz hr (aa (pv 0) (aa (pv 1) (aa (pv 7) ab))))) (ad (af (pv 7))) aj))))
   (ad (af d7)))
abbrev qB:Stmt:=top 126
theorem xV{c:RCl RK}{d:RCl PzK}(IH:gx Z)(KA:wt Z)(KQ:lq Z "Puzzle" (d.A .Puzzle) c d)(D:De Z.K "_law_puzzle" qB):qt Z c d:=okc Bz D uK bd5 fun hr hu nd=>(ac (d8 (i:=5) nd rfl (Or.inr rfl) (ao bw (pv 1) (pv 2)))
   (ac (j2 (k:=7) nd rfl (Or.inl rfl) rfl (ix:=[none,none,some 5,some 0,some 3]) [".0","_law_k","_law_many","_law_script","_law_signs"] (aC rfl (by decide+kernel) rfl rfl rfl) rfl (bX rfl Bz.range_ (aa (pv 4) ab)) (fun cl s H fp=>(aq (i:=1) (show([".0","_law_k","_law_many","_law_script","_law_signs"]:List Str).Nodup by decide+kernel) rfl (Or.inl rfl))) (fun cl s H fp=>aW) (fun cl s H fp=>(kcal KA hr (aa (ao aR (ao bw (ao aH (kcal IH hr (aa (pv 3) (aa (ao aH ae (pv 1)) ab))) (ao bw ae (pv 1))) ae) ae) (aa (pv 2) (aa (pv 4) ab))))))
   (ac (kset 8 nd (az ab))
   (ac (be Mq rfl (bX rfl Bz.range_ (aa (pv 5) ab)) (aq (i:=6) nd rfl (Or.inl rfl))
   (ac (kset 9 nd (ao aR (ao bw (ao aH (kcal IH hr (aa (pv 0) (aa (ao aH ae (pv 6)) ab))) (ao bw (ao bw ae (pv 6)) (pv 6))) ae) ae))
   (ad (b6 (bH Mg ME MF bB (pv 8) (aa (kix hu (az (aa ae (aa ae (aa ae (aa (ao aH ae (ao aR (ao bh (pv 9) ae) (pv 3))) ab))))) (ao aR (pv 9) ae)) ab))))))
   (ad (af (lB KQ hr (by decide) rfl (aa (cy (aa (pv 1) (aa (pv 2) (aa (pv 3) ab)))) (aa (pv 7) (aa (pv 8) ab))))))))))
abbrev nK:Stmt:=top 85
theorem uV{c:RCl RK}{d:RCl PzK}(JV:oK Z c d)(IT:kI Z)(KB:ww Z c d)(IC:cg Z)(KR:AF Z)(D:De Z.K "found_by_rule" nK):ni Z c d:=okc Bz D uD bd4 fun hr hu nd=>(ac (kset 4 nd (bu dR rfl Bz.list_ dF (aa (pv 1) ab)))
   (ac (kset 5 nd (az ab))
   (ac (be Mq rfl (aB (kcal JV hr (aa (pv 0) (aa (pv 2) (aa (pv 3) ab))))) (aq (i:=6) nd rfl (Or.inl rfl))
   (ac (be Mq rfl (aB (kcal IC hr (aa (kix hu (pv 4) (pv 6)) ab))) (aq (i:=7) nd rfl (Or.inl rfl))
   (ac (kset 8 nd (kcal KB hr (aa (pv 0) (aa (pv 4) (aa (pv 2) (aa (pv 3) (aa (pv 6) (aa (pv 7) ab))))))))
   (ad (au (ai BF (pv 8) d7 (ah _)) (ac (b6 (bH Mg ME MF bB (pv 5) (aa (pv 8) ab)))
   (ad (kset 4 nd (kcal KR hr (aa (pv 4) (aa (pv 6) (aa (pv 7) ab))))))) aj))))
   (ad (au (aM (kcal IT hr (aa (pv 4) ab))) (ad (af (pv 5))) aj))))
   (ad (af (pv 5))))))
abbrev sL:Stmt:=top 129
theorem zp{c:RCl RK}{d:RCl PzK}(I0:my Z)(Ki:rP Z)(KF:yz Z c d)(D:De Z.K "_law_first" sL):si Z c d:=okc Bz D wo bd5 fun hr hu nd=>(ac (j2 (k:=6) nd rfl (Or.inl rfl) rfl (ix:=[none,none,some 2]) [".0","_law_word","_law_kinds_here"] (aC rfl (by decide+kernel) rfl rfl rfl) rfl (uY (CQ I0 hr)) (fun cl s H fp=>(aq (i:=1) (show([".0","_law_word","_law_kinds_here"]:List Str).Nodup by decide+kernel) rfl (Or.inl rfl))) (fun cl s H fp=>(ba (ai (dE hu) (pv 1) (pv 2) (by with_unfolding_all rfl)))) (fun cl s H fp=>(pv 1)))
   (ac (be Mq rfl (aB (pv 6)) (aq (i:=5) nd rfl (Or.inl rfl))
   (ac (kset 7 nd (kcal Ki hr (aa (pv 5) (aa (ar aG rfl Bz.len_ aO (aa (pv 1) ab)) (aa (pv 3) ab)))))
   (ad (be Mq rfl (bX rfl Bz.range_ (aa (kix hu (az (aa (pv 4) (aa ae ab))) (bu vv rfl Bz.int_ vg (aa (ay (aw hu) (pv 5) av (ah _)) ab))) ab)) (aq (i:=8) nd rfl (Or.inl rfl))
   (ad (be Mq rfl (bX rfl Bz.range_ (aa (ao bw (ar aG rfl Bz.len_ aO (aa (pv 1) ab)) (pv 3)) ab)) (aq (i:=9) nd rfl (Or.inl rfl))
   (ac (kset 10 nd (ao aH ae (ao aR (pv 9) (pv 3))))
   (ad (au (ai (aw hu) (ao aR (ao bh (kix hu (pv 1) (ao bh (pv 9) (pv 3))) (kix hu (az (aa ae (aa ae (aa ae ab)))) (ao b7 (pv 10) ae))) ae) ae (ah _)) (ad (be Mq rfl (aB (pv 7)) (aq (i:=11) nd rfl (Or.inl rfl))
   (ad (au (aM (kcal KF hr (aa (pv 0) (aa (pv 1) (aa (cy (aa (pv 5) (aa (pv 8) (aa (ao bh (pv 9) (pv 3)) (aa (pv 10) (aa (pv 11) ab)))))) ab))))) (ad (af (cy (aa (pv 5) (aa (pv 8) (aa (ao bh (pv 9) (pv 3)) (aa (pv 10) (aa (pv 11) ab)))))))) aj)))) aj)))))))))
   (ad (af d7))))
abbrev qC:Stmt:=top 87
theorem xW{c:RCl RK}{d:RCl PzK}(JH:ni Z c d)(JW:oO Z c d)(Jg:GTup Z.K Z.mg "KINDS" gt_KINDS)(D:De Z.K "first_found" qC):qu Z c d:=okc Bz D xC bd3 fun hr hu nd=>(ac (be Mq rfl (aB (aJ (ix:=[none,none,some 2]) [".0","word","kinds"] (aC rfl (by decide+kernel) rfl rfl rfl) rfl (uY (CJ Jg rfl)) (fun cl s H fp=>(aq (i:=1) (show([".0","word","kinds"]:List Str).Nodup by decide+kernel) rfl (Or.inl rfl))) (fun cl s H fp=>(ba (ai mN (pv 1) (pv 2) (by with_unfolding_all rfl)))) (fun cl s H fp=>(pv 1)))) (aq (i:=3) nd rfl (Or.inl rfl))
   (ad (be Mq rfl (aB (kcal JW hr (aa (pv 0) (aa (pv 3) ab)))) (aq (i:=4) nd rfl (Or.inl rfl))
   (ac (kset 5 nd (kcal JH hr (aa (pv 0) (aa (pv 1) (aa (pv 3) (aa (pv 4) ab))))))
   (ad (au (ai (aT hu) (pv 5) (az ab) (ah _)) (ad (af (pv 5))) aj))))))
   (ad (af (az ab))))
abbrev pD:Stmt:=top 88
theorem w5{c:RCl RK}{d:RCl PzK}(IT:kI Z)(J4:qu Z c d)(D:De Z.K "next_thought" pD):oW Z c d:=okc Bz D wa bd3 fun hr hu nd=>(ac (kset 3 nd (g8 (bi (aM (kcal IT hr (aa (pv 1) ab)))) (kcal J4 hr (aa (pv 0) (aa (pv 1) (aa (pv 2) ab)))) (az ab)))
   (ad (af (g8 (ai (aT hu) (pv 3) (az ab) (ah _)) (kix hu (pv 3) ae) d7))))
abbrev w9:Stmt:=top 131
theorem HK{c:RCl RK}{d:RCl PzK}(JI:rQ Z)(IH:gx Z)(Kj:si Z c d)(I0:my Z)(Kk:rW Z)(Je:mB Z)(J5:qt Z c d)(Jo:oW Z c d)(Jg:GTup Z.K Z.mg "KINDS" gt_KINDS){f:Addr}{fd:FuncData}(F:Fun Z.K "law" "law" w9 f fd):FnOk Z.P Z.w Z.K Z.mg Z.base CX0 13 f fd ["_law_script"] (Ew Z.K c d):=okf F (by ac_rfl) HI (fun hr hu nd=>by
 refine ac ?s0 ?r0
 case s0=>exact(kset 1 nd (ao aR (ao bw (kcal IH hr (aa (pv 0) (aa ae ab))) ae) ae))
 case r0=>
  refine ac ?s1 ?r1
  case s1=>
   refine Dc (te:=?te) (g:=gTup Z.K 2 (gCons (gName 2) (gCons (gName 3) gNil))) ?h1 ?h2 ?h4 ?h5 ?h6
   case h2=>exact(uX rfl (fU (aq (i:=2) nd rfl (Or.inl rfl)) (fU (aq (i:=3) nd rfl (Or.inl rfl)) sO)))
   case h4=>rfl
   case h5=>rfl
   case h6=>rfl
   case h1=>
    refine zt ?x ?l ?j ?p
    case x=>exact(G3 hu)
    case p=>exact(fun _ _=>rfl)
    case j=>exact(ao aR (pv 1) ae)
    case l=>
     refine az ?_;refine kj ?_ ?_
     . exact cy (aV ae (aV ae ab))
     refine kj ?_ ?_
     . exact cy (aV ae (aV ae ab))
     refine kj ?_ ?_
     . exact cy (aV ae (aV ae ab))
     refine kj ?_ ?_
     . exact cy (aV ae (aV ae ab))
     refine kj ?_ ?_
     . exact cy (aV ae (aV ae ab))
     refine kj ?_ ?_
     . exact cy (aV ae (aV ae ab))
     exact ab
  case r1=>
   exact(ac (kset 4 nd (ao aH ae (ao aR (ao bh (pv 1) ae) ae)))
   (ac (kset 5 nd (ao aR (ao bh (pv 1) ae) ae))
   (ac (kset 6 nd (kcal J5 hr (aa (pv 0) (aa (pv 2) (aa (pv 3) (aa (pv 4) (aa (pv 5) ab)))))))
   (ac (kset 7 nd (kcal Kk hr (aa (pv 0) (aa (ao bw (pv 2) (pv 3)) (aa (pv 4) ab)))))
   (ac (kset 8 nd (kcal Je hr (aa (ao aR (ao bw (kcal IH hr (aa (pv 0) (aa ae ab))) ae) ae) (aa ae ab))))
   (ac (au (N9 (bt (bi (aM (ar CM rfl Bz.isinstance_ aY (aa (CJ Jg rfl) (aa (cq (v:=.ty "tuple") rfl Bz.tuple_ g9 rfl) ab))))) (bS (ai (aT hu) (CJ Jg rfl) (CQ I0 hr) (ah _))))) (ad (af br)) aj)
   (ac (j2 (k:=9) nd rfl (Or.inl rfl) rfl (ix:=[none,none]) [".0","_law_k"] (aC rfl (by decide+kernel) rfl rfl rfl) rfl (aB (dQ ly (pv 8) jZ (dC (ao aH ae (ao aR (ao bh (pv 1) ae) ae))))) (fun cl s H fp=>(aq (i:=1) (show([".0","_law_k"]:List Str).Nodup by decide+kernel) rfl (Or.inl rfl))) (fun cl s H fp=>aW) (fun cl s H fp=>(kix hu (CQ I0 hr) (pv 1))))
   (ac (kset 9 nd (ao aH (pv 9) (dQ ly (pv 9) jZ (dC (ao aR (ao bh (pv 1) ae) ae)))))
   (ac (kset 10 nd d7)
   (ac (au (ai (cj hu) ae (pv 7) (by with_unfolding_all rfl)) (ad (kset 10 nd (kcal Kj hr (aa (pv 6) (aa (pv 7) (aa (pv 9) (aa (pv 4) (aa (pv 5) ab)))))))) aj)
   (ac (kset 11 nd (bu dR rfl Bz.list_ dF (aa (pv 7) ab)))
   (ac (kset 12 nd (bu dR rfl Bz.list_ dF (aa (pv 9) ab)))
   (ac (kset 13 nd (kcal Jo hr (aa (pv 6) (aa (pv 11) (aa (pv 12) ab)))))
   (ac (au (N9 (bt (bi (aM (kcal JI hr (aa (pv 13) (aa (pv 10) ab))))) (bt (ai (aT hu) (pv 11) (pv 7) (ah _)) (bS (ai (aT hu) (pv 12) (pv 9) (ah _)))))) (ad (af br)) aj)
   (ac (au (ai BF (pv 13) d7 (ah _)) (ad (b6 (bH Mg ME MF bB (kix hu (pv 13) ae) (aa ae ab)))) aj)
   (ad (af (kcal JI hr (aa (kcal Jo hr (aa (pv 6) (aa (pv 7) (aa (pv 9) ab)))) (aa (pv 10) ab))))))))))))))))))))) (by walk_at "l")
end
variable{l:PySem.W.OpenLaw}
theorem HL {w:World} {K:Frag} {h:Heap} {mg:Str->Option Value} {fa:Addr} (X:K.In h) (G:h.Ns mainGlobals mg) (hfa:mg "law"=some (.ref fa)) {x1 x2 x3 x4 x5 x6 x7 x8 y1 f13 f14 f15 f16 f17 f18 f19 f21 f22 f23 f42 f43 f44 f45 f46 f67 f82 f83 f92 f93 f99:Addr} {tk_FIGURES tk_MOST_CELLS tk_MOST_FIGURES tk_MOST_NUMBER tk_MOST_RULES tk_MOST_SIDE tk_MOST_SIGNS tk_MOST_WAYS:Tok}
  (Q_Unlike:ClsP K "Unlike" x1 f13) (Q_Sum:ClsP K "Sum" x2 f13) (Q_Rising:ClsP K "Rising" x3 f13) (Q_Seen:ClsP K "Seen" x4 f13) (Q_Count:ClsP K "Count" x5 f13) (Q_Joined:ClsP K "Joined" x6 f13) (Q_NoSquare:ClsP K "NoSquare" x7 f13) (Q_Ring:ClsP K "Ring" x8 f13) (Q_Puzzle:ClsP K "Puzzle" y1 f99) (a14:At8 K "name" (some (.ref f14)) x1 x2 x3 x4 x5 x6 x7 x8) (a15:At8 K "spots" (some (.ref f15)) x1 x2 x3 x4 x5 x6 x7 x8) (a16:At8 K "number" (some (.ref f16)) x1 x2 x3 x4 x5 x6 x7 x8) (a17:At8 K "sign" (some (.ref f17)) x1 x2 x3 x4 x5 x6 x7 x8) (a18:At8 K "signs_at" (some (.ref f18)) x1 x2 x3 x4 x5 x6 x7 x8) (a19:At8 K "marked" (some (.ref f19)) x1 x2 x3 x4 x5 x6 x7 x8) (Lj:findIn K (.ref y1) "place"=some (some (.ref f21))) (Ll:findIn K (.ref y1) "clues"=some (some (.ref f22))) (Lm:findIn K (.ref y1) "rules"=some (some (.ref f23))) (Lo:findIn K (.ref x1) "holds"=some (some (.ref f42))) (Lz:findIn K (.ref x2) "holds"=some (some (.ref f43))) (Lp:findIn K (.ref x3) "holds"=some (some (.ref f44))) (Lv:findIn K (.ref x4) "holds"=some (some (.ref f45))) (Lu:findIn K (.ref x5) "holds"=some (some (.ref f46))) (Lw:findIn K (.ref x8) "has_two_beside"=some (some (.ref f67))) (Lq:findIn K (.ref x6) "is_joined"=some (some (.ref f82))) (Lx:findIn K (.ref x8) "is_joined"=some (some (.ref f82))) (Lg:findIn K (.ref x7) "holds"=some (some (.ref f83))) (Lr:findIn K (.ref x6) "holds"=some (some (.ref f92))) (Ly:findIn K (.ref x8) "holds"=some (some (.ref f93))) (n_c_amount:At8 K "amount" none x1 x2 x3 x4 x5 x6 x7 x8) (n_c_cells:At8 K "cells" none x1 x2 x3 x4 x5 x6 x7 x8) (n_c_floor:At8 K "floor" none x1 x2 x3 x4 x5 x6 x7 x8) (n_c_mark:At8 K "mark" none x1 x2 x3 x4 x5 x6 x7 x8) (n_c_words:At8 K "words" none x1 x2 x3 x4 x5 x6 x7 x8) (n_d_floor:findIn K (.ref y1) "floor"=some none) (n_d_given:findIn K (.ref y1) "given"=some none) (n_d_laws:findIn K (.ref y1) "laws"=some none) (D0:De K "is_whole" wx) (D1:De K "many_cells" sj) (D2:De K "spot_of" yA) (D3:De K "square_at" t1) (D4:De K "bit_of" AI) (D5:De K "stands" AJ) (D6:De K "clashes" yB) (D7:De K "masks_at" wy) (D8:De K "clue_strikes" oY) (D9:De K "are_told_in_order" jV) (D10:De K "with_sign" t3) (D11:De K "place_mores" qv) (D12:De K "is_within" t4) (D13:Me K "__init__" "Rule.__init__" nk f13) (D14:Me K "name" "Rule.name" t5 f14) (D15:Me K "spots" "Rule.spots" sk f15) (D16:Me K "number" "Rule.number" qw f16) (D17:Me K "sign" "Rule.sign" t6 f17) (D18:Me K "signs_at" "Rule.signs_at" np f18) (D19:Me K "marked" "Rule.marked" qx f19) (D20:De K "number_in" t7) (D21:Me K "place" "Puzzle.place" oZ f21) (D22:Me K "clues" "Puzzle.clues" o6 f22) (D23:Me K "rules" "Puzzle.rules" o7 f23) (D24:De K "_law_cell_at" o8) (D25:De K "_law_kinds" so) (D26:De K "_law_order" su) (D27:De K "_law_mores" sw) (D28:De K "_law_alike" sx) (D29:De K "is_from_one_to" mG) (D30:De K "beside" AQ) (D31:De K "is_corner" t8) (D32:De K "without" yC) (D33:De K "signs_in" wE) (D34:De K "is_cell" yD) (D35:De K "goes_by" yE) (D36:De K "others" AS) (D37:De K "many_may" wF) (D38:De K "ahead_of" wG) (D39:De K "behind" AT) (D40:De K "with_each_sign" mH) (D41:De K "cells_to_try" o9) (D42:Me K "holds" "Unlike.holds" pb f42) (D43:Me K "holds" "Sum.holds" t9 f43) (D44:Me K "holds" "Rising.holds" pc f44) (D45:Me K "holds" "Seen.holds" sy f45) (D46:Me K "holds" "Count.holds" qy f46) (D47:De K "number_within" nv) (D48:De K "is_filling" sA) (D49:De K "_law_row" wK) (D50:De K "_law_masks" sB) (D51:De K "floor_of" wL) (D52:De K "squares" yF) (D53:De K "reached" yG) (D54:De K "has_only" wM) (D55:De K "struck" AV) (D56:De K "ways" EK) (D57:De K "is_sign" yH) (D58:De K "has_its_rule" pf) (D59:De K "is_no_greater" nA) (D60:De K "is_no_less" sC) (D61:De K "pair_strikes" ph) (D62:De K "sum_strikes" qz) (D63:De K "around" AW) (D64:De K "turn_mores" sD) (D65:De K "pair_mores" sE) (D66:De K "rule_numbers" pi) (D67:Me K "has_two_beside" "Ring.has_two_beside" iO f67) (D68:De K "first_within" pj) (D69:De K "told_cells" sF) (D70:De K "rule_by" yI) (D71:De K "checked_clues" nD) (D72:De K "is_formed" uc) (D73:De K "many_only" ud) (D74:De K "only_strikes" pk) (D75:De K "place_strikes" nE) (D76:De K "step_strikes" pp) (D77:De K "rest_of_square" mI) (D78:De K "is_another_with_only" gY) (D79:De K "only_mores" sG) (D80:De K "square_mores" pq) (D81:De K "reach_mores" qA) (D82:Me K "is_joined" "Joined.is_joined" kJ f82) (D83:Me K "holds" "NoSquare.holds" mJ f83) (D84:De K "cells_of" wU) (D85:De K "checked_floor" nG) (D86:De K "strikes_by_line" lr) (D87:De K "count_strikes" nI) (D88:De K "square_strikes" mK) (D89:De K "reach_strikes" nJ) (D90:De K "turn_strikes" px) (D91:De K "mores_to_try" pA) (D92:Me K "holds" "Joined.holds" pB f92) (D93:Me K "holds" "Ring.holds" sI f93) (D94:De K "read_rule" ue) (D95:De K "ways_strikes" pC) (D96:De K "strikes_by_region" jX) (D97:De K "read_rules" sJ) (D98:De K "strikes_by_number" jY) (D99:Me K "__init__" "Puzzle.__init__" lu f99) (D100:De K "strikes" yJ) (D101:De K "allowed" yK) (D102:De K "first_at" wZ) (D103:De K "_law_puzzle" qB) (D104:De K "found_by_rule" nK) (D105:De K "_law_first" sL) (D106:De K "first_found" qC) (D107:De K "next_thought" pD) (D108:De K "law" w9) (g_KINDS:GT0 K "KINDS" gt_KINDS) (g_LINE_KINDS:GT0 K "LINE_KINDS" g7) (g_NUMBER_KINDS:GT0 K "NUMBER_KINDS" fS) (g_OF_ALL_CELLS:GT0 K "OF_ALL_CELLS" fQ) (g_WITH_NUMBER:GT0 K "WITH_NUMBER" gt) (g_WITH_SIGN:GT0 K "WITH_SIGN" gd) (gd_RULES_OF_KIND_:GD0 w K "RULES_OF_KIND" gd_RULES_OF_KIND) (Ls:nsIn K mainGlobals "FIGURES"=some (some (.str (tx [48,49,50,51,52,53,54,55,56,57]) tk_FIGURES))) (K8:nsIn K mainGlobals "MOST_CELLS"=some (some (.int 16 tk_MOST_CELLS))) (KW:nsIn K mainGlobals "MOST_FIGURES"=some (some (.int 9 tk_MOST_FIGURES))) (K6:nsIn K mainGlobals "MOST_NUMBER"=some (some (.int 99 tk_MOST_NUMBER))) (K9:nsIn K mainGlobals "MOST_RULES"=some (some (.int 12 tk_MOST_RULES))) (Lh:nsIn K mainGlobals "MOST_SIDE"=some (some (.int 6 tk_MOST_SIDE))) (La:nsIn K mainGlobals "MOST_SIGNS"=some (some (.int 6 tk_MOST_SIGNS))) (Li:nsIn K mainGlobals "MOST_WAYS"=some (some (.int 32 tk_MOST_WAYS))) (z:Zn K):
  ∃ fd:FuncData,(∀(s:Shared) (v:Value),BindsTo s fd ⟨[v],[]⟩ [("_law_script",v)])/\∀ base:Heap,K.In base->base.Ns mainGlobals mg->FnOk l.prog w K mg base CX0 13 fa fd ["_law_script"] (xM K):=by
 obtain⟨f,fd,a,F⟩:=D108.ex;have e:=hfa.symm.trans (PySem.W.mg_of X G a);cases e;obtain⟨oc,od,kV,doc,pm,an,LD,ct,osl,rfl,lk,hcd⟩:=F.ex;refine⟨fnOf "law" "law" (cr w9) (bT w9) (aX w9) .none kV doc pm an LD ct,fun s v=>.of_eq rfl,fun base _ _=>?_⟩;let Z:Z5:=⟨l.prog,w,K,mg,base⟩;have Bz:Bt3 Z:=HJ X G z;let c:RCl RK:=mkC x1 x2 x3 x4 x5 x6 x7 x8;let d:RCl PzK:=mkD y1;have CC:C8 K x1 x2 x3 x4 x5 x6 x7 x8:=⟨Q_Unlike.cl,Q_Sum.cl,Q_Rising.cl,Q_Seen.cl,Q_Count.cl,Q_Joined.cl,Q_NoSquare.cl,Q_Ring.cl⟩;have KC:=Bz.ns Ls;have J6:=Bz.ns K8;have JJ:=Bz.ns KW;have J0:=Bz.ns K6;have Kf:=Bz.ns K9;have JX:=Bz.ns Lh;have J7:=Bz.ns La;have Ks:=Bz.ns Li;have II:FldK Z.K c "amount":=fk8 CC n_c_amount;have IM:FldK Z.K c "cells":=fk8 CC n_c_cells;have IP:FldK Z.K c "floor":=fk8 CC n_c_floor;have IX:FldK Z.K c "mark":=fk8 CC n_c_mark;have Jl:FldK Z.K c "words":=fk8 CC n_c_words;have Ja:FldK Z.K d "floor":=⟨fun _ _=>⟨Q_Puzzle.cl,n_d_floor⟩⟩;have Jm:FldK Z.K d "given":=⟨fun _ _=>⟨Q_Puzzle.cl,n_d_given⟩⟩;have Jt:FldK Z.K d "laws":=⟨fun _ _=>⟨Q_Puzzle.cl,n_d_laws⟩⟩;have Jg:=g_KINDS.of Bz;have Kh:=g_LINE_KINDS.of Bz;have JT:=g_NUMBER_KINDS.of Bz;have JL:=g_OF_ALL_CELLS.of Bz;have J1:=g_WITH_NUMBER.of Bz;have Kr:=g_WITH_SIGN.of Bz;have JA:=GD0.of (Z:=Z) gd_RULES_OF_KIND_ Bz;have IK:=Bq Bz D0;have IE:=y7 Bz D1;have Ju:=CS Bz D2;have Ko:=AH Bz D3;have KJ:=EE Bz D4;have IR:=EF Bz D5;have IT:=CT Bz D6;have IF:=Br Bz D7;have JM:=wz Bz D8;have Jh:=qg Bz D9;have Jf:=AK Bz D10;have JY:=xQ Bz D11;have Kp:=AL Bz D12;have T13:=uM Bz II IM IP IX Jl D13;have KM:aL Z "Unlike" (c.A .Unlike) c:=T13.mke Bz Q_Unlike;have K_Sum:aL Z "Sum" (c.A .Sum) c:=T13.mke Bz Q_Sum;have KL:aL Z "Rising" (c.A .Rising) c:=T13.mke Bz Q_Rising;have Le:aL Z "Seen" (c.A .Seen) c:=T13.mke Bz Q_Seen;have K0:aL Z "Count" (c.A .Count) c:=T13.mke Bz Q_Count;have KK:aL Z "Joined" (c.A .Joined) c:=T13.mke Bz Q_Joined;have Kw:aL Z "NoSquare" (c.A .NoSquare) c:=T13.mke Bz Q_NoSquare;have Ld:aL Z "Ring" (c.A .Ring) c:=T13.mke Bz Q_Ring;have T14:=AM Bz Jl D14;have Lc:ED Z c:=⟨fun i hi=>T14.at (c8 CC i) (at8 a14 i) fun _ _ _ _ h=>⟨i,h⟩⟩;have T15:=y8 Bz IM D15;have IL:iN Z c:=⟨fun i hi=>T15.at (c8 CC i) (at8 a15 i) fun _ _ _ _ h=>⟨i,h⟩⟩;have T16:=xR Bz II D16;have Jk:uL Z c:=⟨fun i hi=>T16.at (c8 CC i) (at8 a16 i) fun _ _ _ _ h=>⟨i,h⟩⟩;have T17:=AN Bz IX D17;have IZ:oX Z c:=⟨fun i hi=>T17.at (c8 CC i) (at8 a17 i) fun _ _ _ _ h=>⟨i,h⟩⟩;have T18:=uN Bz IM D18;have IQ:jP Z c:=⟨fun i hi=>T18.at (c8 CC i) (at8 a18 i) fun _ _ _ _ h=>⟨i,h⟩⟩;have KH:=fk1 (k:=.Joined) rfl IM;have KS:=fk1 (k:=.Joined) rfl IX;have T19_Joined:=ko (c:=(mk1 c .Joined)) Bz KH KS D19;have KY:iG Z (mk1 c .Joined):=⟨fun i hi=>by cases oI hi;exact T19_Joined.at Q_Joined.cl (at8 a19 .Joined) fun _ _ _ _ h=>⟨.Joined,h⟩⟩;have KZ:=fk1 (k:=.Ring) rfl IM;have K7:=fk1 (k:=.Ring) rfl IX;have T19_Ring:=ko (c:=(mk1 c .Ring)) Bz KZ K7 D19;have Lb:iG Z (mk1 c .Ring):=⟨fun i hi=>by cases oI hi;exact T19_Ring.at Q_Ring.cl (at8 a19 .Ring) fun _ _ _ _ h=>⟨.Ring,h⟩⟩;have T19:=ko Bz IM IX D19;have Jc:iG Z c:=⟨fun i hi=>T19.at (c8 CC i) (at8 a19 i) fun _ _ _ _ h=>⟨i,h⟩⟩;have Km:=AO Bz KC JJ D20;have T21:=wA (c:=c) Bz Ja D21;have IV:lL Z c d:=⟨fun i hi=>by cases i;exact T21.at Q_Puzzle.cl Lj fun _ _ _ _ h=>h⟩;have T22:=wB (c:=c) Bz Jm D22;have K4:B6 Z c d:=⟨fun i hi=>by cases i;exact T22.at Q_Puzzle.cl Ll fun _ _ _ _ h=>h⟩;have T23:=wC (c:=c) Bz Jt D23;have IJ:iM Z c d:=⟨fun i hi=>by cases i;exact T23.at Q_Puzzle.cl Lm fun _ _ _ _ h=>h⟩;have IH:=wD Bz D24;have I0:=y9 Bz D25;have Je:=za Bz D26;have Ki:=zb Bz D27;have JI:=zc Bz D28;have IN:=tH Bz IK D29;have IO:=EG Bz Ju D30;have Kn:=AR Bz Ju D31;have Jv:=CU Bz KJ IR D32;have IC:=Bs Bz IR D33;have Jx:=CV Bz IK IE D34;have Jw:=CW Bz Lc JA D35;have ID:=EH Bz IL D36;have IW:=Bu Bz IR D37;have Kx:=Bv Bz IL D38;have KN:=EI Bz IL D39;have Jr:=tI Bz Jf D40;have JV:=wH Bz IE IV IJ IL D41;have T42:=wI Bz IQ D42;have T43:=AU Bz II IQ D43;have T44:=wJ Bz IQ D44;have T45:=zd Bz II IQ D45;have T46:=xS Bz II Jc D46;have IY:=uO Bz Km D47;have J8:=ze Bz IK IE D48;have KA:=Bw Bz Je D49;have Kk:=zg Bz IH D50;have Ky:=Bx Bz IN J6 JX J7 D51;have Jb:=CY Bz Kn IE Ko D52;have IU:=CZ Bz IO D53;have IG:=By Bz Jv D54;have KR:=EJ Bz Jv D55;have Lf:=GF Bz IC D56;have Jy:=C0 Bz IN D57;have JK:=wN Bz Jw IK IJ IL D58;have JB:=uP Bz IC D59;have J9:=zh Bz IC D60;have JO:=wO Bz Jh ID IC D61;have J3:=xT Bz IT IF ID IC Jk D62;have KO:=EL Bz IO D63;have Ke:=zi Bz IO D64;have Kc:=zj Bz ID IC IL D65;have JW:=wP Bz Jw IJ D66;have Kl:=fk1 (k:=.Ring) rfl IP;have T67_Ring:=ou (c:=(mk1 c .Ring)) Bz IO Kl D67;have Kv:mF Z (mk1 c .Ring):=⟨fun i hi=>by cases oI hi;exact T67_Ring.at Q_Ring.cl Lw fun _ _ _ _ h=>h⟩;have Jn:=wQ Bz IY D68;have Ka:=zk Bz IE IY D69;have KD:=C2 Bz K0 KK Kw Ld KL Le K_Sum KM D70;have JF:=uQ Bz J8 D71;have Ku:=AX Bz JK Jx Jy IK IV Jg D72;have IS:=AY Bz IG D73;have JN:=wR Bz IG ID D74;have JC:=uR Bz Jy IW IF ID IL D75;have JP:=wS Bz Kx KN JB J9 D76;have Jq:=tJ Bz Jb D77;have Jd:=mM Bz IG Jx D78;have Kb:=zl Bz IG ID D79;have JQ:=wT Bz Jb D80;have JZ:=xU Bz IG ID IU IR IZ D81;have KI:=fk1 (k:=.Joined) rfl IP;have T82_Joined:=jW (c:=(mk1 c .Joined)) Bz IU KI D82;have KG:kD Z (mk1 c .Joined):=⟨fun i hi=>by cases oI hi;exact T82_Joined.at Q_Joined.cl Lq fun _ _ _ _ h=>⟨.Joined,h⟩⟩;have T82_Ring:=jW (c:=(mk1 c .Ring)) Bz IU Kl D82;have KU:kD Z (mk1 c .Ring):=⟨fun i hi=>by cases oI hi;exact T82_Ring.at Q_Ring.cl Lx fun _ _ _ _ h=>⟨.Ring,h⟩⟩;have T83:=tK Bz Kp Jb IP Jc D83;have Kz:=BA Bz IE Ka JL D84;have JG:=uS Bz Ky D85;have Jp:=sH Bz JM JN JO JC JP K4 IV IJ D86;have JE:=uT Bz IW IS IF ID Jk IZ D87;have Js:=tL Bz IS IF Jq IZ D88;have JD:=uU Bz Jd ID IU IR IZ D89;have JR:=wV Bz KO IO IG IW IS IF IZ D90;have JU:=wW Bz Kb Kc JY JZ JQ Ke IV IJ D91;have T92_Joined:=wX (c:=(mk1 c .Joined)) Bz KG KY D92;have T93_Ring:=zn (c:=(mk1 c .Ring)) Bz Kv KU Lb D93;have K5:B7 Z c:=⟨fun i hi=>by cases i with | Rule=>exact(LY hi).elim | Unlike=>exact T42.at Q_Unlike.cl Lo fun _ _ _ _ h=>h | Sum=>exact T43.at Q_Sum.cl Lz fun _ _ _ _ h=>h | Rising=>exact T44.at Q_Rising.cl Lp fun _ _ _ _ h=>h | Seen=>exact T45.at Q_Seen.cl Lv fun _ _ _ _ h=>h | Count=>exact T46.at Q_Count.cl Lu fun _ _ _ _ h=>h | Joined=>exact T92_Joined.at Q_Joined.cl Lr (fun vs H Q E h=>by obtain⟨r,p,f,ws,cs,xs,n,m,h,w,g,e,x,y⟩:=h;exact⟨r,p,f,ws,cs,xs,n,m,h,w,g,e,⟨rfl,x.ex⟩,y⟩) | NoSquare=>exact T83.at Q_NoSquare.cl Lg fun _ _ _ _ h=>h | Ring=>exact T93_Ring.at Q_Ring.cl Ly (fun vs H Q E h=>by obtain⟨r,p,f,ws,cs,xs,n,m,h,w,g,e,x,y⟩:=h;exact⟨r,p,f,ws,cs,xs,n,m,h,w,g,e,⟨rfl,x.ex⟩,y⟩)⟩;have Kt:=AZ Bz Kz Jn KD J0 J1 Kr D94;have JS:=wY Bz IT IF ID IC Lf Jr Jf Ks K5 D95;have Jj:=qh Bz JD Js JR IV IJ D96;have Kg:=zo Bz Kt Kf D97;have Ji:=qi Bz JE J3 JS IJ D98;have T99:=sK Bz JF JG Kg Ja Jm Jt D99;have KQ:lq Z "Puzzle" (d.A .Puzzle) c d:=T99.mke Bz Q_Puzzle;have Jz:=C5 Bz Jp Ji Jj Kh JT D100;have KF:=C6 Bz Ku Jz D101;have KB:=BB Bz JU Jz D102;have J5:=xV Bz IH KA KQ D103;have JH:=uV Bz JV IT KB IC KR D104;have Kj:=zp Bz I0 Ki KF D105;have J4:=xW Bz JH JW Jg D106;have Jo:=w5 Bz IT J4 D107;exact(HK Bz JI IH Kj I0 Kk Je J5 Jo Jg F).imp fun vs H Q E h=>by obtain⟨a,ns,e,hS,hn,k⟩:=h;exact⟨a,ns,e,hS,hn,fun k hk=>by cases k <;> first | rfl | exact absurd rfl hk,rfl,k⟩
theorem walk {q:Program} {loose:List Str} {XP:(Str->Option Value)->Heap->Prop} {YP:World->Heap->Prop} {d:DefRec} {K:Params->Frag} (hn:l.most=some 63) (hdf:d.params.defaults=[])
  (hY:∀(w:World) (h:Heap),YP w h->(K w.params).In h)
  (F:∀(w:World) (mg:Str->Option Value) (fa:Addr) (h:Heap),(K w.params).In h->h.Ns mainGlobals mg->mg d.name=some (.ref fa)->
   ∃ fd:FuncData,(∀(s:Shared) (u:Value),BindsTo s fd ⟨[u],[]⟩ [("_law_script",u)])/\∀ base:Heap,(K w.params).In base->base.Ns mainGlobals mg->FnOk l.prog w (K w.params) mg base CX0 13 fa fd ["_law_script"] (xM (K w.params))):
  PySem.W.WalkO q loose XP YP l.row.toRowW d [] (fun f vs=>PySem.call f vs):=
 L2.FT (n:=63) (k:=13) (x:="_law_script") (CX:=fun _=>CX0) (sp:=fun w=>xM (K w.params)) hn (by decide) hdf ⟨rfl,by decide,by decide⟩ hY F (fun _ _ a ns hl _ hS=>⟨a,ns,rfl,hS,hl,fun _=>rfl⟩) fun _ _ _ _ _ z=>z
variable{P:Program}{w:World}{K:Frag}{mg:Str->Option Value}{base:Heap}
theorem tM {w:World} {K:Frag} {p:Addr} {ep:Nat} {dh0:Int} {dt0:Tok} {dq0:Addr} {dod0:Option Addr} {dn0:Nat} {dsl0:Array (Option Value)} {du0_0:Tok} {dh1:Int} {dt1:Tok} {dq1:Addr} {dod1:Option Addr} {dn1:Nat} {dsl1:Array (Option Value)} {du1_0:Tok} {dh2:Int} {dt2:Tok} {dq2:Addr} {dod2:Option Addr} {dn2:Nat} {dsl2:Array (Option Value)} {du2_0:Tok} {dh3:Int} {dt3:Tok} {dq3:Addr} {dod3:Option Addr} {dn3:Nat} {dsl3:Array (Option Value)} {du3_0:Tok} {dh4:Int} {dt4:Tok} {dq4:Addr} {dod4:Option Addr} {dn4:Nat} {dsl4:Array (Option Value)} {du4_0:Tok} {dh5:Int} {dt5:Tok} {dq5:Addr} {dod5:Option Addr} {dn5:Nat} {dsl5:Array (Option Value)} {du5_0:Tok} {dh6:Int} {dt6:Tok} {dq6:Addr} {dod6:Option Addr} {dn6:Nat} {dsl6:Array (Option Value)} {du6_0 du6_1:Tok} {dh7:Int} {dt7:Tok} {dq7:Addr} {dod7:Option Addr} {dn7:Nat} {dsl7:Array (Option Value)} {du7_0:Tok} {dh8:Int} {dt8:Tok} {dq8:Addr} {dod8:Option Addr} {dn8:Nat} {dsl8:Array (Option Value)} {du8_0:Tok}
  (a:nsIn K mainGlobals "RULES_OF_KIND"=some (some (.ref p))) (b:K.lookup p=some ⟨.type "dict",none,.dict #[⟨dh0,.str (tx [111,110,108,121]) dt0,.ref dq0⟩,⟨dh1,.str (tx [112,108,97,99,101]) dt1,.ref dq1⟩,⟨dh2,.str (tx [99,111,117,110,116]) dt2,.ref dq2⟩,⟨dh3,.str (tx [115,116,101,112]) dt3,.ref dq3⟩,⟨dh4,.str (tx [115,117,109]) dt4,.ref dq4⟩,⟨dh5,.str (tx [115,113,117,97,114,101]) dt5,.ref dq5⟩,⟨dh6,.str (tx [114,101,97,99,104]) dt6,.ref dq6⟩,⟨dh7,.str (tx [116,117,114,110]) dt7,.ref dq7⟩,⟨dh8,.str (tx [112,97,105,114]) dt8,.ref dq8⟩] ep,#[]⟩) (k0:K.lookup dq0=some ⟨.type "tuple",dod0,.seq #[.str (tx [117,110,108,105,107,101]) du0_0] dn0,dsl0⟩) (h0:dh0=hashStr w (tx [111,110,108,121])) (k1:K.lookup dq1=some ⟨.type "tuple",dod1,.seq #[.str (tx [117,110,108,105,107,101]) du1_0] dn1,dsl1⟩) (h1:dh1=hashStr w (tx [112,108,97,99,101])) (k2:K.lookup dq2=some ⟨.type "tuple",dod2,.seq #[.str (tx [99,111,117,110,116]) du2_0] dn2,dsl2⟩) (h2:dh2=hashStr w (tx [99,111,117,110,116])) (k3:K.lookup dq3=some ⟨.type "tuple",dod3,.seq #[.str (tx [114,105,115,105,110,103]) du3_0] dn3,dsl3⟩) (h3:dh3=hashStr w (tx [115,116,101,112])) (k4:K.lookup dq4=some ⟨.type "tuple",dod4,.seq #[.str (tx [115,117,109]) du4_0] dn4,dsl4⟩) (h4:dh4=hashStr w (tx [115,117,109])) (k5:K.lookup dq5=some ⟨.type "tuple",dod5,.seq #[.str (tx [110,111,115,113,117,97,114,101]) du5_0] dn5,dsl5⟩) (h5:dh5=hashStr w (tx [115,113,117,97,114,101])) (k6:K.lookup dq6=some ⟨.type "tuple",dod6,.seq #[.str (tx [106,111,105,110,101,100]) du6_0,.str (tx [114,105,110,103]) du6_1] dn6,dsl6⟩) (h6:dh6=hashStr w (tx [114,101,97,99,104])) (k7:K.lookup dq7=some ⟨.type "tuple",dod7,.seq #[.str (tx [114,105,110,103]) du7_0] dn7,dsl7⟩) (h7:dh7=hashStr w (tx [116,117,114,110])) (k8:K.lookup dq8=some ⟨.type "tuple",dod8,.seq #[.str (tx [117,110,108,105,107,101]) du8_0] dn8,dsl8⟩) (h8:dh8=hashStr w (tx [112,97,105,114])):GD0 w K "RULES_OF_KIND" gd_RULES_OF_KIND:=
 ⟨p,_,_,_,a,b,⟨rfl,rfl,rfl⟩,rfl,(.cons h0 k0 rfl rfl (MK (aE (MQ rfl))) (.cons ⟨_,rfl⟩ .nil) (.cons h1 k1 rfl rfl (MK (aE (MQ rfl))) (.cons ⟨_,rfl⟩ .nil) (.cons h2 k2 rfl rfl (MK (aE (MQ rfl))) (.cons ⟨_,rfl⟩ .nil) (.cons h3 k3 rfl rfl (MK (aE (MQ rfl))) (.cons ⟨_,rfl⟩ .nil) (.cons h4 k4 rfl rfl (MK (aE (MQ rfl))) (.cons ⟨_,rfl⟩ .nil) (.cons h5 k5 rfl rfl (MK (aE (MQ rfl))) (.cons ⟨_,rfl⟩ .nil) (.cons h6 k6 rfl rfl (MK (aE (MQ rfl))) (.cons ⟨_,rfl⟩ (.cons ⟨_,rfl⟩ .nil)) (.cons h7 k7 rfl rfl (MK (aE (MQ rfl))) (.cons ⟨_,rfl⟩ .nil) (.cons h8 k8 rfl rfl (MK (aE (MQ rfl))) (.cons ⟨_,rfl⟩ .nil) .nil))))))))),by decide+kernel⟩
end L2
open PySem PySem.W PyProof.Rows
namespace PySem.W.Fast
def tw12468345091931511796:=()
def tw7559965944037652793:=()
def tw6220951728802976044:=()
def tw10660611042003675198:=()
def tw5885730623371162112:=()
def tw5886463694759971189:=()
def tw18250217380164407214:=()
def tw4415178510285283316:=()
def tw10625523815835171439:=()
def tw10679279224650561526:=()
def tw6194616767370978567:=()
def tw13314725688254188322:=()
def tw13421238267515333340:=()
def tw17388438557912506747:=()
def tw15030934613321739799:=()
def tw9138926378298638048:=()
def tw3774412042542534937:=()
def tw13490011006058042113:=()
def tw10876351399741718116:=()
def tw9483460946182234068:=()
def tw11101706105583843203:=()
def tw1205781247241635356:=()
def tw16294386082850037701:=()
def tw12713037194786861483:=()
def tw15422831228450588923:=()
def tw18027952742813139922:=()
def tw10976125373990514692:=()
def tw12013980753444398330:=()
def tw5381220832400483066:=()
def tw18416663469877142219:=()
def tw4055413409438934516:=()
def tw2622812673962426469:=()
def tw10130177037009542175:=()
def tw15246996126088751047:=()
def tw8372802034010351302:=()
def tw10791067779234646914:=()
def tw14215292990812016470:=()
def tw882000583676218411:=()
def tw2051723136246624193:=()
def tw5291723716598302378:=()
def tw13721219987567108873:=()
def tw17889622439906877958:=()
def tw3656750636616895017:=()
def tw9156890400425951512:=()
def tw6271120890319519348:=()
def tw18304760179308992779:=()
def tw5463289168577954172:=()
def tw14420120021896860088:=()
def tw2833749874644491706:=()
def tw5470063426269407135:=()
def tw5278650406432948956:=()
def tw3112176488747072311:=()
def tw5924317365816325005:=()
def tw14593965547867317785:=()
def tw12540602474880485115:=()
def tw6972590741316776969:=()
def tw4484249772678319764:=()
def tw14451832005514904673:=()
def tw453625953400877565:=()
def tw11204911135530754079:=()
def tw17965082302297833463:=()
def tw15431647055428535774:=()
def tw1700088848539403643:=()
def tw8005923831349516257:=()
def tw9266978626957425977:=()
def tw14324563432349817725:=()
def tw11190082041422994301:=()
def tw17357159633785144237:=()
def tw8867962001849347318:=()
def tw908712521734187032:=()
def tw10652830979956987643:=()
def tw15798652360588841501:=()
def tw3082007386711167746:=()
def tw5749014574592282772:=()
def tw3322053349647981641:=()
def tw4562471808177077963:=()
def tw13187607890056131050:=()
def tw6222645691037593115:=()
def tw10726339805823627030:=()
def tw14954039764504898196:=()
def tw5746854053864666170:=()
def tw478111335730596670:=()
def tw11395474270040044188:=()
def tw6637506275792567609:=()
def tw3536654161113796029:=()
def tw9401750353786789039:=()
def tw2102280052499549986:=()
def tw74777682767985190:=()
def tw14436188989022002003:=()
def tw15734510850725791599:=()
def tw5309913924815686596:=()
def tw5310964200925026080:=()
def tw9794605665500559209:=()
def tw15769464368387365689:=()
def tw16979886254369169687:=()
def tw17680449219313057970:=()
def tw9135208512804777026:=()
def tw720739084850748471:=()
def tw13396342888737464062:=()
def tw5529525470894936361:=()
def tw10266343512658724008:=()
def tw2096585299887110029:=()
def tw183537335748775835:=()
def tw12383896590826125546:=()
def tw10272677303111252854:=()
def tw3011709963508158744:=()
def tw4924361747183560366:=()
def tw17736447432465397116:=()
def tw10465775555016516074:=()
def tw14589782673827592113:=()
def tw7394103976721755661:=()
def tw7956963701137395785:=()
def tw14182459919154751516:=()
def tw16894565962107972079:=()
def tw14280646675138841324:=()
def tw14031703034775992225:=()
def tw11286292533348615928:=()
def tw6467837174311611769:=()
def tw4673554018833738037:=()
def tw2379817012173002323:=()
def tw11778889037083732450:=()
def tw7690313904586106425:=()
def tw16996971840834969690:=()
def tw14694032153755674753:=()
def tw10784543866436037076:=()
def tw12810797213786449515:=()
def tw15258564897539737567:=()
def tw10964076500131057637:=()
def tw17773810066807126389:=()
def tw14015487550865485563:=()
def tw16375079622119370461:=()
def tw13953181922758419460:=()
def tw13592375150311925158:=()
def tw15508914193356062673:=()
def tw5402940473280139773:=()
def tw9628791796668811037:=()
def tw13032016656919253500:=()
def tw10595540487484501780:=()
def tw8257080307082864210:=()
def tw15153177254589682672:=()
def tw6269722322111813235:=()
def tw8240090698323774382:=()
def tw11820380353407051688:=()
def tw12777009144113980504:=()
def tw1176174905226663851:=()
def tw16220308842197119056:=()
def tw16431181300735053174:=()
def tw14423470364616947473:=()
def tw15365483049901066036:=()
def tw4294765893913637327:=()
def tw9258095368725166557:=()
def tw1413769748153036633:=()
def tw9466956081539209838:=()
def tw5018412826532765928:=()
def tw4354043369062137353:=()
def tw8687649763677716207:=()
def tw2693744354752232517:=()
def tw13301011503935176567:=()
def tw3325256687997216722:=()
def tw16329856970964598276:=()
def tw1079681572445899238:=()
def tw8817643803811698010:=()
def tw17681463135023445638:=()
def tw1841231784232891571:=()
def tw16596186406410545839:=()
def tw13770078674829905230:=()
def tw17781016647613613003:=()
def tw10152646518860772136:=()
def tw5969463321535779522:=()
def tw10853409721524836649:=()
def tw7240567519140668457:=()
def tw9291023780231754952:=()
def tw15059332593896970880:=()
def tw3845581272284228555:=()
def tw13974022459517598263:=()
def tw5759547378707027887:=()
def tw5455623613475983200:=()
def tw16253214809611775572:=()
def tw18099942857444065148:=()
def tw1892080386561642485:=()
def tw4871575500765170928:=()
def tw260488210051480029:=()
def tw1458654823371419947:=()
def tw2599481889261739145:=()
def tw5148029702996951007:=()
def tw3720982706141567411:=()
def tw7328693273811740357:=()
def tw2086730260406561529:=()
def tw17081175173800942624:=()
def tw14128239655413842296:=()
def tw16353910459620800868:=()
def tw18401709988865032683:=()
def tw11212548814162448867:=()
def tw999661486212411964:=()
def tw8567211720885363689:=()
def tw11657591774782174759:=()
def tw15345091927870110496:=()
def tw5236965488433375238:=()
def tw16742003299288911091:=()
def tw11221389973286674544:=()
def tw5090982309081681188:=()
def tw9207439514264836322:=()
def tw12587771230970140635:=()
def tw14146371414068904588:=()
def tw7166067752688403798:=()
def tw8320490183668898641:=()
def tw5718922273930545374:=()
def tw153053498821731546:=()
def tw13145083015724329008:=()
def tw9147984105445662063:=()
def tw11364743639302652368:=()
def tw294848976267484302:=()
def tw1501113645769546708:=()
def tw18426177077699436321:=()
def tw8322965023523418235:=()
def tw243554969020699040:=()
def tw11736001469054555706:=()
def tw11384703917275656356:=()
def tw16011978767026724344:=()
def tw7551858518775873137:=()
def tw9024065498409292793:=()
def tw13531812577666904154:=()
def tw8963877403440974469:=()
def tw17788695789224625069:=()
def tw10010043116870602747:=()
def tw8864757328053460416:=()
def tw15084050883252325720:=()
def tw13652815194190925428:=()
def tw7241533723902196692:=()
def tw5183691069205925604:=()
def tw357181378624007055:=()
def tw10225763718144932141:=()
def tw8692396730451473193:=()
def tw8940281677732789366:=()
def tw14319313401762951912:=()
def tw7432269627975528790:=()
def tw10674312579285050946:=()
def tw8482563925923771594:=()
def tw5345551439392275861:=()
def tw1176324127703157832:=()
def tw4510124991166936155:=()
def tw8298968623205176824:=()
def tw13578157727965123122:=()
def tw10898465458955538492:=()
def tw6595493034795766410:=()
def tw17666127064575820684:=()
def tw11677262126014347169:=()
def tw15180240560061441437:=()
def tw1079260276105496890:=()
def tw12173080111742258680:=()
def tw13090929086891256362:=()
def tw12825130928742322211:=()
def tw1157867320680893395:=()
def tw13928154436341566037:=()
def tw12983661776243743686:=()
def tw16508377150726043224:=()
def tw14088518152714808407:=()
def tw4229731859085263063:=()
def tw9179227979801530506:=()
def tw5836857287935709421:=()
def tw3403348499653577257:=()
def tw15064504094969432297:=()
def tw3628462120527652189:=()
def tw5229877444692436342:=()
def tw12466568402549819244:=()
def tw13289670498730332078:=()
def tw9215100236270745531:=()
def tw6314813049590872952:=()
def tw4050304386008522075:=()
def tw612922551130250571:=()
def tw9844356909943230643:=()
def tw13281655735799583174:=()
def tw15867953279846835787:=()
def tw18298382520590397367:=()
def tw14512630510612490925:=()
def tw14600787782539902472:=()
def tw10539606004595358247:=()
def tw15834670902053650448:=()
def tw9238990923979925470:=()
def tw16077631184508651970:=()
def tw10868192805472773791:=()
def tw14760604395658355265:=()
def tw6058050645532322740:=()
def tw4952838804575246041:=()
def tw5378261210947168823:=()
def tw13097979482102567135:=()
def tw11018676721513154311:=()
def tw9035338278261294705:=()
def tw5517934721877244441:=()
def tw7514890580844973985:=()
def tw3508123866842954414:=()
def tw5462244765788705282:=()
def tw5960232278400930125:=()
def tw12519115997992599449:=()
def tw7187092138978175703:=()
def tw12805660708294622814:=()
def tw1463588800309197178:=()
def tw8009638971023610264:=()
def tw9100524189842524191:=()
def tw5811124373043370184:=()
def tw5994653175490091748:=()
def tw2339394198332335714:=()
def tw17505746523258882067:=()
def tw6496264293172174037:=()
def tw10078438326933974853:=()
def tw6074671545056167252:=()
def tw12807512272397655605:=()
end PySem.W.Fast
set_option maxRecDepth 100000 in
set_option maxHeartbeats 0 in
theorem PySem.Challenge.cw_cluemaker_k50_the_next_thought_holds : PySem.Challenge.rw_cluemaker_k50_the_next_thought.Holds := by
  w_on; o_law; k_head; (case hw => w_witness2)
  k_fill
  refine L2.walk (l := PySem.Challenge.rw_cluemaker_k50_the_next_thought) rfl rfl (fun w h Y => PySem.W.kIn_of Y) ?F
  case F =>
    intro w mg fa h KX G hmg
    refine' L2.HL KX G hmg ?_ ?_ ?_ ?_ ?_ ?_ ?_ ?_ ?_ ?_ ?_ ?_ ?_ ?_ ?_ ?_ ?_ ?_ ?_ ?_ ?_ ?_ ?_ ?_ ?_ ?_ ?_ ?_ ?_ ?_ ?_ ?_ ?_ ?_ ?_ ?_ ?_ ?_ ?_ ?_ ?_ ?_ ?_ ?_ ?_ ?_ ?_ ?_ ?_ ?_ ?_ ?_ ?_ ?_ ?_ ?_ ?_ ?_ ?_ ?_ ?_ ?_ ?_ ?_ ?_ ?_ ?_ ?_ ?_ ?_ ?_ ?_ ?_ ?_ ?_ ?_ ?_ ?_ ?_ ?_ ?_ ?_ ?_ ?_ ?_ ?_ ?_ ?_ ?_ ?_ ?_ ?_ ?_ ?_ ?_ ?_ ?_ ?_ ?_ ?_ ?_ ?_ ?_ ?_ ?_ ?_ ?_ ?_ ?_ ?_ ?_ ?_ ?_ ?_ ?_ ?_ ?_ ?_ ?_ ?_ ?_ ?_ ?_ ?_ ?_ ?_ ?_ ?_ ?_ ?_ ?_ ?_ ?_ ?_ ?_ ?_ ?_ ?_ ?_ ?_ ?_ ?_ ?_ ?_ ?_ ?_ ?_ ?_ ?_ ?_ ?_ ?_ ?_ ?_ ?_ ?_ ?_ ?_ ?_ ?_ ?_ ?_
    all_goals first
      | (refine' L2.De.of ?a (L2.Dr ?l ?c ?k); (case a => k_is); (case l => k_is); (case c => k_is); case k => k_is)
      | (refine' L2.Me.of (L2.Dr ?l ?c ?k) ?n; (case l => k_is); (case c => k_is); (case k => k_is); case n => k_is)
      | (refine' L2.ClsP.mk ?a ?b ?c ?d ⟨?e, ?f, ?g, ?h⟩; (case a => k_is); (case b => k_is); (case c => k_is); (case d => k_is); (case e => k_is); (case f => k_is); (case g => k_is); case h => k_is)
      | (unfold L2.At8; refine' ⟨?_, ?_, ?_, ?_, ?_, ?_, ?_, ?_⟩ <;> k_is)
      | (refine' L2.GT0.mk' ?a ?b ?x ?y ?c ?d; (case a => k_is); (case b => k_is); (case x => rfl); (case y => rfl); (case c => exact Nat.le_of_lt (L2.aE (by decide))); (case d => repeat' (first | exact .nil | refine' .cons ⟨_, rfl⟩ ?_)))
      | (refine' L2.tM ?a ?b ?k0 ?h0 ?k1 ?h1 ?k2 ?h2 ?k3 ?h3 ?k4 ?h4 ?k5 ?h5 ?k6 ?h6 ?k7 ?h7 ?k8 ?h8; (case a => k_is); (case b => k_is); (case k0 => k_is); (case h0 => first | exact rfl | with_unfolding_all rfl); (case k1 => k_is); (case h1 => first | exact rfl | with_unfolding_all rfl); (case k2 => k_is); (case h2 => first | exact rfl | with_unfolding_all rfl); (case k3 => k_is); (case h3 => first | exact rfl | with_unfolding_all rfl); (case k4 => k_is); (case h4 => first | exact rfl | with_unfolding_all rfl); (case k5 => k_is); (case h5 => first | exact rfl | with_unfolding_all rfl); (case k6 => k_is); (case h6 => first | exact rfl | with_unfolding_all rfl); (case k7 => k_is); (case h7 => first | exact rfl | with_unfolding_all rfl); (case k8 => k_is); case h8 => first | exact rfl | with_unfolding_all rfl)
      | (unfold L2.Zn; refine' ⟨?_, ?_, ?_, ?_, ?_, ?_, ?_, ?_, ?_, ?_, ?_, ?_, ?_, ?_, ?_, ?_, ?_, ?_, ?_⟩ <;> (unfold L2.Nn; k_is))
      | (unfold L2.Nn; k_is)
      | k_is
      | skip
