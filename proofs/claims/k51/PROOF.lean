import PyProof.Rows.All
import Wide.All
import OpenK.AllK
import Wide.FinOn
import Lean
import PyProof.EqAt
import PyProof.EqKinds
import PyProof.TupleCall
import PyProof.ZipIter
import PyProof.ConsumeS
import PyProof.StrCalls2
import PyProof.StrWalks
import PyProof.SliceStr2
import PyProof.StrBlock
import PyProof.StrBlockL
import PyProof.ListIndex
import PyProof.StrLawsTight
import PyProof.StrLawsChain
import PyProof.StrLaws
import PyProof.StrLawsFirst
import PyProof.StationsW
import PyProof.ExcClass3
import PyProof.NsDelKeeps
import PyProof.RulesAs
import PyProof.ExcBaseAll.ValueError
import PyProof.ExcArgsOwn
import PyProof.ExcAttrAll.ValueError
import KE.KTryMore
import KE.RegKTryMore
import KE.RegKIsAll
import PyProof.Rows.Range3
import PyProof.Rows.SumGenD
import PyProof.Rows.RuleM_int
import PyProof.EnumMake
import PyProof.EnumFor
import PyProof.EnumStmt
import PyProof.Rows.EnumRows
import KE.KRevIter
import PyProof.ListNew
import PyProof.CollectIter
import PyProof.ListRange
import PyProof.CallStr
import PyProof.StrBlock2
import PyProof.Rows.StrMadeLen
import PyProof.Rows.SetFrom
import PyProof.SetRoads
import PyProof.MeetsStr2
import KE.KRevSl
import PyProof.Conv_int
import PyProof.WalkInts
import PyProof.Rows.SeqMore
import PySem.Challenge.RW_cluemaker_k51_thinking_walked
set_option Elab.async false
set_option linter.all false
set_option maxRecDepth 100000
open PySem.W (Frag nsIn findIn fnOf isFn codeIn keepIn)
set_option maxHeartbeats 40000000
namespace L2
open PySem PySem.Spec PyProof.Rows
abbrev Qt:=@Bool.false_ne_true
abbrev Qu:=@List.length_map
abbrev Qv:=@List.getElem?_eq_getElem
abbrev Qw:=@PySem.W.mg_of
abbrev Qx:=@decide_eq_false
abbrev Qz:=@List.getElem?_eq_some_iff
abbrev QA:=@decide_eq_true
abbrev QB:=@decide_eq_true_eq
abbrev QC:=@List.mem_of_getElem?
abbrev QD:=@List.getElem?_map
abbrev QE:=@List.length_filter_le
abbrev QF:=@List.mem_singleton
abbrev QG:=@Nat.le_trans
abbrev QH:=@List.mem_cons_of_mem
abbrev QJ:=@Bool.false_and
abbrev QK:=@List.mem_cons_self
abbrev QL:=@Bool.true_and
abbrev QM:=@PySem.F.plainAttrs_list
abbrev QN:=@List.size_toArray
abbrev QO:=@List.all_eq_true
abbrev QP:=@Heap.get?_push_of_some
abbrev QQ:=@List.mem_range
abbrev QR:=@Nat.le_refl
abbrev QS:=@List.mem_map
abbrev QT:=@if_neg
abbrev QU:=@of_decide_eq_true
abbrev QV:=@List.mem_cons
abbrev QW:=@List.mem_filter
abbrev QX:=@List.getElem_mem
abbrev QY:=@Heap.lt_size
abbrev QZ:=@List.mem_append
abbrev Q0:=@Bool.eq_iff_iff
abbrev Q6:=@if_pos
abbrev Q7:=@List.getElem?_eq_none
abbrev Q8:=@List.length_append
abbrev Q9:=@Nat.lt_of_lt_of_le
abbrev Ra:=@PySem.W.mg_none_of
abbrev Rb:=@PassesOwn.never
abbrev Rc:=@List.map_cons
abbrev Re:=@List.map_map
abbrev Rf:=@Nat.le_of_lt
abbrev Rg:=@wpAny_bind
abbrev Rh:=@List.getElem?_append_left
abbrev Ri:=@Int.emod_lt_of_pos
abbrev Rj:=@List.length_cons
abbrev Rk:=@Bool.and_eq_true
abbrev Rl:=@List.filter_append
abbrev Rm:=@Heap.get?_push_size
abbrev Rn:=@PySem.F.slot_list_append
abbrev Rp:=@PySem.F.type_list_append
abbrev Rq:=@Int.emod_nonneg
abbrev Rr:=@List.filter_cons
abbrev Rs:=@List.getElem?_append_right
abbrev Rt:=@Nat.ne_of_lt
abbrev Ru:=@wpAny_pure
abbrev Rv:=@List.mem_append_right
abbrev Rw:=@List.lookup_cons
abbrev Rx:=@Nat.zero_le
abbrev Ry:=@List.take_of_length_le
abbrev Rz:=@PyProof.Rows.callWith_type1
abbrev RA:=@List.nodup_cons
abbrev RB:=@List.take_length
abbrev RD:=@List.range_succ
abbrev RE:=@List.length_take
abbrev RF:=@PySem.mem_of_lookup
abbrev RG:=@List.getElem?_range
abbrev RH:=@List.length_range
abbrev RI:=@List.take_add_one
abbrev RJ:=@wpAny_mono
abbrev RL:=@Nat.lt_of_le_of_lt
abbrev RM:=@PySem.W.kia_one
abbrev RN:=@List.drop_eq_getElem_cons
abbrev RO:=@PySem.F.slot_list_index
abbrev RP:=@PySem.F.type_list_index
abbrev RQ:=@Bool.false_or
abbrev RS:=@List.append_assoc
abbrev RT:=@List.map_id'
abbrev RU:=@Option.some.inj
abbrev RV:=@wpAny_Call_Name_kw
abbrev RW:=@List.mem_iff_getElem
abbrev RX:=@wpAny_truthy_bool
abbrev RY:=@Nat.lt_succ_of_lt
abbrev RZ:=@List.ext_getElem?
abbrev R0:=@Option.map_eq_some_iff
abbrev R1:=@List.set_set
abbrev R4:=@Nat.lt_irrefl
abbrev R6:=@List.not_mem_nil
abbrev R7:=@wpAny_passesOwn
abbrev R8:=@List.foldl_cons
abbrev R9:=@List.find?_cons
abbrev Sa:=@List.foldl_append
abbrev Sb:=@call_meets
abbrev Sc:=@Bool.not_true
abbrev Sd:=@List.replicate_succ
abbrev Se:=@Heap.size_push
abbrev Sf:=@wpAny_getItem_str_slice
abbrev Sg:=@Int.eq_ofNat_of_zero_le
abbrev Sh:=@List.all_map
abbrev Si:=@List.any_cons
abbrev Sj:=@List.nodup_append
abbrev Sk:=@beq_iff_eq
abbrev Sl:=@Bool.not_false
abbrev Sn:=@List.any_eq_true
abbrev So:=@beq_eq_false_iff_ne
abbrev Sq:=@Array.length_toList
abbrev Sr:=@Nat.add_le_add_left
abbrev Ss:=@Calls.spliced_cons
abbrev Su:=@tupleKind_room_in1
abbrev Sv:=@wpAny_pyIter_list
abbrev Sw:=@Calls.spliced_nil
abbrev Sx:=@List.take_sublist
abbrev Sy:=@List.flatten_cons
abbrev Sz:=@Bool.true_or
abbrev SA:=@List.nodup_nil
abbrev SB:=@Int.mul_nonneg
abbrev SD:=@Int.zero_add
abbrev SE:=@List.findIdx_lt_length_of_exists
abbrev SF:=@builtinLookup_eq_fast
abbrev SG:=@List.take_append_drop
abbrev SH:=@Nat.lt_succ_self
abbrev SI:=@PyProof.Rows.callWith_builtin1
abbrev SJ:=@typeIs_str
abbrev SK:=@Nat.le_add_right
abbrev SL:=@Nat.min_eq_right
abbrev SM:=@List.find?_eq_some_iff_getElem
abbrev SN:=@List.drop_length
abbrev SO:=@List.all_cons
abbrev SQ:=@List.map_take
abbrev SR:=@List.mem_append_left
abbrev SS:=@Nat.le_succ
abbrev ST:=@Nat.mul_le_mul_right
abbrev SU:=@wpAny_execs_nil
abbrev SV:=@pushCells_keeps
abbrev SW:=@post_val_or_str
abbrev SX:=@List.filter_map
abbrev SY:=@List.filterMap_cons
abbrev SZ:=@PySem.W.plainGet_of
abbrev S0:=@ne_true_of_eq_false
abbrev S1:=@List.map_congr_left
abbrev S2:=@List.flatMap_append
abbrev S3:=@List.mergeSort_perm
abbrev S5:=@Nat.ne_of_gt
abbrev S6:=@PySem.F.slot_int_bit_length
abbrev S7:=@PySem.F.type_int_bit_length
abbrev S8:=@Calls.Name_function_global
abbrev S9:=@Int.fdiv_eq_ediv_of_nonneg
abbrev Ta:=@PySem.W.callWith_K
abbrev Tb:=@F.args_str_split_2
abbrev Tc:=@List.pairwise_cons
abbrev Td:=@List.take_succ
abbrev Te:=@List.map_replicate
abbrev Tf:=@List.mem_replicate
abbrev Tg:=@PySem.F.slot_dict_getitem
abbrev Ti:=@Array.getElem?_eq_getElem
abbrev Tj:=@Ne.symm
abbrev Tk:=@Option.isSome_map
abbrev Tl:=@F.entry_str_split
abbrev Tm:=@wpAny_holding
abbrev Tn:=@wpAny_comprehension_free
abbrev To:=@PySem.F.slot_list_extend
abbrev Tp:=@PySem.F.type_list_extend
abbrev Tq:=@or_false
abbrev Tr:=@F.slot_str_split
abbrev Ts:=@List.ext_getElem
abbrev Tu:=@PySem.F.slot_list_clear
abbrev Tv:=@PySem.F.type_list_clear
abbrev Tw:=@List.getElem?_set_self
abbrev Tx:=@PySem.W.cellsFrom_some
abbrev Ty:=@subscriptTail_builtinR
abbrev Tz:=@Calls.callWith_builtin
abbrev TB:=@Txt.slice_le
abbrev TC:=@List.length_pos_of_mem
abbrev TD:=@List.drop_eq_nil_of_le
abbrev TF:=@PySem.F.plainAttrs_int
abbrev TH:=@PySem.F.plainAttrs_str
abbrev TJ:=@List.of_mem_zip
abbrev TL:=@Bool.or_eq_true
abbrev TM:=@typeLookup_type
abbrev TN:=@Nat.min_eq_left
abbrev TQ:=@List.map_append
abbrev TR:=@List.length_singleton
abbrev TU:=@Array.getElem?_toList
abbrev TV:=@PySem.W.methodCall_KW
abbrev TW:=@Nat.mul_le_mul
abbrev TX:=@Paired.length
abbrev TY:=@wpAny_standAt
abbrev TZ:=@List.sum_cons
abbrev T0:=@Bool.and_self
abbrev T3:=@codeAny_mono
abbrev T4:=@if_true
abbrev T5:=@Nat.succ_mul
abbrev T6:=@List.any_map
abbrev Key:=Sum Int Str
def keyIs:Key->Value->Bool
 | .inl k,v=>Value.isInt k v
 | .inr x,v=>Value.isStrOf x v
def keyH(w:World):Key->Int
 | .inl k=>hashInt k
 | .inr x=>hashStr w x
theorem ck:∀{k:Key} {v:Value},keyIs k v=true->(∃ i t,k=Sum.inl i/\v=Value.int i t)\/(∃ x t,k=Sum.inr x/\v=Value.str x t)
 | .inl i,v,h=>by
  obtain⟨t,e⟩:=Value.isInt_shape (k:=i) (v:=v) h;exact .inl ⟨i,t,rfl,e⟩
 | .inr x,v,h=>by
  obtain⟨t,e⟩:=Value.isStrOf_shape (x:=x) (v:=v) h;exact .inr ⟨x,t,rfl,e⟩
theorem z8(i:Int)(t:Tok):keyIs (.inl i) (.int i t)=true:=by simp[keyIs,Value.isInt]
theorem Aa(x:Str)(t:Tok):keyIs (.inr x) (.str x t)=true:=by simp[keyIs,Value.isStrOf]
theorem Do(a b:Int):decide ((Sum.inl a:Key)=Sum.inl b)=(a==b):=by
 by_cases e:a=b
 . subst e;simp
 . have h:¬ (Sum.inl a:Key)=Sum.inl b:=fun q=>e (Sum.inl.inj q);rw[Qx h];exact(So.mpr e).symm
theorem Dp(a b:Str):decide ((Sum.inr a:Key)=Sum.inr b)=decide (a=b):=by
 by_cases e:a=b
 . subst e;simp
 . have h:¬ (Sum.inr a:Key)=Sum.inr b:=fun q=>e (Sum.inr.inj q);rw[Qx h,Qx e]
theorem Dq(a:Int)(b:Str):decide ((Sum.inl a:Key)=Sum.inr b)=false:=Qx (fun q=>nomatch q)
theorem Dr(a:Str)(b:Int):decide ((Sum.inr a:Key)=Sum.inl b)=false:=Qx (fun q=>nomatch q)
def cK(prog:Program)(w:World):PySem.KeyKind prog w Key where
 is:=keyIs
 hash:=keyH w
 inj:=fun v a b ha hb=>by
  rcases ck ha with ⟨i,t,rfl,rfl⟩ | ⟨x,t,rfl,rfl⟩
  . rcases ck hb with ⟨j,u,rfl,e⟩ | ⟨y,u,rfl,e⟩
    . injection e with e1 _;rw[e1]
    . exact nomatch e
  . rcases ck hb with ⟨j,u,rfl,e⟩ | ⟨y,u,rfl,e⟩
    . exact nomatch e
    . injection e with e1 _;rw[e1]
 byValue:=fun k v h=>by
  rcases ck h with ⟨i,t,rfl,rfl⟩ | ⟨x,t,rfl,rfl⟩ <;> rfl
 pyHash:=fun hv h=>by
  rcases ck hv with ⟨i,t,rfl,rfl⟩ | ⟨x,t,rfl,rfl⟩
  . exact wpAny_pyHash_int h
  . exact wpAny_pyHash_str h
 eqBool:=fun hu hv h=>by
  rcases ck hu with ⟨i,t,rfl,rfl⟩ | ⟨x,t,rfl,rfl⟩
  . rcases ck hv with ⟨j,u,rfl,rfl⟩ | ⟨y,u,rfl,rfl⟩
    . rw[Do] at h;exact wpAny_eqBool_int h
    . rw[Dq] at h;exact SeqAt.EqAt.int_str i t y u _ _ _ _ h
  . rcases ck hv with ⟨j,u,rfl,rfl⟩ | ⟨y,u,rfl,rfl⟩
    . rw[Dr] at h;exact SeqAt.EqAt.str_int x t j u _ _ _ _ h
    . rw[Dp] at h;exact wpAny_eqBool_str h
 «strs»:=fun k x t v h=>by
  rcases ck h with ⟨i,u,rfl,e⟩ | ⟨y,u,rfl,e⟩
  . exact nomatch e
  . injection e with e1 _;subst e1;cases v <;> rfl
theorem xZ(prog:Program)(w:World)(i:Int)(t:Tok):(cK prog w).is (.inl i) (.int i t)=true:=z8 i t
theorem x4(prog:Program)(w:World)(x:Str)(t:Tok):(cK prog w).is (.inr x) (.str x t)=true:=Aa x t
inductive V where
 | non | bl (b:Bool) | int (i:Int) | str (x:Str) | byt (b:Array UInt8) | flt (b:UInt64) | ref (a:Addr) | ty (n:String)
 deriving DecidableEq
def RelV:V->Value->Prop
 | .non,u=>u=Value.none
 | .bl b,u=>u=Value.bool b
 | .int i,u=>∃ t,u=Value.int i t
 | .str x,u=>∃ t,u=Value.str x t
 | .byt b,u=>∃ t,u=Value.bytes b t
 | .flt b,u=>∃ t,u=Value.float b t
 | .ref a,u=>u=Value.ref a
 | .ty n,u=>u=Value.type n
abbrev Vals:List V->List Value->Prop:=Paired RelV
theorem Vals.length{xs:List V}{us:List Value}(r:Vals xs us):xs.length=us.length:=TX r
theorem Vals.get:∀{xs:List V} {us:List Value} {i:Nat} {x:V},Vals xs us->xs[i]? =some x->∃ u,us[i]? =some u/\RelV x u
 | _,_,_,_,.nil,e=>by simp at e
 | _,_,0,_,.cons r _,e=>by simp at e;subst e;exact⟨_,rfl,r⟩
 | _,_,i+1,x,.cons _ t,e=>by
  obtain⟨u,h1,h2⟩:=Vals.get (i:=i) (x:=x) t (by simpa using e);exact⟨u,by simpa using h1,h2⟩
theorem Vals.append:∀{xs ys:List V} {us ws:List Value},Vals xs us->Vals ys ws->Vals (xs++ys) (us++ws)
 | _,_,_,_,.nil,s=>s
 | _,_,_,_,.cons r t,s=>.cons r (Vals.append t s)
theorem Vals.take:∀{xs:List V} {us:List Value} (n:Nat),Vals xs us->Vals (xs.take n) (us.take n)
 | _,_,0,_=>.nil
 | _,_,_+1,.nil=>.nil
 | _,_,n+1,.cons r t=>.cons r (Vals.take n t)
theorem Vals.drop:∀{xs:List V} {us:List Value} (n:Nat),Vals xs us->Vals (xs.drop n) (us.drop n)
 | _,_,0,r=>r
 | _,_,_+1,.nil=>.nil
 | _,_,n+1,.cons _ t=>Vals.drop n t
def RelO:Option V->Option Value->Prop
 | some v,some u=>RelV v u
 | none,none=>True
 | _,_=>False
def KV{κ:Type}:List (κ × V)->List (κ × Value)->Prop:=Paired fun(p:κ × V) (q:κ × Value)=>p.1=q.1/\RelV p.2 q.2
def kV:Key->V
 | .inl i=>.int i
 | .inr x=>.str x
inductive HO where
  | lst (xs:List V)
  | tup (xs:List V)
  | dK (Ql:List (Key × V)) | dT (Ql:List (List Key × V))
  | set (S:Int->Bool) (n:Nat)
  | ins (C dx:Addr) (fs:List (Str × V))
  | own (x:Addr)
  | xd (fs:List (Str × V))
  | met (f x:Addr)
  | rng (lo hi:Int)
  | frz (o:Obj) (u:HO)
  | tbl (ps:Array Value)
  | ext (φ:Heap->Prop)
abbrev Hp:=Addr->Option HO
def upd(H:Hp)(a:Addr)(o:HO):Hp:=fun b=>if b=a then some o else H b
variable{H:Hp}{a:Addr}{o:HO}
theorem ah:upd H a o a=some o:=by unfold upd;rw[Q6 rfl]
variable{b:Addr}
theorem ao(h:b≠a):upd H a o b=H b:=by unfold upd;rw[QT h]
theorem Es{u:HO}(h:H a=some o)(h':H b=some u)(d:o≠u):a≠b:=by
 intro e;subst e;rw[h] at h';exact d (RU h')
theorem aC(h:H a=some o)(h':H b=none):a≠b:=by
 intro e;subst e;rw[h] at h';cases h'
section
variable(P:Program)(w:World)
def ObjOk(H:Hp)(h:Heap)(a:Addr):HO->Prop
 | .lst xs=>xs.length<=sizeLine/\∃(Qm:List Value) (n:Nat),Vals xs Qm/\h.get? a=some {cls:=.type "list",data:=.seq Qm.toArray n}
 | .tup xs=>xs.length<=sizeLine/\∃ Qm:List Value,Vals xs Qm/\IsTup h a Qm.toArray
 | .dK Ql=>Ql.length<=sizeLine/\(a==sysModules)=false/\∃ vs,KV Ql vs/\h.DictOf (cK P w) a vs
 | .dT Ql=>Ql.length<=sizeLine/\(a==sysModules)=false/\∃ xs:List (List Key × Addr × Value),
   Paired (fun(p:List Key × V) (q:List Key × Addr × Value)=>p.1=q.1/\H q.2.1=some (.tup (p.1.map kV))/\RelV p.2 q.2.2) Ql xs/\
   ∃ o es ep,h.get? a=some o/\o.ExactDict/\o.data=.dict es ep/\es.toList=xs.map (entryOfKey (tupleKind (cK P w)))/\(xs.map (·.1)).Nodup
 | .set S n=>h.SetOf (intKind P w) a S n
 | .ins C dx fs=>H dx=some (.own a)/\fs.length<=1000/\dx≠a/\h.get? a=some (PySem.W.instObj C dx)/\
   ∃ mA,h.Ns1 dx mA/\(∀ f,RelO (fs.lookup f) (mA f))/\PySem.Within mA (fs.map (·.1))
 | .own _=>∃ o,h.get? a=some o
 | .xd fs=>∃ mA,h.Ns1 a mA/\∀ f,RelO (fs.lookup f) (mA f)
 | .rng lo hi=>∃ t u v,h.get? a=some {cls:=.type "range",data:=.fields #[.int lo t,.int hi u,.int 1 v]}
 | .frz o u=>h.get? a=some o/\ObjOk H h a u
 | .tbl ps=>h.get? a=some {cls:=.none,data:=.fields ps}
 | .met f x=>h.get? a=some (PySem.W.methodObj (.ref f) (.ref x))
 | .ext φ=>φ h/\(∃ o,h.get? a=some o)/\∀ h1 h2:Heap,φ h1->(∀ o,h1.get? a=some o->h2.get? a=some o)->φ h2
def HOk(H:Hp)(h:Heap):Prop:=∀ a o,H a=some o->ObjOk P w H h a o
end
section
variable{P:Program}{w:World}{H H':Hp}{h h':Heap}{a:Addr}{o:HO}
theorem ObjOk.lt(x:ObjOk P w H h a o):a<h.objs.size:=by
 cases o with
 | lst xs=>obtain⟨_,_,_,_,e⟩:=x;exact QY e
 | tup xs=>obtain⟨_,_,_,p⟩:=x;exact p.lt
 | dK Ql=>obtain⟨_,_,_,_,o,_,_,e,_⟩:=x;exact QY e
 | dT Ql=>obtain⟨_,_,_,_,o,_,_,e,_⟩:=x;exact QY e
 | set S n=>obtain⟨o,_,_,_,e,_⟩:=x;exact QY e
 | ins C dx fs=>obtain⟨_,_,_,e,_⟩:=x;exact QY e
 | own y=>obtain⟨_,e⟩:=x;exact QY e
 | xd fs=>obtain⟨_,⟨_,_,_,e,_⟩,_⟩:=x;exact QY e
 | rng lo hi=>obtain⟨_,_,_,e⟩:=x;exact QY e
 | frz ob u=>obtain⟨e,_⟩:=x;exact QY e
 | tbl ps=>exact QY (show h.get? a=some _ from x)
 | met f y=>exact QY (show h.get? a=some _ from x)
 | ext φ=>obtain⟨_,⟨_,e⟩,_⟩:=x;exact QY e
theorem Paired.mapP{α β:Type}{F G:α->β->Prop}:∀{l₁:List α} {l₂:List β},Paired F l₁ l₂->(∀ a b,F a b->G a b)->Paired G l₁ l₂
 | _,_,.nil,_=>.nil
 | _,_,.cons r t,f=>.cons (f _ _ r) (Paired.mapP t f)
theorem ObjOk.stay (x:ObjOk P w H h a o) (k:∀ b u,(b=a\/H b=some (.own a))->h.get? b=some u->h'.get? b=some u)
  (ho:∀ b,H b=some (.own a)->H' b=some (.own a)) (ht:∀ b xs,H b=some (.tup xs)->H' b=some (.tup xs)):ObjOk P w H' h' a o:=by
 induction o with
 | lst xs=>obtain⟨z,Qm,n,r,e⟩:=x;exact⟨z,Qm,n,r,k _ _ (.inl rfl) e⟩
 | tup xs=>obtain⟨z,Qm,r,ob,e,c⟩:=x;exact⟨z,Qm,r,ob,k _ _ (.inl rfl) e,c⟩
 | dK Ql=>obtain⟨z,y,vs,r,ob,es,ep,e,c⟩:=x;exact⟨z,y,vs,r,ob,es,ep,k _ _ (.inl rfl) e,c⟩
 | dT Ql=>
  obtain⟨z,y,xs,r,ob,es,ep,e,c⟩:=x;exact⟨z,y,xs,Paired.mapP r fun p q z=>⟨z.1,ht _ _ z.2.1,z.2.2⟩,ob,es,ep,k _ _ (.inl rfl) e,c⟩
 | set S n=>obtain⟨ob,es,ep,t,e,c⟩:=x;exact⟨ob,es,ep,t,k _ _ (.inl rfl) e,c⟩
 | ins C dx fs=>
  obtain⟨d,z,ne,e,mA,⟨od,es,ep,e2,c⟩,r⟩:=x;exact⟨ho _ d,z,ne,k _ _ (.inl rfl) e,mA,⟨od,es,ep,k _ _ (.inr d) e2,c⟩,r⟩
 | own y=>obtain⟨ob,e⟩:=x;exact⟨ob,k _ _ (.inl rfl) e⟩
 | xd fs=>obtain⟨mA,⟨od,es,ep,e,c⟩,r⟩:=x;exact⟨mA,⟨od,es,ep,k _ _ (.inl rfl) e,c⟩,r⟩
 | rng lo hi=>obtain⟨t,u,v,e⟩:=x;exact⟨t,u,v,k _ _ (.inl rfl) e⟩
 | frz ob u ih=>obtain⟨e,q⟩:=x;exact⟨k _ _ (.inl rfl) e,ih q⟩
 | tbl ps=>
  have e:h.get? a=some {cls:=.none,data:=.fields ps}:=x;show h'.get? a=some {cls:=.none,data:=.fields ps};exact k a _ (.inl rfl) e
 | met f y=>
  have e:h.get? a=some (PySem.W.methodObj (.ref f) (.ref y)):=x;show h'.get? a=some (PySem.W.methodObj (.ref f) (.ref y));exact k a _ (.inl rfl) e
 | ext φ=>obtain⟨p,⟨o,e⟩,st⟩:=x;exact⟨st _ _ p fun o q=>k _ _ (.inl rfl) q,⟨o,k _ _ (.inl rfl) e⟩,st⟩
theorem HOk.lt(x:HOk P w H h)(e:H a=some o):a<h.objs.size:=(x a o e).lt
theorem HOk.fresh(x:HOk P w H h)(e:h.objs.size<=a):H a=none:=by
 cases q:H a with
 | none=>rfl
 | some u=>exact absurd (Q9 (x.lt q) e) (R4 _)
theorem HOk.kept(x:HOk P w H h)(k:∀ b u,h.get? b=some u->h'.get? b=some u):HOk P w H h':=fun a o e=>
 (x a o e).stay (fun b u _ q=>k b u q) (fun _ q=>q) fun _ _ q=>q
theorem HOk.laid(x:HOk P w H h)(k:∀ b u,h.get? b=some u->h'.get? b=some u)(hp:h.objs.size<=a)(new:ObjOk P w (upd H a o) h' a o):HOk P w (upd H a o) h':=fun b u e=>by
 have hn:=x.fresh hp;by_cases hb:b=a
 . subst hb;rw[ah] at e;cases e;exact new
 . rw[ao hb] at e;exact(x b u e).stay (fun c v _ q=>k c v q) (fun c q=>by rw[ao (aC q hn)];exact q) fun c xs q=>by rw[ao (aC q hn)];exact q
end
def Rd(H:Hp)(a:Addr)(u:HO):Prop:=H a=some u\/∃ o,H a=some (.frz o u)
variable{h:Heap}
theorem Rd.ok{P:Program}{w:World}{u:HO}(r:Rd H a u)(x:HOk P w H h):ObjOk P w H h a u:=by
 rcases r with r | ⟨o,r⟩
 . exact x a u r
 . obtain⟨_,q⟩:=x a _ r;exact q
def Mut:Option HO->Prop
 | some (.lst _)=>True
 | some (.dK _)=>True
 | some (.dT _)=>True
 | some (.set _ _)=>True
 | some (.ins _ _ _)=>True
 | some (.ext _)=>True
 | _=>False
section
variable{P:Program}{w:World}{H:Hp}{h h':Heap}{x e:Addr}{o':HO}
theorem HOk.write (ok:HOk P w H h) (mu:Mut (H x)) (he:e=x\/H e=some (.own x)) (k:∀ b u,b≠e->h.get? b=some u->h'.get? b=some u) (heo:∃ u,h'.get? e=some u)
  (new:ObjOk P w (upd H x o') h' x o'):HOk P w (upd H x o') h':=fun b u q=>by
 have nown:∀ c y,H c=some (.own y)->c≠x:=fun c y r z=>by subst z;rw[r] at mu;exact mu
 have ntup:∀ c xs,H c=some (.tup xs)->c≠x:=fun c xs r z=>by subst z;rw[r] at mu;exact mu
 by_cases hb:b=x
 . subst hb;rw[ah] at q;cases q;exact new
 . rw[ao hb] at q;by_cases hbe:b=e
   . have q':H b=some (.own x):=by
      rcases he with z | z
      . exact absurd (hbe.trans z) hb
      . rw[hbe];exact z
     rw[q] at q';cases q';obtain⟨v,hv⟩:=heo;exact⟨v,by rw[hbe];exact hv⟩
   . refine(ok b u q).stay (fun c v hc r=>k c v ?_ r) (fun c r=>by rw[ao (nown c b r)];exact r) fun c xs r=>by rw[ao (ntup c xs r)];exact r
     rcases hc with rfl | hc
     . exact hbe
     . rintro rfl;rcases he with z | z
       . exact nown c b hc z
       . rw[hc] at z;cases z;exact hb rfl
end
structure Un(fs ex:List Addr)(H H':Hp)(h h':Heap):Prop where
 keep:∀ b o,h.get? b=some o->H b=none->b∉fs->b∉ex->h'.get? b=some o
 slot:∀ b o,h.get? b=some o->H b=none->b∈fs->b∉ex->∃ sl,h'.get? b=some {o with slots:=sl}
 free:∀ b o,h.get? b=some o->H b=none->b∉ex->H' b=none
 there:∀ b o,h.get? b=some o->b∉ex->∃ o',h'.get? b=some o'
 tups:∀ b xs,H b=some (.tup xs)->H' b=some (.tup xs)
 frzs:∀ b o u,H b=some (.frz o u)->H' b=some (.frz o u)
 tbls:∀ b ps,H b=some (.tbl ps)->∃ more,H' b=some (.tbl (ps++more))
section
variable{fs fs' ex ex':List Addr}{H H1 H2:Hp}{h h1 h2 h':Heap}{a x e:Addr}{o:HO}
theorem Un.any(u:Un fs ex H H1 h h1){b:Addr}{ob:Obj}(q:h.get? b=some ob)(n:H b=none)(hx:b∉ex):∃ sl,h1.get? b=some {ob with slots:=sl}:=by
 by_cases hb:b∈fs
 . exact u.slot b ob q n hb hx
 . exact⟨ob.slots,u.keep b ob q n hb hx⟩
theorem Un.kept(k:∀ b u,h.get? b=some u->h'.get? b=some u):Un fs ex H H h h':=
 ⟨fun b ob q _ _ _=>k b ob q,fun b ob q _ _ _=>⟨ob.slots,k b ob q⟩,fun _ _ _ n _=>n,fun b ob q _=>⟨ob,k b ob q⟩,fun _ _ q=>q,fun _ _ _ q=>q,fun _ ps q=>⟨#[],by rw[q];simp⟩⟩
theorem Un.refl:Un fs ex H H h h:=Un.kept fun _ _ q=>q
theorem Un.laid(k:∀ b u,h.get? b=some u->h'.get? b=some u)(hp:h.objs.size<=a)(hn:H a=none):Un fs ex H (upd H a o) h h' where
 keep:=fun b u q _ _ _=>k b u q
 slot:=fun b u q _ _ _=>⟨u.slots,k b u q⟩
 free:=fun b u q n _=>by rw[ao (Rt (Q9 (QY q) hp))];exact n
 there:=fun b u q _=>⟨u,k b u q⟩
 tups:=fun b xs q=>by rw[ao (aC q hn)];exact q
 frzs:=fun b u xs q=>by rw[ao (aC q hn)];exact q
 tbls:=fun b ps q=>⟨#[],by rw[ao (aC q hn),q];simp⟩
theorem Un.write(mu:Mut (H x))(he:e=x\/H e=some (.own x))(k:∀ b u,b≠e->h.get? b=some u->h'.get? b=some u)(heo:∃ u,h'.get? e=some u):Un fs ex H (upd H x o) h h':=by
 have hx:∀ b,H b=none->b≠x:=fun b n z=>by subst z;rw[n] at mu;exact mu
 have hb:∀ b,H b=none->b≠e:=fun b n z=>by
  subst z;rcases he with r | r
  . exact hx b n r
  . rw[n] at r;cases r
 have hm:∀ b u,H b=some u->¬ Mut (some u)->b≠x:=fun b u q nm z=>by subst z;rw[q] at mu;exact nm mu
 refine⟨fun b u q n _ _=>k b u (hb b n) q,fun b u q n _ _=>⟨u.slots,k b u (hb b n) q⟩,fun b u q n _=>by rw[ao (hx b n)];exact n,fun b u q _=>?_,
  fun b xs q=>by rw[ao (hm b _ q fun z=>z)];exact q,fun b u xs q=>by rw[ao (hm b _ q fun z=>z)];exact q,fun b ps q=>⟨#[],by rw[ao (hm b _ q fun z=>z),q];simp⟩⟩
 by_cases hbe:b=e
 . subst hbe;exact heo
 . exact⟨u,k b u hbe q⟩
end
def trk(h:Heap)(H:Hp):List Addr:=(List.range h.objs.size).filter fun a=>(H a).isSome
def hidT(h:Heap)(H:Hp):Heap:=PySem.W.hideAll h (trk h H)
theorem Ab(h:Heap)(H:Hp):(hidT h H).objs.size=h.objs.size:=PySem.W.hideAll_size _ _
theorem Bz{o:Obj}(e:h.get? b=some o)(n:H b=none):(hidT h H).get? b=some o:=
 PySem.W.hideAll_get _ e fun hm=>by
  have q:(H b).isSome=true:=(QW.mp hm).2;rw[n] at q;simp at q
theorem Cp{o:Obj}(e:(hidT h H).get? b=some o):h.get? b=some o/\H b=none:=by
 have e':h.get? b=some o:=PySem.W.of_hideAll (trk h H) e;refine⟨e',?_⟩
 cases q:H b with
 | none=>rfl
 | some x=>
  have hm:b∈trk h H:=QW.mpr ⟨QQ.mpr (QY e'),by simp[q]⟩;have z:(hidT h H).get? b=none:=PySem.W.hideAll_none (trk h H) hm;rw[z] at e;cases e
structure Mod(K:Frag)(mg:Str->Option Value)(base:Heap):Prop where
 kin:K.In base
 glob:base.Ns mainGlobals mg
 blt:∃ mb,base.Ns builtinsNs mb/\∀ x:Str,x≠"__name__"->mb x=bootBuiltins x
 nolimit:base.NoLimit
structure Cx where
 prog:Program
 w:World
 K:Frag
 mg:Str->Option Value
 base:Heap
 A:Around
 N:List Str
 s₀:Shared
 H₀:Hp
 env:Env
 outer:List Env
 stack:List Env
 ex:List Addr
 fn:Str->Bool
 calm:Bool
 pn:List (Addr × Obj)
 xe:Value->Shared->Prop
def frs(l:List Env):List Addr:=l.filterMap (·.frame)
abbrev Cx.fs(X:Cx):List Addr:=frs X.outer
def Vis(sc:Scope)(x:Str):Prop:=sc.names.lookup x=some .local\/sc.names.lookup x=some .cell\/sc.names.lookup x=some .free
def Loc(sc:Scope)(x:Str):Prop:=sc.names.lookup x=some .local\/sc.names.lookup x=some .cell
def Look(env:Env)(h:Heap)(m:Str->Option Value)(x:Str)(u:Value):Prop:=
 (env.kindOf x=some .local/\m x=some u)\/((env.kindOf x=some .cell\/env.kindOf x=some .free)/\∃ c,env.cells.lookup x=some c/\h.IsCell c (some u))
structure Cx.Ok(X:Cx):Prop where
 mod:Mod X.K X.mg X.base
 kind:X.env.scope.kind=.function
 glob:X.env.globals=mainGlobals
 blt:X.env.builtins=builtinsNs
 above:X.s₀.heap.objs.size<=X.env.locals
 inj:∀ x y c,X.env.cells.lookup x=some c->X.env.cells.lookup y=some c->x=y
 has:∀ x,(X.env.kindOf x=some .cell\/X.env.kindOf x=some .free)->∃ c,X.env.cells.lookup x=some c
 cab:∀ x c,X.fn x=true->X.env.cells.lookup x=some c->X.s₀.heap.objs.size<=c
 hd:X.calm=true->X.A.handled=none
 frames:X.A.frames=some X.stack
 stk:X.stack=X.outer\/(X.stack=X.env::X.outer/\X.env.frame=some X.env.locals)
 exf:∀ b∈X.ex,b≠X.env.locals/\∀ x c,X.env.cells.lookup x=some c->c≠b
 bs:∀ b o,X.base.get? b=some o->X.s₀.heap.get? b=some o/\X.H₀ b=none
 bsz:X.base.objs.size<=X.s₀.heap.objs.size
 noex:∀ b o,X.base.get? b=some o->b∉X.ex
 exfs:∀ b∈X.ex,b∉X.fs
 funs:X.s₀.heap.FunFrames X.base X.outer
 frf:∀ b∈X.fs,X.H₀ b=none
structure Inv(X:Cx)(Qi:List (Addr × Obj))(σ:List (Option V))(H:Hp)(s:Shared):Prop where
 ok:X.Ok
 os:s.os=X.s₀.os
 bare:AllBare s.gens
 base:Un X.fs X.ex X.H₀ H X.s₀.heap s.heap
 loc:∃ m,s.heap.Ns X.env.locals m/\∀(i:Nat) (x:Str) (v:V),X.N[i]? =some x->σ[i]? =some (some v)->Vis X.env.scope x->∃ u,RelV v u/\Look X.env s.heap m x u
 cell:∀ x c,X.env.cells.lookup x=some c->∃ v,s.heap.IsCell c v
 free:H X.env.locals=none
 freeC:∀ x c,X.env.cells.lookup x=some c->H c=none
 pin:∀ p∈X.pn++Qi,s.heap.get? p.1=some p.2/\H p.1=none/\p.1≠X.env.locals/\p.1∉X.fs/\∀ v,p.2.data≠.cell v
 hok:HOk X.prog X.w H s.heap
 len:σ.length=X.N.length
section
variable{X:Cx}{Qi:List (Addr × Obj)}{σ:List (Option V)}{H H':Hp}{s:Shared}{h':Heap}
theorem Cx.Ok.nofr(ok:X.Ok){b:Addr}{o:Obj}(e:X.base.get? b=some o):b∉X.fs:=fun hb=>by
 have:=(ok.funs.mem hb).1;rw[e] at this;cases this
theorem Inv.bs(I:Inv X Qi σ H s):∀ b o,X.base.get? b=some o->s.heap.get? b=some o/\H b=none:=fun b o e=>
 ⟨I.base.keep b o (I.ok.bs b o e).1 (I.ok.bs b o e).2 (I.ok.nofr e) (I.ok.noex b o e),I.base.free b o (I.ok.bs b o e).1 (I.ok.bs b o e).2 (I.ok.noex b o e)⟩
theorem Inv.bk(I:Inv X Qi σ H s):∀ b o,X.base.get? b=some o->s.heap.get? b=some o:=fun b o e=>(I.bs b o e).1
theorem Inv.mod(I:Inv X Qi σ H s):Mod X.K X.mg X.base:=I.ok.mod
theorem Inv.kIn(I:Inv X Qi σ H s):X.K.In s.heap:=I.ok.mod.kin.keeps I.bk
theorem Inv.lt(I:Inv X Qi σ H s):X.env.locals<s.heap.objs.size:=let ⟨_,hn,_⟩:=I.loc;hn.lt
theorem Inv.sz(I:Inv X Qi σ H s):X.s₀.heap.objs.size<=s.heap.objs.size:=QG I.ok.above (Rf I.lt)
theorem Inv.nofs(I:Inv X Qi σ H s){a:Addr}(h:s.heap.objs.size<=a):a∉X.fs:=fun hb=>by
 obtain⟨_,o,ho,_⟩:=I.ok.funs.mem hb;exact absurd (Q9 (QY ho) (QG I.sz h)) (R4 _)
theorem Inv.cne(I:Inv X Qi σ H s):∀ x c,X.env.cells.lookup x=some c->c≠X.env.locals:=fun x c e z=>by
 obtain⟨v,o,ho,hd⟩:=I.cell x c e;obtain⟨m,⟨o',es,ep,ho',hd',_⟩,_⟩:=I.loc;rw[z,ho'] at ho;cases ho;rw[hd'] at hd;cases hd
theorem Inv.funs(I:Inv X Qi σ H s):s.heap.FunFrames X.base X.outer:=by
 have all:∀(l:List Env),(∀ b∈frs l,b∈X.fs)->X.s₀.heap.FunFrames X.base l->s.heap.FunFrames X.base l:=by
  intro l
  induction l with
  | nil=>intro _ _;trivial
  | cons env r ih=>
   intro hs hl;obtain⟨hk,⟨L,o,hf,hn,ho,hd⟩,hr⟩:=hl;have hL:L∈X.fs:=hs L (by unfold frs;rw[SY,hf];exact QK);obtain⟨sl,e⟩:=I.base.slot L o ho (I.ok.frf L hL) hL fun z=>I.ok.exfs L z hL;exact⟨hk,⟨L,_,hf,hn,e,hd⟩,ih (fun b hb=>hs b (by unfold frs;rw[SY,hf];exact QH _ hb)) hr⟩
 exact all X.outer (fun _ hb=>hb) I.ok.funs
theorem Inv.stack(I:Inv X Qi σ H s):s.heap.FunFrames X.base X.stack:=by
 rcases I.ok.stk with e | ⟨e,hf⟩
 . rw[e];exact I.funs
 . rw[e];obtain⟨m,hn,_⟩:=I.loc;refine .cons (by rw[I.ok.kind];decide) hf hn ?_ I.funs;exact Heap.get?_none_of_le (QG I.ok.bsz I.ok.above)
theorem Inv.stkSub(I:Inv X Qi σ H s):∀ b∈frs X.stack,b∈X.env.locals::X.fs:=fun b hb=>by
 rcases I.ok.stk with e | ⟨e,hf⟩
 . rw[e] at hb;exact QH _ hb
 . rw[e] at hb;unfold frs at hb;rw[SY,hf] at hb;exact hb
theorem Inv.stkFree(I:Inv X Qi σ H s):∀ b∈frs X.stack,H b=none:=fun b hb=>by
 rcases QV.mp (I.stkSub b hb) with e | hb
 . rw[e];exact I.free
 . obtain⟨_,o,ho,_⟩:=I.ok.funs.mem hb;exact I.base.free b o ho (I.ok.frf b hb) fun z=>I.ok.exfs b z hb
theorem Inv.step {g':Array GenState} {t':Nat} {d':Drawn} {ch:List Addr} (I:Inv X Qi σ H s)
  (hch:∀ b∈ch,(b∈X.ex\/X.s₀.heap.objs.size<=b)/\b≠X.env.locals/\(∀ x c,X.env.cells.lookup x=some c->c≠b)/\∀ p∈X.pn++Qi,p.1≠b)
  (keep:∀ b o,b≠X.env.locals->b∉X.fs->b∉ch->s.heap.get? b=some o->H b=none->h'.get? b=some o)
  (slot:∀ b o,b≠X.env.locals->b∈X.fs->b∉ch->s.heap.get? b=some o->H b=none->∃ sl,h'.get? b=some {o with slots:=sl}) (free:∀ b o,b∉ch->s.heap.get? b=some o->H b=none->H' b=none)
  (there:∀ b o,b∉ch->s.heap.get? b=some o->∃ o',h'.get? b=some o')
  (tups:∀ b xs,H b=some (.tup xs)->H' b=some (.tup xs)) (frzs:∀ b o u,H b=some (.frz o u)->H' b=some (.frz o u)) (tbls:∀ b ps,H b=some (.tbl ps)->∃ more,H' b=some (.tbl (ps++more)))
  (ns:∀ m,s.heap.Ns X.env.locals m->h'.Ns X.env.locals m) (hok:HOk X.prog X.w H' h') (hg:AllBare g'):
  Inv X Qi σ H' {s with heap:=h',gens:=g',drawn:=d',toks:=t'}:=by
 have neL:∀ b o,X.s₀.heap.get? b=some o->b≠X.env.locals:=fun b o e=>Rt (Q9 (QY e) I.ok.above)
 have neC:∀ b o,X.s₀.heap.get? b=some o->b∉X.ex->b∉ch:=fun b o e hx hb=>by
  rcases(hch b hb).1 with z | z
  . exact hx z
  . exact absurd (Q9 (QY e) z) (R4 _)
 have cellK:∀ x c,X.env.cells.lookup x=some c->∀ v,s.heap.IsCell c v->h'.IsCell c v:=fun x c e v ⟨o,ho,hd⟩=>by
  have nch:c∉ch:=fun z=>(hch c z).2.2.1 x c e rfl;by_cases hc:c∈X.fs
  . obtain⟨sl,q⟩:=slot c o (I.cne x c e) hc nch ho (I.freeC x c e);exact⟨_,q,hd⟩
  . exact⟨o,keep c o (I.cne x c e) hc nch ho (I.freeC x c e),hd⟩
 refine⟨I.ok,I.os,hg,⟨fun b o e n hb hx=>?_,fun b o e n hb hx=>?_,fun b o e n hx=>?_,fun b o e hx=>?_,fun b xs e=>tups b xs (I.base.tups b xs e),fun b o xs e=>frzs b o xs (I.base.frzs b o xs e),fun b ps e=>?_⟩,?_,fun x c e=>?_,?_,fun x c e=>?_,fun p hp=>?_,hok,I.len⟩
 . exact keep b o (neL b o e) hb (neC b o e hx) (I.base.keep b o e n hb hx) (I.base.free b o e n hx)
 . obtain⟨sl,e1⟩:=I.base.slot b o e n hb hx;obtain⟨sl',e2⟩:=slot b _ (neL b o e) hb (neC b o e hx) e1 (I.base.free b o e n hx);exact⟨sl',e2⟩
 . obtain⟨o',e1⟩:=I.base.there b o e hx;exact free b o' (neC b o e hx) e1 (I.base.free b o e n hx)
 . obtain⟨o',e1⟩:=I.base.there b o e hx;exact there b o' (neC b o e hx) e1
 . obtain⟨m1,e1⟩:=I.base.tbls b ps e;obtain⟨m2,e2⟩:=tbls b _ e1;exact⟨m1++m2,by rw[e2,Array.append_assoc]⟩
 . obtain⟨m,hn,hl⟩:=I.loc;refine⟨m,ns m hn,fun i x v e1 e2 e3=>?_⟩;obtain⟨u,r,l⟩:=hl i x v e1 e2 e3;refine⟨u,r,?_⟩;rcases l with l | ⟨k,c,e,z⟩
   . exact .inl l
   . exact .inr ⟨k,c,e,cellK x c e _ z⟩
 . obtain⟨v,z⟩:=I.cell x c e;exact⟨v,cellK x c e v z⟩
 . obtain⟨m,⟨o,_,_,ho,_⟩,_⟩:=I.loc;exact free _ o (fun z=>(hch _ z).2.1 rfl) ho I.free
 . obtain⟨v,o,ho,hd⟩:=I.cell x c e;exact free c o (fun z=>(hch c z).2.2.1 x c e rfl) ho (I.freeC x c e)
 . obtain⟨e,n,ne,nf,d⟩:=I.pin p hp;have nch:p.1∉ch:=fun z=>(hch p.1 z).2.2.2 p hp rfl;exact⟨keep p.1 p.2 ne nf nch e n,free p.1 p.2 nch e n,ne,nf,d⟩
theorem Inv.un{t':Nat}(I:Inv X Qi σ H s)(u:Un X.fs [] H H' s.heap h')(hok:HOk X.prog X.w H' h'):Inv X Qi σ H' {s with heap:=h',toks:=t'}:=by
 obtain⟨m,⟨o,es,ep,ho,r⟩,_⟩:=id I.loc;obtain⟨sl,hL⟩:=u.any ho I.free (by simp)
 exact I.step (g':=s.gens) (d':=s.drawn) (ch:=[]) (fun _ z=>nomatch z) (fun b o _ hb _ e n=>u.keep b o e n hb (by simp)) (fun b o _ hb _ e n=>u.slot b o e n hb (by simp)) (fun b o _ e n=>u.free b o e n (by simp)) (fun b o _ e=>u.there b o e (by simp)) u.tups u.frzs u.tbls (fun m' hm=>by
  obtain⟨o',es',ep',ho',r'⟩:=hm;rw[ho] at ho';cases ho';exact⟨_,es',ep',hL,r'⟩) hok I.bare
theorem Inv.call {g':Array GenState} {t':Nat} {d':Drawn} {ch:List Addr} (I:Inv X Qi σ H s) (u:Un (frs X.stack) ch H H' s.heap h') (hok:HOk X.prog X.w H' h') (hg:AllBare g')
  (hch:∀ b∈ch,(b∈X.ex\/X.s₀.heap.objs.size<=b)/\b≠X.env.locals/\(∀ x c,X.env.cells.lookup x=some c->c≠b)/\∀ p∈X.pn++Qi,p.1≠b):
  Inv X Qi σ H' {s with heap:=h',gens:=g',drawn:=d',toks:=t'}:=by
 obtain⟨m,⟨o,es,ep,ho,r⟩,_⟩:=id I.loc;obtain⟨sl,hL⟩:=u.any ho I.free fun z=>(hch _ z).2.1 rfl
 exact I.step (ch:=ch) hch (fun b o hL hb hc e n=>u.keep b o e n (fun z=>(QV.mp (I.stkSub b z)).elim hL hb) hc) (fun b o _ _ hc e n=>u.any e n hc) (fun b o hc e n=>u.free b o e n hc) (fun b o hc e=>u.there b o e hc) u.tups u.frzs u.tbls (fun m' hm=>by
  obtain⟨o',es',ep',ho',r'⟩:=hm;rw[ho] at ho';cases ho';exact⟨_,es',ep',hL,r'⟩) hok hg
theorem Inv.turned {t':Nat} {it:Addr} (I:Inv X Qi σ H s) (k:∀ b o,b≠it->s.heap.get? b=some o->h'.get? b=some o) (hn:H it=none) (hL:it≠X.env.locals)
  (h1:it∈X.ex\/X.s₀.heap.objs.size<=it) (h2:∀ x c,X.env.cells.lookup x=some c->c≠it) (h3:∀ p∈X.pn++Qi,p.1≠it):Inv X Qi σ H {s with heap:=h',toks:=t'}:=by
 have nit:∀ b u,H b=some u->b≠it:=fun b u e z=>by rw[z,hn] at e;cases e
 refine I.step (g':=s.gens) (d':=s.drawn) (ch:=[it]) (fun b hb=>?_) (fun b o _ _ hc e _=>k b o (fun z=>hc (by simp[z])) e) (fun b o _ _ hc e _=>⟨o.slots,k b o (fun z=>hc (by simp[z])) e⟩) (fun _ _ _ _ n=>n)
  (fun b o hc e=>⟨o,k b o (fun z=>hc (by simp[z])) e⟩) (fun _ _ e=>e) (fun _ _ _ e=>e) (fun b ps e=>⟨#[],by rw[e];simp⟩) (fun m hm=>?_) (fun b u e=>?_) I.bare
 . have e:b=it:=by simpa using hb
   subst e;exact⟨h1,hL,h2,h3⟩
 . obtain⟨o,es,ep,ho,r⟩:=hm;exact⟨o,es,ep,k _ o (Tj hL) ho,r⟩
 . refine(I.hok b u e).stay (fun c v hc q=>k c v ?_ q) (fun _ q=>q) fun _ _ q=>q;rcases hc with z | z
   . rw[z];exact nit b u e
   . exact nit c _ z
theorem Inv.tok(I:Inv X Qi σ H s)(t:Nat):Inv X Qi σ H {s with toks:=t}:=I.un (h':=s.heap) (t':=t) Un.refl I.hok
theorem Inv.kept{t':Nat}(I:Inv X Qi σ H s)(k:∀ b u,s.heap.get? b=some u->h'.get? b=some u):Inv X Qi σ H {s with heap:=h',toks:=t'}:=I.un (Un.kept k) (I.hok.kept k)
theorem Inv.laid{a:Addr}{o:HO}{t':Nat}(I:Inv X Qi σ H s)(k:∀ b u,s.heap.get? b=some u->h'.get? b=some u)(hp:s.heap.objs.size<=a)(new:ObjOk X.prog X.w (upd H a o) h' a o):
  Inv X Qi σ (upd H a o) {s with heap:=h',toks:=t'}:=I.un (Un.laid k hp (I.hok.fresh hp)) (I.hok.laid k hp new)
theorem Inv.write {x e:Addr} {o:HO} {t':Nat} (I:Inv X Qi σ H s) (mu:Mut (H x)) (he:e=x\/H e=some (.own x)) (k:∀ b u,b≠e->s.heap.get? b=some u->h'.get? b=some u) (heo:∃ u,h'.get? e=some u)
  (new:ObjOk X.prog X.w (upd H x o) h' x o):Inv X Qi σ (upd H x o) {s with heap:=h',toks:=t'}:=I.un (Un.write mu he k heo) (I.hok.write mu he k heo new)
theorem Inv.pins_of{pins':List (Addr × Obj)}(I:Inv X Qi σ H s)(h:∀ p∈pins',s.heap.get? p.1=some p.2/\H p.1=none/\p.1≠X.env.locals/\p.1∉X.fs/\∀ v,p.2.data≠.cell v):Inv X pins' σ H s:=
 ⟨I.ok,I.os,I.bare,I.base,I.loc,I.cell,I.free,I.freeC,fun p hp=>(QZ.mp hp).elim (fun z=>I.pin p (SR _ z)) (h p),I.hok,I.len⟩
theorem wp{N:List Str}(hN:N.Nodup){i j:Nat}{x:Str}(a:N[i]? =some x)(b:N[j]? =some x):i=j:=by
 obtain⟨h1,e1⟩:=Qz.mp a;obtain⟨h2,e2⟩:=Qz.mp b;exact(List.getElem_inj hN).mp (e1.trans e2.symm)
theorem vg {M:Model} {A:Around} {E:Value->Shared->Prop} {i:Nat} {x:Str} {v:V} {u:Value} {Q:Unit->Shared->Prop} (I:Inv X Qi σ H s) (hN:X.N.Nodup) (hi:X.N[i]? =some x) (hx:Loc X.env.scope x) (r:RelV v u)
  (h:∀ s',Inv X Qi (σ.set i (some v)) H s'->(∃ a,Heap.SameBut a s.heap s'.heap/\(a=X.env.locals\/X.env.cells.lookup x=some a))->Q () s') (hf:X.fn x=true\/X.env.scope.names.lookup x=some .local:=by first | exact .inl rfl | exact .inr rfl | assumption):wpAny M A (storeName X.env x u) Q E s:=by
 obtain⟨m,hn,hl⟩:=id I.loc;have hcls:(X.env.scope.kind==.class||(X.env.scope.kind==.module&&X.env.locals != X.env.globals))=false:=by rw[I.ok.kind];rfl
 have hiσ:i<σ.length:=by rw[I.len];exact(Qz.mp hi).1
 have cne:=I.cne
 have tracked:∀{a:Addr} {h':Heap},(∃ o,s.heap.get? a=some o/\H a=none)->Heap.SameBut a s.heap h'->HOk X.prog X.w H h':=fun{a h'} ha hs b ob e=>by
  obtain⟨_,_,hfree⟩:=ha;refine(I.hok b ob e).stay (fun c w' hc q=>(hs.2 c ?_).trans q) (fun _ q=>q) fun _ _ q=>q;rintro rfl;rcases hc with rfl | hc
  . rw[hfree] at e;cases e
  . rw[hfree] at hc;cases hc
 rcases hx with hk | hk
 . refine wpAny_storeName_local hk hn (fun h' hn' hs=>?_) hcls;obtain⟨oL,_,_,hoL,_⟩:=id hn;refine h _ ⟨I.ok,I.os,I.bare,⟨fun b o e n hb hx=>?_,fun b o e n hb hx=>?_,I.base.free,fun b o e hx=>?_,I.base.tups,I.base.frzs,I.base.tbls⟩,⟨_,hn',fun j y v' e1 e2 e3=>?_⟩,fun y c e=>?_,I.free,I.freeC,fun p hp=>?_,tracked ⟨oL,hoL,I.free⟩ hs,by simpa using I.len⟩ ⟨_,hs,.inl rfl⟩
   . exact(hs.2 b (Rt (Q9 (QY e) I.ok.above))).trans (I.base.keep b o e n hb hx)
   . obtain⟨sl,e1⟩:=I.base.slot b o e n hb hx;exact⟨sl,(hs.2 b (Rt (Q9 (QY e) I.ok.above))).trans e1⟩
   . obtain⟨o',e1⟩:=I.base.there b o e hx;exact⟨o',(hs.2 b (Rt (Q9 (QY e) I.ok.above))).trans e1⟩
   . by_cases hj:j=i
     . subst hj;rw[hi] at e1;cases e1;rw[Tw hiσ] at e2;cases e2;exact⟨u,r,.inl ⟨hk,by simp⟩⟩
     . rw[List.getElem?_set_ne (Tj hj)] at e2;obtain⟨u',r',q⟩:=hl j y v' e1 e2 e3;refine⟨u',r',?_⟩;rcases q with ⟨k,e⟩ | ⟨k,c,e,z⟩
       . refine .inl ⟨k,?_⟩;have:y≠x:=fun e=>hj (wp hN e1 (e ▸ hi));simp[this,e]
       . exact .inr ⟨k,c,e,z.sameBut hs (cne y c e)⟩
   . obtain⟨w',z⟩:=I.cell y c e;exact⟨w',z.sameBut hs (cne y c e)⟩
   . obtain⟨e,n,ne,nf,d⟩:=I.pin p hp;exact⟨(hs.2 p.1 ne).trans e,n,ne,nf,d⟩
 . have hfn:X.fn x=true:=by
    rcases hf with z | z
    . exact z
    . rw[z] at hk;cases hk
   obtain⟨c,hc⟩:=I.ok.has x (.inl hk);obtain⟨w',z⟩:=I.cell x c hc;refine wpAny_storeName_cell I.ok.kind hk hc z (fun h' hc' hs=>?_);obtain⟨oc,hoc,hocd⟩:=id z;refine h {s with heap:=h'} ⟨I.ok,I.os,I.bare,⟨fun b o e n hb hx=>?_,fun b o e n hb hx=>?_,I.base.free,fun b o e hx=>?_,I.base.tups,I.base.frzs,I.base.tbls⟩,⟨m,hn.sameBut hs (Tj (cne x c hc)),fun j y v' e1 e2 e3=>?_⟩,fun y c' e=>?_,I.free,I.freeC,fun p hp=>?_,tracked ⟨oc,hoc,I.freeC x c hc⟩ hs,by simpa using I.len⟩ ⟨c,hs,.inr hc⟩
   . exact(hs.2 b (Rt (Q9 (QY e) (I.ok.cab x c hfn hc)))).trans (I.base.keep b o e n hb hx)
   . obtain⟨sl,e1⟩:=I.base.slot b o e n hb hx;exact⟨sl,(hs.2 b (Rt (Q9 (QY e) (I.ok.cab x c hfn hc)))).trans e1⟩
   . obtain⟨o',e1⟩:=I.base.there b o e hx;exact⟨o',(hs.2 b (Rt (Q9 (QY e) (I.ok.cab x c hfn hc)))).trans e1⟩
   . by_cases hj:j=i
     . subst hj;rw[hi] at e1;cases e1;rw[Tw hiσ] at e2;cases e2;exact⟨u,r,.inr ⟨.inl hk,c,hc,hc'⟩⟩
     . rw[List.getElem?_set_ne (Tj hj)] at e2;obtain⟨u',r',q⟩:=hl j y v' e1 e2 e3;refine⟨u',r',?_⟩;rcases q with q | ⟨k,c',e,z'⟩
       . exact .inl q
       . refine .inr ⟨k,c',e,z'.sameBut hs ?_⟩;rintro rfl;exact hj (wp hN e1 (I.ok.inj _ _ _ e hc ▸ hi))
   . by_cases hcc:c'=c
     . subst hcc;exact⟨_,hc'⟩
     . obtain⟨w2,z2⟩:=I.cell y c' e;exact⟨w2,z2.sameBut hs hcc⟩
   . obtain⟨e,n,ne,nf,d⟩:=I.pin p hp;refine⟨(hs.2 p.1 ?_).trans e,n,ne,nf,d⟩;intro q;rw[q,hoc] at e;have q':oc=p.2:=RU e;exact d w' (by rw[← q'];exact hocd)
theorem wq {M:Model} {A:Around} {E:Value->Shared->Prop} {i:Nat} {x:Str} {v:V} {u:Value} {Q:Unit->Shared->Prop} (I:Inv X Qi σ H s) (hN:X.N.Nodup) (hi:X.N[i]? =some x) (hx:Loc X.env.scope x) (r:RelV v u)
  (h:∀ s',Inv X Qi (σ.set i (some v)) H s'->Q () s') (hf:X.fn x=true\/X.env.scope.names.lookup x=some .local:=by first | exact .inl rfl | exact .inr rfl | assumption):wpAny M A (storeName X.env x u) Q E s:=
 vg I hN hi hx r (fun s' I' _=>h s' I') hf
theorem Inv.call' {s':Shared} {ch:List Addr} (I:Inv X Qi σ H s) (ho:s'.os=s.os) (u:Un (frs X.stack) ch H H' s.heap s'.heap) (hok:HOk X.prog X.w H' s'.heap) (hg:AllBare s'.gens)
  (hch:∀ b∈ch,(b∈X.ex\/X.s₀.heap.objs.size<=b)/\b≠X.env.locals/\(∀ x c,X.env.cells.lookup x=some c->c≠b)/\∀ p∈X.pn++Qi,p.1≠b):Inv X Qi σ H' s':=by
 obtain⟨h',g',d',t',o'⟩:=s';have e:o'=s.os:=ho;subst e;exact I.call (g':=g') (t':=t') (d':=d') u hok hg hch
end
abbrev XK:=Value->Option Addr->Hp->Prop
abbrev St:=List (Option V)
abbrev VK:=V->Hp->Prop
abbrev TE:=St->Hp->VK->Prop
abbrev TT:=St->Hp->(Bool->Hp->Prop)->Prop
abbrev TA:=St->Hp->(List V->Hp->Prop)->Prop
structure Ends where
 nx:St->Hp->Prop
 rt:VK
 bk:St->Hp->Prop:=fun _ _=>False
 ct:St->Hp->Prop:=fun _ _=>False
abbrev TS:=Ends->St->Hp->Prop
def EP(X:Cx)(Qi:List (Addr × Obj))(σ:St)(Q:VK)(u:Value)(s':Shared):Prop:=∃ v H',Inv X Qi σ H' s'/\RelV v u/\Q v H'
def TP(X:Cx)(Qi:List (Addr × Obj))(σ:St)(Q:Bool->Hp->Prop)(b:Bool)(s':Shared):Prop:=∃ H',Inv X Qi σ H' s'/\Q b H'
def AP(X:Cx)(Qi:List (Addr × Obj))(σ:St)(Q:List V->Hp->Prop)(us:List Value)(s':Shared):Prop:=∃ vs H',Inv X Qi σ H' s'/\Vals vs us/\Q vs H'
def SP(X:Cx)(Qi:List (Addr × Obj))(D:Ends)(f:Flow)(s':Shared):Prop:=
 match f with
 | .next=>∃ σ' H',Inv X Qi σ' H' s'/\D.nx σ' H'
 | .brk=>∃ σ' H',Inv X Qi σ' H' s'/\D.bk σ' H'
 | .cont=>∃ σ' H',Inv X Qi σ' H' s'/\D.ct σ' H'
 | .ret u=>∃ v σ' H',Inv X Qi σ' H' s'/\RelV v u/\D.rt v H'
def PE(X:Cx)(e:Expr)(t:TE):Prop:=
 ∀(Qi:List (Addr × Obj)) (s:Shared) (σ:St) (H:Hp) (Q:VK),Inv X Qi σ H s->t σ H Q->wpAny (model X.prog X.w) X.A (eval e X.env) (EP X Qi σ Q) X.xe s
def PT(X:Cx)(e:Expr)(t:TT):Prop:=
 ∀(Qi:List (Addr × Obj)) (s:Shared) (σ:St) (H:Hp) (Q:Bool->Hp->Prop),Inv X Qi σ H s->t σ H Q->wpAny (model X.prog X.w) X.A (isTrue e X.env (eval e X.env)) (TP X Qi σ Q) X.xe s
def PW(X:Cx)(e:Expr)(t:TT):Prop:=
 ∀(Qr:Sem Value) (Qi:List (Addr × Obj)) (s:Shared) (σ:St) (H:Hp) (Q:Bool->Hp->Prop),Inv X Qi σ H s->t σ H Q->wpAny (model X.prog X.w) X.A (isTrue e X.env Qr) (TP X Qi σ Q) X.xe s
theorem PW.pt{X:Cx}{e:Expr}{t:TT}(h:PW X e t):PT X e t:=h _
abbrev Sm:=@PW.pt
def PA(X:Cx)(es:List Expr)(t:TA):Prop:=
 ∀(pos:Pos) (Qi:List (Addr × Obj)) (s:Shared) (σ:St) (H:Hp) (Q:List V->Hp->Prop),Inv X Qi σ H s->t σ H Q->wpAny (model X.prog X.w) X.A (spliced (backTo pos (starEach es X.env))) (AP X Qi σ Q) X.xe s
def PS(X:Cx)(st:Stmt)(t:TS):Prop:=
 ∀(Qi:List (Addr × Obj)) (s:Shared) (σ:St) (H:Hp) (D:Ends),Inv X Qi σ H s->t D σ H->wpAny (model X.prog X.w) X.A (exec st X.env) (SP X Qi D) X.xe s
def PSs(X:Cx)(st:List Stmt)(t:TS):Prop:=
 ∀(Qi:List (Addr × Obj)) (s:Shared) (σ:St) (H:Hp) (D:Ends),Inv X Qi σ H s->t D σ H->wpAny (model X.prog X.w) X.A (execs st X.env) (SP X Qi D) X.xe s
theorem thn{α:Type}{t:Sem α}{Q Q':α->Shared->Prop}{M:Model}{A:Around}{E:Value->Shared->Prop}{s:Shared}(h:wpAny M A t Q E s)(hQ:∀ a s,Q a s->Q' a s):wpAny M A t Q' E s:=RJ h hQ fun _ _ x=>x
section
variable{X:Cx}
def tVar(i:Nat):TE:=fun σ H Q=>∃ v,σ[i]? =some (some v)/\Q v H
def tC(v:V):TE:=fun _ H Q=>Q v H
theorem Ds{i:Nat}{x:Str}{pos:Pos}(hN:X.N[i]? =some x)(hv:Vis X.env.scope x)(hd:(x==("__debug__":Str))=false:=by decide)(hcd:(x==("__classdict__":Str))=false:=by decide):PE X (.Name x pos) (tVar i):=by
 intro Qi s σ H Q I h;obtain⟨v,e,h⟩:=h;obtain⟨m,hn,hl⟩:=I.loc;obtain⟨u,r,l⟩:=hl i x v hN e hv;have fin:EP X Qi σ Q u s:=⟨v,H,I,r,h⟩;rcases l with ⟨hk,hm⟩ | ⟨hk,c,hc,hcell⟩
 . exact wpAny_Name (wpAny_loadName_local I.ok.kind hk hn hm fin) hd
 . rcases hk with hk | hk
   . exact wpAny_Name (wpAny_loadName_cell I.ok.kind hk hc hcell fin) hd
   . exact wpAny_Name (wpAny_loadName_free I.ok.kind hk hc hcell fin hcd) hd
theorem ad{i j pos}:PE X (.Constant (.int i) j pos) (tC (.int i)):=fun _ _ _ H _ I h=>wpAny_Constant_int ⟨.int i,H,I.tok _,⟨_,rfl⟩,h⟩
theorem bn{b j pos}:PE X (.Constant (.bool b) j pos) (tC (.bl b)):=fun _ _ _ H _ I h=>Constant_bool ⟨.bl b,H,I,rfl,h⟩
theorem l9{j pos}:PE X (.Constant .none j pos) (tC .non):=fun _ _ _ H _ I h=>Constant_none ⟨.non,H,I,rfl,h⟩
theorem aH{x j pos}:PE X (.Constant (.str x) j pos) (tC (.str x)):=fun _ _ _ H _ I h=>Calls.Constant_str ⟨.str x,H,I.tok _,⟨_,rfl⟩,h⟩
def Gl(X:Cx)(x:Str):Prop:=X.env.kindOf x=some .globalImplicit
theorem uw {E:Value->Shared->Prop} {Qi:List (Addr × Obj)} {s:Shared} {σ:St} {H:Hp} {x:Str} {u:Value} {pos:Pos} {Q:Value->Shared->Prop} (I:Inv X Qi σ H s) (hg:Gl X x) (hm:X.mg x=some u) (h:Q u s)
  (hd:(x==("__debug__":Str))=false:=by decide):wpAny (model X.prog X.w) X.A (eval (.Name x pos) X.env) Q E s:=
 S8 I.ok.kind hg (Calls.loadGlobal_global (by rw[I.ok.glob];exact I.mod.glob.keeps I.bk) hm h) hd
theorem hX {E:Value->Shared->Prop} {Qi:List (Addr × Obj)} {s:Shared} {σ:St} {H:Hp} {x:Str} {u:Value} {pos:Pos} {Q:Value->Shared->Prop} (I:Inv X Qi σ H s) (hg:Gl X x) (hm:X.mg x=none) (hv:bootBuiltins x=some u) (h:Q u s)
  (hn:x≠"__name__":=by decide) (hd:(x==("__debug__":Str))=false:=by decide):wpAny (model X.prog X.w) X.A (eval (.Name x pos) X.env) Q E s:=by
 obtain⟨mb,h1,h2⟩:=I.mod.blt;exact S8 I.ok.kind hg (Calls.loadGlobal_builtin (by rw[I.ok.glob];exact I.mod.glob.keeps I.bk) hm (by rw[I.ok.blt];exact h1.keeps I.bk) ((h2 x hn).trans hv) h) hd
theorem cL{x:Str}{v:V}{u:Value}{pos:Pos}(hg:Gl X x)(hm:X.mg x=some u)(r:RelV v u)(hd:(x==("__debug__":Str))=false:=by decide):PE X (.Name x pos) (tC v):=
 fun _ _ _ H _ I h=>uw I hg hm ⟨v,H,I,r,h⟩ hd
theorem cM{x:Str}{v:V}{u:Value}{pos:Pos}(hg:Gl X x)(hm:X.mg x=none)(hv:bootBuiltins x=some u)(r:RelV v u)(hn:x≠"__name__":=by decide)(hd:(x==("__debug__":Str))=false:=by decide):PE X (.Name x pos) (tC v):=
 fun _ _ _ H _ I h=>hX I hg hm hv ⟨v,H,I,r,h⟩ hn hd
variable{a b:Expr}{ta tb:TE}{pos:Pos}
def tB(t:TE):TT:=fun σ H Q=>t σ H fun x H1=>∃ c,x=.bl c/\Q c H1
theorem aO{e:Expr}{t:TE}(h:PE X e t)(he:∀ Qr,isTrue e X.env Qr=(do let v ← Qr;standAt e.pos;holding [v] (truthy v)):=by intro _;rfl):PT X e (tB t):=by
 intro Qi s σ H Q I hw;refine isTrue_plain (thn (h Qi s σ H _ I hw) fun v s1 ⟨x,H1,I1,r1,q1⟩=>?_) (he _);obtain⟨d,rfl,q⟩:=q1;cases r1;exact RX ⟨H1,I1,q⟩
variable{tA tB':TT}{rest:List Expr}
def tAnd(t u:TT):TT:=fun σ H Q=>t σ H fun c H1=>if c=true then u σ H1 Q else Q false H1
def tOr(t u:TT):TT:=fun σ H Q=>t σ H fun c H1=>if c=true then Q true H1 else u σ H1 Q
def tNot(t:TT):TT:=fun σ H Q=>t σ H fun c H1=>Q (!c) H1
theorem qw(ha:PT X a tA):PW X (.BoolOp .And [a] pos) tA:=by
 intro wh Qi s σ H Q I h;refine isTrue_and (thn (ha Qi s σ H Q I h) fun c s1 e=>?_)
 cases c with
 | true=>exact isTrue_and_nil e
 | false=>exact e
theorem bQ(ha:PT X a tA):PW X (.BoolOp .Or [a] pos) tA:=by
 intro wh Qi s σ H Q I h;refine isTrue_or (thn (ha Qi s σ H Q I h) fun c s1 e=>?_)
 cases c with
 | false=>exact isTrue_or_nil e
 | true=>exact e
theorem sC(ha:PT X a tA)(hb:PW X (.BoolOp .And (b::rest) pos) tB'):PW X (.BoolOp .And (a::b::rest) pos) (tAnd tA tB'):=by
 intro wh Qi s σ H Q I h;refine isTrue_and (thn (ha Qi s σ H _ I h) fun c s1 ⟨H1,I1,q1⟩=>?_)
 cases c with
 | true=>exact hb wh Qi s1 σ H1 Q I1 q1
 | false=>exact⟨H1,I1,q1⟩
theorem bw(ha:PT X a tA)(hb:PW X (.BoolOp .Or (b::rest) pos) tB'):PW X (.BoolOp .Or (a::b::rest) pos) (tOr tA tB'):=by
 intro wh Qi s σ H Q I h;refine isTrue_or (thn (ha Qi s σ H _ I h) fun c s1 ⟨H1,I1,q1⟩=>?_)
 cases c with
 | true=>exact⟨H1,I1,q1⟩
 | false=>exact hb wh Qi s1 σ H1 Q I1 q1
theorem bh(ha:PT X a tA):PT X (.UnaryOp .Not a pos) (tNot tA):=by
 intro Qi s σ H Q I h;exact isTrue_not (ha Qi s σ H (fun c H1=>Q (!c) H1) I h)
def tAndV(ta tb:TE):TE:=fun σ H Q=>ta σ H fun x H1=>∃ c,x=.bl c/\if c=true then tb σ H1 Q else Q (.bl false) H1
def tOrV(ta tb:TE):TE:=fun σ H Q=>ta σ H fun x H1=>∃ c,x=.bl c/\if c=true then Q (.bl true) H1 else tb σ H1 Q
def tNotV(ta:TE):TE:=fun σ H Q=>ta σ H fun x H1=>∃ c,x=.bl c/\Q (.bl (!c)) H1
theorem bD{op}{t:TE}(h:PE X a t):PE X (.BoolOp op [a] pos) t:=fun Qi s σ H Q I hw=>BoolOp_one (h Qi s σ H Q I hw)
theorem br(ha:PE X a ta)(hb:PE X (.BoolOp .And (b::rest) pos) tb):PE X (.BoolOp .And (a::b::rest) pos) (tAndV ta tb):=by
 intro Qi s σ H Q I h;refine BoolOp_and (thn (ha Qi s σ H _ I h) fun v s1 ⟨x,H1,I1,r1,q1⟩=>?_);obtain⟨c,rfl,q1⟩:=q1;cases r1;refine RX ?_
 cases c with
 | true=>exact hb Qi s1 σ H1 Q I1 q1
 | false=>exact⟨.bl false,H1,I1,rfl,q1⟩
theorem sD(ha:PE X a ta)(hb:PE X (.BoolOp .Or (b::rest) pos) tb):PE X (.BoolOp .Or (a::b::rest) pos) (tOrV ta tb):=by
 intro Qi s σ H Q I h;refine BoolOp_or (thn (ha Qi s σ H _ I h) fun v s1 ⟨x,H1,I1,r1,q1⟩=>?_);obtain⟨c,rfl,q1⟩:=q1;cases r1;refine RX ?_
 cases c with
 | false=>exact hb Qi s1 σ H1 Q I1 q1
 | true=>exact⟨.bl true,H1,I1,rfl,q1⟩
theorem Ac(ha:PE X a ta):PE X (.UnaryOp .Not a pos) (tNotV ta):=by
 intro Qi s σ H Q I h;refine UnaryOp_ (thn (ha Qi s σ H _ I h) fun v s1 ⟨x,H1,I1,r1,q1⟩=>?_);obtain⟨c,rfl,q1⟩:=q1;cases r1;exact not_of (RX ⟨.bl (!c),H1,I1,rfl,q1⟩)
def tIf(t:TT)(ta tb:TE):TE:=fun σ H Q=>t σ H fun c H1=>if c=true then ta σ H1 Q else tb σ H1 Q
theorem iM{c:Expr}(hc:PT X c tA)(ha:PE X a ta)(hb:PE X b tb):PE X (.IfExp c a b pos) (tIf tA ta tb):=by
 intro Qi s σ H Q I h;refine wpAny_IfExp (thn (hc Qi s σ H _ I h) fun d s1 ⟨H1,I1,q1⟩=>?_)
 cases d with
 | true=>exact ha Qi s1 σ H1 Q I1 q1
 | false=>exact hb Qi s1 σ H1 Q I1 q1
end
def SqL(K:Frag)(H:Hp)(a:Addr)(xs:List V):Prop:=
 Rd H a (.lst xs)\/
  ∃(o:Obj) (Qm:Array Value) (n:Nat),K.lookup a=some o/\o.cls=.type "list"/\o.dict=none/\o.data=.seq Qm n/\Qm.size<=sizeLine/\Vals xs Qm.toList
def SqT(K:Frag)(H:Hp)(a:Addr)(xs:List V):Prop:=
 Rd H a (.tup xs)\/
  ∃(o:Obj) (Qm:Array Value) (n:Nat),K.lookup a=some o/\o.cls=.type "tuple"/\o.data=.seq Qm n/\Qm.size<=sizeLine/\Vals xs Qm.toList
def absV:Value->Option V
 | .none=>some .non
 | .bool b=>some (.bl b)
 | .int i _=>some (.int i)
 | .str x _=>some (.str x)
 | .bytes b _=>some (.byt b)
 | .float b _=>some (.flt b)
 | .ref a=>some (.ref a)
 | .type n=>some (.ty n)
 | _=>none
variable{u:Value}
theorem RelV.abs{x:V}(r:RelV x u):absV u=some x:=by
 cases x with
 | non=>cases r;rfl
 | bl _=>cases r;rfl
 | int _=>obtain⟨t,rfl⟩:=r;rfl
 | str _=>obtain⟨t,rfl⟩:=r;rfl
 | byt _=>obtain⟨t,rfl⟩:=r;rfl
 | flt _=>obtain⟨t,rfl⟩:=r;rfl
 | ref _=>cases r;rfl
 | ty _=>cases r;rfl
theorem RelV.inj{x y:V}(r:RelV x u)(q:RelV y u):x=y:=RU (r.abs.symm.trans q.abs)
theorem Vals.inj:∀{xs ys:List V} {us:List Value},Vals xs us->Vals ys us->xs=ys
 | _,_,_,.nil,.nil=>rfl
 | _,_,_,.cons r t,.cons r' t'=>by rw[r.inj r',Vals.inj t t']
section
variable{X:Cx}{Qi:List (Addr × Obj)}{σ:St}{H:Hp}{s:Shared}{a:Addr}{xs ys:List V}
theorem SqL.of{K:Frag}(h:H a=some (.lst xs)):SqL K H a xs:=.inl (.inl h)
abbrev QI:=@SqL.of
theorem SqT.of{K:Frag}(h:H a=some (.tup xs)):SqT K H a xs:=.inl (.inl h)
abbrev T7:=@SqT.of
theorem Inv.list(I:Inv X Qi σ H s)(h:SqL X.K H a xs):∃ Qm:List Value,Vals xs Qm/\PlainL s.heap a Qm.toArray/\xs.length<=sizeLine:=by
 rcases h with h | ⟨o,Qm,n,hk,hc,hd,hs,hz,r⟩
 . obtain⟨z,Qm,n,r,e⟩:=h.ok I.hok;exact⟨Qm,r,⟨_,n,e,rfl,rfl,rfl⟩,z⟩
 . refine⟨Qm.toList,r,⟨o,n,I.kIn a o hk,hc,hd,by simpa using hs⟩,?_⟩;have e:=r.length;simp only[Sq] at e;omega
theorem Inv.tuple(I:Inv X Qi σ H s)(h:SqT X.K H a xs):∃ Qm:List Value,Vals xs Qm/\IsTup s.heap a Qm.toArray/\xs.length<=sizeLine:=by
 rcases h with h | ⟨o,Qm,n,hk,hc,hs,hz,r⟩
 . obtain⟨z,Qm,r,p⟩:=h.ok I.hok;exact⟨Qm,r,p,z⟩
 . refine⟨Qm.toList,r,⟨o,I.kIn a o hk,hc,n,by simpa using hs⟩,?_⟩;have e:=r.length;simp only[Sq] at e;omega
theorem Inv.list_inj(I:Inv X Qi σ H s)(h:SqL X.K H a xs)(h':SqL X.K H a ys):xs=ys:=by
 obtain⟨Qm,r,⟨o,n,e,_,_,d⟩,_⟩:=I.list h;obtain⟨its',r',⟨o',n',e',_,_,d'⟩,_⟩:=I.list h';rw[e] at e';cases e';rw[d] at d';injection d' with d1 _;have:Qm=its':=by simpa using congrArg Array.toList d1
 subst this;exact r.inj r'
theorem Inv.tuple_inj(I:Inv X Qi σ H s)(h:SqT X.K H a xs)(h':SqT X.K H a ys):xs=ys:=by
 obtain⟨Qm,r,⟨o,e,_,n,d⟩,_⟩:=I.tuple h;obtain⟨its',r',⟨o',e',_,n',d'⟩,_⟩:=I.tuple h';rw[e] at e';cases e';rw[d] at d';injection d' with d1 _;have:Qm=its':=by simpa using congrArg Array.toList d1
 subst this;exact r.inj r'
end
abbrev Cx.wish(X:Cx)(E:Value->Shared->Prop):Cx:={X with xe:=E}
abbrev Cx.nox(X:Cx):Cx:=X.wish fun _ _=>False
variable{X:Cx}
theorem Cx.Ok.wish(ok:X.Ok)(E:Value->Shared->Prop):(X.wish E).Ok:=
 ⟨ok.mod,ok.kind,ok.glob,ok.blt,ok.above,ok.inj,ok.has,ok.cab,ok.hd,ok.frames,ok.stk,ok.exf,ok.bs,ok.bsz,ok.noex,ok.exfs,ok.funs,ok.frf⟩
variable{E:Value->Shared->Prop}
theorem Cx.Ok.unwish(ok:(X.wish E).Ok):X.Ok:=
 ⟨ok.mod,ok.kind,ok.glob,ok.blt,ok.above,ok.inj,ok.has,ok.cab,ok.hd,ok.frames,ok.stk,ok.exf,ok.bs,ok.bsz,ok.noex,ok.exfs,ok.funs,ok.frf⟩
section
variable{X:Cx}{Qi:List (Addr × Obj)}{σ:St}{H:Hp}{s:Shared}{E:Value->Shared->Prop}
theorem Inv.wish(I:Inv X Qi σ H s)(E:Value->Shared->Prop):Inv (X.wish E) Qi σ H s:=⟨I.ok.wish E,I.os,I.bare,I.base,I.loc,I.cell,I.free,I.freeC,I.pin,I.hok,I.len⟩
theorem Inv.unwish(I:Inv (X.wish E) Qi σ H s):Inv X Qi σ H s:=⟨I.ok.unwish,I.os,I.bare,I.base,I.loc,I.cell,I.free,I.freeC,I.pin,I.hok,I.len⟩
theorem SP.unwish{D:Ends}{f:Flow}{s':Shared}(h:SP (X.wish E) Qi D f s'):SP X Qi D f s':=by
 cases f with
 | next=>obtain⟨σ',H',I,q⟩:=h;exact⟨σ',H',I.unwish,q⟩
 | brk=>obtain⟨σ',H',I,q⟩:=h;exact⟨σ',H',I.unwish,q⟩
 | cont=>obtain⟨σ',H',I,q⟩:=h;exact⟨σ',H',I.unwish,q⟩
 | ret u=>obtain⟨v,σ',H',I,r,q⟩:=h;exact⟨v,σ',H',I.unwish,r,q⟩
theorem PSs.nox{st:List Stmt}{t:TS}(h:PSs X.nox st t):PSs X st t:=fun Qi s σ H D I hw=>
 RJ (h Qi s σ H D (I.wish _) hw) (fun _ _ q=>q.unwish) fun _ _ z=>False.elim z
end
section
variable{X:Cx}{st:Stmt}{rest:List Stmt}{t u:TS}{e:Expr}{te:TE}{pos:Pos}
def tNext:TS:=fun D σ H=>D.nx σ H
def tSeq(t u:TS):TS:=fun D σ H=>t {D with nx:=u D} σ H
theorem ap:PSs X [] tNext:=fun _ _ σ H _ I h=>SU ⟨σ,H,I,h⟩
theorem ac(h1:PS X st t)(h2:PSs X rest u):PSs X (st::rest) (tSeq t u):=by
 intro Qi s σ H D I h;refine wpAny_execs_cons (thn (h1 Qi s σ H {D with nx:=u D} I h) fun f s1 q=>?_)
 cases f with
 | next=>
  obtain⟨σ',H',I',q⟩:=q;exact h2 Qi s1 σ' H' D I' q
 | ret v=>exact q
 | brk=>exact q
 | cont=>exact q
theorem ae(h1:PS X st t):PSs X [st] t:=by
 intro Qi s σ H D I h;refine wpAny_execs_cons (thn (h1 Qi s σ H D I h) fun f s1 q=>?_)
 cases f with
 | next=>exact SU q
 | ret v=>exact q
 | brk=>exact q
 | cont=>exact q
theorem Inv.quiet{Qi:List (Addr × Obj)}{σ:St}{H:Hp}{s:Shared}(I:Inv X Qi σ H s):interactive X.env=false:=by simp[interactive,I.ok.kind]
def tDrop(te:TE):TS:=fun D σ H=>te σ H fun _ H1=>D.nx σ H1
theorem cc(he:PE X e te)(hs:swapsWith e none pos.line X.env=pure false:=by rfl):PS X (.Expr e pos) (tDrop te):=by
 intro Qi s σ H D I h;exact wpAny_Expr_any (thn (he Qi s σ H _ I h) fun v s1 ⟨x,H1,I1,r1,q1⟩=>⟨σ,H1,I1,q1⟩) I.quiet hs
def tRet(te:TE):TS:=fun D σ H=>te σ H D.rt
theorem af(he:PE X e te):PS X (.Return (some e) pos) (tRet te):=by
 intro Qi s σ H D I h;exact wpAny_Return_some (thn (he Qi s σ H _ I h) fun v s1 ⟨x,H1,I1,r1,q1⟩=>⟨x,σ,H1,I1,r1,q1⟩)
def tRetN:TS:=fun D _ H=>D.rt .non H
def tIfS(c:TT)(t u:TS):TS:=fun D σ H=>c σ H fun b H1=>if b=true then t D σ H1 else u D σ H1
theorem aw{c:Expr}{a b:List Stmt}{tc:TT}(hc:PT X c tc)(ha:PSs X a t)(hb:PSs X b u):PS X (.If c a b pos) (tIfS tc t u):=by
 intro Qi s σ H D I h;refine wpAny_If (thn (hc Qi s σ H _ I h) fun d s1 ⟨H1,I1,q1⟩=>?_)
 cases d with
 | true=>exact ha Qi s1 σ H1 D I1 q1
 | false=>exact hb Qi s1 σ H1 D I1 q1
def cP:TS:=fun _ _ _=>False
theorem bW:PS X st cP:=fun _ _ _ _ _ _ h=>h.elim
end
abbrev TG:=V->St->Hp->(St->Hp->Prop)->Prop
abbrev TGs:=List V->St->Hp->(St->Hp->Prop)->Prop
def PG(X:Cx)(target:Expr)(t:TG):Prop:=
 ∀(Qi:List (Addr × Obj)) (s:Shared) (σ:St) (H:Hp) (v:V) (u:Value) (Q:St->Hp->Prop),Inv X Qi σ H s->RelV v u->t v σ H Q->
  wpAny (model X.prog X.w) X.A (assign target X.env u) (fun _ s'=>∃ σ' H',Inv X Qi σ' H' s'/\Q σ' H') X.xe s
def PGs(X:Cx)(ts:List Expr)(t:TGs):Prop:=
 ∀(Qi:List (Addr × Obj)) (s:Shared) (σ:St) (H:Hp) (vs:List V) (us:List Value) (Q:St->Hp->Prop),Inv X Qi σ H s->Vals vs us->t vs σ H Q->
  wpAny (model X.prog X.w) X.A (assignInOrder ((assignEach ts X.env).map (·.2)) us) (fun _ s'=>∃ σ' H',Inv X Qi σ' H' s'/\Q σ' H') X.xe s
abbrev TSet:=V->V->V->Hp->(Hp->Prop)->Prop
def PSet(X:Cx)(t:TSet):Prop:=
 ∀(Qi:List (Addr × Obj)) (s:Shared) (σ:St) (H:Hp) (o i v:V) (ov iv u:Value) (Q:Hp->Prop),Inv X Qi σ H s->RelV o ov->RelV i iv->RelV v u->t o i v H Q->
  wpAny (model X.prog X.w) X.A (setItem ov iv u) (fun _ s'=>∃ H',Inv X Qi σ H' s'/\Q H') X.xe s
section
variable{X:Cx}{pos:Pos}
def gName(i:Nat):TG:=fun v σ H Q=>Q (σ.set i (some v)) H
theorem av{i:Nat}{x:Str}(hN:X.N.Nodup)(hi:X.N[i]? =some x)(hx:Loc X.env.scope x)(hf:X.fn x=true\/X.env.scope.names.lookup x=some .local:=by first | exact .inl rfl | exact .inr rfl | assumption):PG X (.Name x pos) (gName i):=by
 intro Qi s σ H v u Q I r h;exact wpAny_assign_Name (wq I hN hi hx r (fun s' I'=>⟨_,H,I',h⟩) hf)
def gNil:TGs:=fun vs σ H Q=>vs=[]/\Q σ H
def gCons(t:TG)(u:TGs):TGs:=fun vs σ H Q=>∃ v r,vs=v::r/\t v σ H fun σ' H'=>u r σ' H' Q
theorem qx:PGs X [] gNil:=by
 intro Qi s σ H vs us Q I r h;obtain⟨e,h⟩:=h;subst e;cases r;exact assignInOrder_nil ⟨σ,H,I,h⟩
theorem gb {e:Expr} {es:List Expr} {t:TG} {u:TGs} (h1:PG X e t) (h2:PGs X es u)
  (hs:(assignEach (e::es) X.env).map (·.2)=assign e X.env::(assignEach es X.env).map (·.2):=by rfl):PGs X (e::es) (gCons t u):=by
 intro Qi s σ H vs us Q I r h;obtain⟨v,vr,e1,h⟩:=h;subst e1
 cases r with
 | cons r rr=>
  rw[hs];refine assignInOrder_cons (thn (h1 Qi s σ H _ _ _ I r h) fun _ s1 ⟨σ1,H1,I1,q1⟩=>?_);exact h2 Qi s1 σ1 H1 _ _ Q I1 rr q1
def gTup(K:Frag)(n:Nat)(t:TGs):TG:=fun v σ H Q=>∃ a xs,v=.ref a/\SqT K H a xs/\xs.length=n/\t xs σ H Q
theorem sE {es:List Expr} {k:Nat} {t:TGs} {n:Nat} (hc:X.calm=true) (h:PGs X es t)
  (hn:(assignEach es X.env).length=n:=by rfl) (hst:(assignEach es X.env).findIdx? (·.1)=none:=by rfl):PG X (.Tuple es k pos) (gTup X.K n t):=by
 intro Qi s σ H v u Q I r hw;obtain⟨a,xs,e1,hq,hl,hw⟩:=hw;subst e1;cases r;obtain⟨Qm,rv,ht,hz⟩:=I.tuple hq;refine assign_Tuple_tuple (I.ok.hd hc) ht (by simp[hn,← hl,rv.length]) hst fun h' hx=>?_;have I1:Inv X Qi σ H {s with heap:=h'}:=I.kept (t':=s.toks) fun b o e=>hx b o (Rt (QY e)) e;exact h Qi _ σ H xs _ Q I1 (by simpa using rv) hw
def gSub(to ti:TE)(t:TSet):TG:=fun v σ H Q=>to σ H fun o H1=>ti σ H1 fun i H2=>t o i v H2 fun H3=>Q σ H3
theorem Ad {o i:Expr} {to ti:TE} {t:TSet} (ho:PE X o to) (hi:PE X i ti) (hs:PSet X t)
  (ha:∀ v,assign (.Subscript o i pos) X.env v=(do
   let ov ← holding [v] (eval o X.env);let iv ← holding [v,ov] (eval i X.env)
   standAt pos
   holding [v,ov,iv] (setItem ov iv v)
   release [v,ov,iv] []):=by intro _;rfl):PG X (.Subscript o i pos) (gSub to ti t):=by
 intro Qi s σ H v u Q I r h;rw[ha];refine Rg (Tm (thn (ho Qi s σ H _ I h) fun ov s1 ⟨x,H1,I1,r1,q1⟩=>?_));refine Rg (Tm (thn (hi Qi s1 σ H1 _ I1 q1) fun iv s2 ⟨y,H2,I2,r2,q2⟩=>?_));refine Rg (TY (Rg (Tm (thn (hs Qi s2 σ H2 x y v ov iv u _ I2 r1 r2 r q2) fun _ s3 ⟨H3,I3,q3⟩=>?_))));exact wpAny_release ⟨σ,H3,I3,q3⟩
def tAsg(te:TE)(g:TG):TS:=fun D σ H=>te σ H fun x H1=>g x σ H1 D.nx
theorem wr {tg e:Expr} {te:TE} {g:TG} (he:PE X e te) (hg:PG X tg g) (hs:swapsWithSole [tg] e pos.line X.env=pure false:=by rfl) (hw:swappedStores [tg] e X.env=pure none:=by rfl)
  (h1:(assignEach [tg] X.env).map (·.2)=[assign tg X.env]:=by rfl):PS X (.Assign [tg] e pos) (tAsg te g):=by
 intro Qi s σ H D I h;refine wpAny_Assign_stores (thn (he Qi s σ H _ I h) fun v s1 ⟨x,H1,I1,r1,q1⟩=>?_) hs hw;rw[h1];exact thn (hg Qi s1 σ H1 x v _ I1 r1 q1) fun _ s2 q=>q
theorem gc{i:Nat}{x:Str}{e:Expr}{te:TE}{pos':Pos}(hN:X.N.Nodup)(hi:X.N[i]? =some x)(hx:Loc X.env.scope x)(he:PE X e te)(hs:swapsWith e (some (.Name x pos')) pos.line X.env=pure false:=by rfl)(hf:X.fn x=true\/X.env.scope.names.lookup x=some .local:=by first | exact .inl rfl | exact .inr rfl | assumption):
  PS X (.Assign [.Name x pos'] e pos) (tAsg te (gName i)):=by
 intro Qi s σ H D I h;refine wpAny_Assign_Name (thn (he Qi s σ H _ I h) fun v s1 ⟨y,H1,I1,r1,q1⟩=>?_) hs;exact wq I1 hN hi hx r1 (fun s2 I2=>⟨_,H1,I2,q1⟩) hf
end
section
variable{X:Cx}{pos:Pos}
def wt(c:TT)(tb:TS):TS:=fun D σ H=>∃ W:Nat->St->Hp->Prop,(∃ m,W m σ H)/\∀ m σ H,W m σ H->
 c σ H fun b H1=>if b=true then ∃ N:St->Hp->Prop,(∀ σ' H',N σ' H'->∃ m',m'<m/\W m' σ' H')/\tb {D with nx:=N,ct:=N,bk:=D.nx} σ H1 else D.nx σ H1
theorem wu{c:Expr}{body:List Stmt}{tc:TT}{tb:TS}(hp:PassesOwn (model X.prog X.w) X.A X.env X.xe)(hc:PT X c tc)(hb:PSs X body tb):PS X (.While c body [] pos) (wt tc tb):=by
 intro Qi s σ H D I h;obtain⟨W,⟨m0,w0⟩,turn⟩:=h;refine wpAny_While (codeAny_whileLoop (fun n s'=>∃ σ' H',Inv X Qi σ' H' s'/\W n σ' H') ?_ m0 ⟨σ,H,I,w0⟩);rintro n s1 ⟨σ1,H1,I1,w1⟩;refine R7 hp (thn (hc Qi s1 σ1 H1 _ I1 (turn n σ1 H1 w1)) fun b s2 ⟨H2,I2,q2⟩=>?_)
 cases b with
 | true=>
  obtain⟨N,hN,q2⟩:=q2;rw[Q6 rfl];refine R7 hp (thn (hb Qi s2 σ1 H2 _ I2 q2) fun f s3 q3=>?_)
  cases f with
  | next=>
   obtain⟨σ3,H3,I3,n3⟩:=q3;obtain⟨m',hm,w3⟩:=hN σ3 H3 n3;exact⟨m',hm,σ3,H3,I3,w3⟩
  | cont=>
   obtain⟨σ3,H3,I3,n3⟩:=q3;obtain⟨m',hm,w3⟩:=hN σ3 H3 n3;exact⟨m',hm,σ3,H3,I3,w3⟩
  | brk=>exact q3
  | ret v=>exact q3
 | false=>
  rw[QT Qt];exact SU ⟨σ1,H2,I2,q2⟩
end
structure It where
 go:Nat->Hp->Prop
 yld:Nat->Hp->V->Hp->Prop
 stop:Nat->Hp->Prop
def FpOk(X:Cx)(Qi:List (Addr × Obj))(H:Hp)(b:Addr):Prop:=
 H b=none/\b≠X.env.locals/\b∉X.fs/\(b∈X.ex\/X.s₀.heap.objs.size<=b)/\(∀ x c,X.env.cells.lookup x=some c->c≠b)/\∀ p∈X.pn++Qi,p.1≠b
variable{s:Shared}
theorem Inv.fpOk{Qi:List (Addr × Obj)}{σ:St}{H H':Hp}{b:Addr}(I:Inv X Qi σ H s)(hb:s.heap.objs.size<=b)(hn:H' b=none):FpOk X Qi H' b:=by
 refine⟨hn,S5 (Q9 I.lt hb),I.nofs hb,.inr (QG I.sz hb),fun x c e z=>?_,fun p hp z=>?_⟩
 . obtain⟨v,q⟩:=I.cell x c e;exact absurd (Q9 q.lt (by rw[z];exact hb)) (R4 _)
 . exact absurd (Q9 (QY (I.pin p hp).1) (by rw[z];exact hb)) (R4 _)
structure Turn(P:Program)(w:World)(K:Frag)(tg:Expr)(J:It)(fp:List Addr)(it:Addr)(tn:Nat->Heap->Prop):Prop where
 mem:it∈fp
 obj:∀ i h,tn i h->∀ b∈fp,∃ o,h.get? b=some o/\∀ v,o.data≠.cell v
 keep:∀ i h h',tn i h->(∀ b∈fp,∀ o,h.get? b=some o->h'.get? b=some o)->tn i h'
 item:∀(X:Cx),X.prog=P->X.w=w->X.K=K->X.calm=true->∀(i:Nat) (Qi:List (Addr × Obj)) (s:Shared) (σ:St) (H:Hp) (E:Value->Shared->Prop),Inv X Qi σ H s->(∀ b∈fp,FpOk X Qi H b)->tn i s.heap->J.go i H->
  wpAny (model P w) X.A (pyNext (.ref it)) (fun r s1=>∃ u,r=some u/\
   wpAny (model P w) X.A (letOwnedTupleGo tg (.ref it) u) (fun _ s2=>∃ x H',Inv X Qi σ H' s2/\RelV x u/\J.yld i H x H'/\tn (i+1) s2.heap/\∀ b∈fp,H' b=none) E s1) E s
 done:∀(X:Cx),X.prog=P->X.w=w->X.K=K->X.calm=true->∀(i:Nat) (Qi:List (Addr × Obj)) (s:Shared) (σ:St) (H:Hp) (E:Value->Shared->Prop),Inv X Qi σ H s->(∀ b∈fp,FpOk X Qi H b)->tn i s.heap->J.stop i H->
  wpAny (model P w) X.A (pyNext (.ref it)) (fun r s1=>r=none/\Inv X Qi σ H s1) E s
 self:∀(A:Around) (i:Nat) (s:Shared) (Q:Value->Shared->Prop) (E:Value->Shared->Prop),tn i s.heap->Q (.ref it) s->wpAny (model P w) A (pyIter (.ref it)) Q E s
abbrev TI:=St->Hp->(It->Hp->Prop)->Prop
def PIE(X:Cx)(Qi:List (Addr × Obj))(σ:St)(tg:Expr)(R:It->Hp->Prop)(itv:Value)(s2:Shared):Prop:=
 ∃(it:Addr) (fp:List Addr) (tn:Nat->Heap->Prop) (J:It) (H':Hp),itv=.ref it/\Inv X Qi σ H' s2/\Turn X.prog X.w X.K tg J fp it tn/\tn 0 s2.heap/\(∀ b∈fp,FpOk X Qi H' b)/\R J H'
def PI(X:Cx)(tg iter:Expr)(wi:TI):Prop:=
 ∀(Qi:List (Addr × Obj)) (s:Shared) (σ:St) (H:Hp) (R:It->Hp->Prop),Inv X Qi σ H s->wi σ H R->
  wpAny (model X.prog X.w) X.A (eval iter X.env) (fun v s1=>wpAny (model X.prog X.w) X.A (pyIter v) (PIE X Qi σ tg R) X.xe s1) X.xe s
variable{tg:Expr}
theorem wm {M:Model} {A:Around} {it:Addr} {o:Obj} {n:String} {vs:Array Value} {Q:Unit->Shared->Prop} (ho:s.heap.get? it=some o) (hc:o.cls=.type n) (hd:o.data=.fields vs)
  (hn:["enumerate","zip","dict_itemiterator","dict_reverseitemiterator","odict_iterator","itertools.zip_longest","itertools.pairwise"].contains n=false) (hQ:Q () s):wpAny M A (letOwnedTupleGo tg (.ref it) u) Q E s:=by
 unfold letOwnedTupleGo
 cases tg <;> first
  | exact Ru hQ
  | (cases u <;> first
    | exact Ru hQ
    | (refine Rg (wpAny_load ho ?_)
       rw[hc,hd];show wpAny M A (if (["enumerate","zip","dict_itemiterator","dict_reverseitemiterator","odict_iterator","itertools.zip_longest","itertools.pairwise"].contains n&&vs[0]? ==some (rawInt _))=true then _ else _) Q E s;rw[QT (by intro h;rw[hn,QJ] at h;cases h)];exact Ru hQ))
def Itl(K:Frag)(a:Addr):It:=
 ⟨fun i H=>∃ xs x,SqL K H a xs/\xs[i]? =some x,fun i H x H'=>H'=H/\∀ xs,SqL K H a xs->xs[i]? =some x,fun i H=>∃ xs,SqL K H a xs/\xs.length<=i⟩
def Itt(K:Frag)(a:Addr):It:=
 ⟨fun i H=>∃ xs x,SqT K H a xs/\xs[i]? =some x,fun i H x H'=>H'=H/\∀ xs,SqT K H a xs->xs[i]? =some x,fun i H=>∃ xs,SqT K H a xs/\xs.length<=i⟩
def Itr(lo:Int)(n:Nat):It:=⟨fun i _=>i<n,fun i H x H'=>H'=H/\x=.int (lo+i),fun i _=>n<=i⟩
variable{P:Program}{w:World}{K:Frag}
theorem Ae(a it:Addr):Turn P w K tg (Itl K a) [it] it (fun i h=>h.IsListIter it a i) where
 mem:=by simp
 obj:=fun i h st b hb=>by
  have e:b=it:=by simpa using hb
  subst e;obtain⟨o,e,c,d⟩:=st;exact⟨o,e,fun v z=>by rw[d] at z;cases z⟩
 keep:=fun i h h' st k=>st.at fun o e=>k it (by simp) o e
 item:=by
  intro X hP hw hK hc i Qi s σ H E I hf st hg;subst hP hw hK;obtain⟨xs,x,hq,hx⟩:=hg;obtain⟨Qm,rv,p,hz⟩:=I.list hq;obtain⟨u,hu,ru⟩:=rv.get hx;obtain⟨f0,f1,f2,f3,f4,f5⟩:=hf it (by simp);refine wpAny_pyNext_list_item st p.isList (x:=u) (by simpa using hu) fun h' st' sb=>?_;have I1:Inv X Qi σ H {s with heap:=h'}:=I.turned (t':=s.toks) (fun b o hb e=>(sb.2 b hb).trans e) f0 f1 f3 f4 f5;obtain⟨o,e,c,d⟩:=id st';exact⟨u,rfl,wm (s:={s with heap:=h'}) e c d (by decide) ⟨x,H,I1,ru,⟨rfl,fun ys hy=>by rw[I.list_inj hy hq];exact hx⟩,st',fun b hb=>(hf b hb).1⟩⟩
 done:=by
  intro X hP hw hK hc i Qi s σ H E I hf st hg;subst hP hw hK;obtain⟨xs,hq,hx⟩:=hg;obtain⟨Qm,rv,p,hz⟩:=I.list hq;obtain⟨f0,f1,f2,f3,f4,f5⟩:=hf it (by simp);have hl:=rv.length;exact wpAny_pyNext_list_end (I.ok.hd hc) st p.isList (by simp;omega) fun h' eb=>⟨rfl,I.turned (t':=s.toks) (fun b o hb e=>eb b o hb e) f0 f1 f3 f4 f5⟩
 self:=fun _ _ _ _ _ st h=>wpAny_pyIter_listiter st h
theorem zd(a it:Addr):Turn P w K tg (Itt K a) [it] it (fun i h=>h.IsTupleIter it a i) where
 mem:=by simp
 obj:=fun i h st b hb=>by
  have e:b=it:=by simpa using hb
  subst e;obtain⟨o,e,c,d⟩:=st;exact⟨o,e,fun v z=>by rw[d] at z;cases z⟩
 keep:=fun i h h' st k=>st.at fun o e=>k it (by simp) o e
 item:=by
  intro X hP hw hK hc i Qi s σ H E I hf st hg;subst hP hw hK;obtain⟨xs,x,hq,hx⟩:=hg;obtain⟨Qm,rv,p,hz⟩:=I.tuple hq;obtain⟨u,hu,ru⟩:=rv.get hx;obtain⟨f0,f1,f2,f3,f4,f5⟩:=hf it (by simp);refine wpAny_pyNext_tuple_item st (show s.heap.IsTuple a Qm.toArray from p) (x:=u) (by simpa using hu) fun h' st' sb=>?_;have I1:Inv X Qi σ H {s with heap:=h'}:=I.turned (t':=s.toks) (fun b o hb e=>(sb.2 b hb).trans e) f0 f1 f3 f4 f5;obtain⟨o,e,c,d⟩:=id st';exact⟨u,rfl,wm (s:={s with heap:=h'}) e c d (by decide) ⟨x,H,I1,ru,⟨rfl,fun ys hy=>by rw[I.tuple_inj hy hq];exact hx⟩,st',fun b hb=>(hf b hb).1⟩⟩
 done:=by
  intro X hP hw hK hc i Qi s σ H E I hf st hg;subst hP hw hK;obtain⟨xs,hq,hx⟩:=hg;obtain⟨Qm,rv,p,hz⟩:=I.tuple hq;obtain⟨f0,f1,f2,f3,f4,f5⟩:=hf it (by simp);have hl:=rv.length;exact wpAny_pyNext_tuple_end (I.ok.hd hc) st (show s.heap.IsTuple a Qm.toArray from p) (by simp;omega) fun h' eb=>⟨rfl,I.turned (t':=s.toks) (fun b o hb e=>eb b o hb e) f0 f1 f3 f4 f5⟩
 self:=fun _ _ _ _ _ st h=>wpAny_pyIter_tupleiter st h
theorem ze(it:Addr)(lo:Int)(n:Nat):Turn P w K tg (Itr lo n) [it] it (fun i h=>IsRangeIter h it (lo+(i:Nat)*1) ((n:Int) - (i:Nat)) 1) where
 mem:=by simp
 obj:=fun i h st b hb=>by
  have e:b=it:=by simpa using hb
  subst e
  exact⟨_,st,fun v z=>by
   have z':Data.fields _=Data.cell v:=z;cases z'⟩
 keep:=fun i h h' st k=>k it (by simp) _ st
 item:=by
  intro X hP hw hK hc i Qi s σ H E I hf st hg;subst hP hw hK;obtain⟨f0,f1,f2,f3,f4,f5⟩:=hf it (by simp);have W:=Walks.range (prog:=X.prog) (w:=X.w) (I.ok.hd hc) it lo 1 n;refine W.item i s _ _ hg st fun v h' tk hv st' kk=>?_;obtain⟨t,rfl⟩:=hv;have I1:Inv X Qi σ H {s with heap:=h',toks:=tk}:=I.turned (fun b o hb e=>kk b o (by simpa using hb) e) f0 f1 f3 f4 f5;refine⟨_,rfl,wm (s:={s with heap:=h',toks:=tk}) (n:="range_iterator") st' rfl rfl (by decide) ⟨.int (lo+i),H,I1,⟨t,?_⟩,⟨rfl,rfl⟩,st',fun b hb=>(hf b hb).1⟩⟩;rw[Int.mul_one]
 done:=by
  intro X hP hw hK hc i Qi s σ H E I hf st hg;subst hP hw hK;obtain⟨f0,f1,f2,f3,f4,f5⟩:=hf it (by simp);exact wpAny_pyNext_range_end (I.ok.hd hc) st (by have:n<=i:=hg;omega) fun h' eb=>⟨rfl,I.turned (t':=s.toks) (fun b o hb e=>eb b o hb e) f0 f1 f3 f4 f5⟩
 self:=fun _ _ _ _ _ st h=>wpAny_pyIter_rangeiter st h
section
variable{X:Cx}{tg:Expr}
def iList(K:Frag)(tl:TE):TI:=fun σ H R=>tl σ H fun x H1=>∃ a,x=.ref a/\(∃ xs,SqL K H1 a xs)/\R (Itl K a) H1
def iTup(K:Frag)(tl:TE):TI:=fun σ H R=>tl σ H fun x H1=>∃ a,x=.ref a/\(∃ xs,SqT K H1 a xs)/\R (Itt K a) H1
theorem aB{l:Expr}{tl:TE}(hl:PE X l tl):PI X tg l (iList X.K tl):=by
 intro Qi s σ H R I h;refine thn (hl Qi s σ H _ I h) fun v s1 ⟨x,H1,I1,r1,q1⟩=>?_;obtain⟨a,e,⟨xs,hq⟩,q⟩:=q1;subst e;cases r1;obtain⟨Qm,rv,p,hz⟩:=I1.list hq;refine Sv p.isList ?_;refine⟨s1.heap.objs.size,[s1.heap.objs.size],_,_,H1,rfl,I1.kept (t':=s1.toks) fun b o e=>QP _ e,Ae a _,⟨_,Rm _ rfl,rfl,rfl⟩,fun b hb=>?_,q⟩;have e:b=s1.heap.objs.size:=by simpa using hb
 subst e;exact I1.fpOk (QR _) (I1.hok.fresh (QR _))
theorem wv{l:Expr}{tl:TE}(hl:PE X l tl):PI X tg l (iTup X.K tl):=by
 intro Qi s σ H R I h;refine thn (hl Qi s σ H _ I h) fun v s1 ⟨x,H1,I1,r1,q1⟩=>?_;obtain⟨a,e,⟨xs,hq⟩,q⟩:=q1;subst e;cases r1;obtain⟨Qm,rv,p,hz⟩:=I1.tuple hq;refine wpAny_pyIter_tuple (show s1.heap.IsTuple a Qm.toArray from p) ?_;refine⟨s1.heap.objs.size,[s1.heap.objs.size],_,_,H1,rfl,I1.kept (t':=s1.toks) fun b o e=>QP _ e,zd a _,⟨_,Rm _ rfl,rfl,rfl⟩,fun b hb=>?_,q⟩;have e:b=s1.heap.objs.size:=by simpa using hb
 subst e;exact I1.fpOk (QR _) (I1.hok.fresh (QR _))
theorem ww {Qi:List (Addr × Obj)} {σ:St} {H:Hp} {s:Shared} {R:It->Hp->Prop} {E:Value->Shared->Prop} {lo hi:Int} {t u v:Tok} {tk:Nat} (I:Inv X Qi σ H s) (h1: -(2^62)<=lo) (h2:lo<2^62) (h3: -(2^62)<=hi) (h4:hi<2^62)
  (q:R (Itr lo (hi-lo).toNat) H):wpAny (model X.prog X.w) X.A (pyIter (.ref s.heap.objs.size)) (PIE X Qi σ tg R) E {s with heap:=s.heap.push {cls:=.type "range",data:=.fields #[.int lo t,.int hi u,.int 1 v]},toks:=tk}:=by
 refine wpAny_pyIter_range (IsRange.new ..) (small_one h1 h2 h3 h4) ?_;have I1:Inv X Qi σ H {s with heap:=s.heap.push {cls:=.type "range",data:=.fields #[.int lo t,.int hi u,.int 1 v]},toks:=tk}:=I.kept fun b o e=>QP _ e
 refine⟨(s.heap.push {cls:=.type "range",data:=.fields #[.int lo t,.int hi u,.int 1 v]}).objs.size,[(s.heap.push {cls:=.type "range",data:=.fields #[.int lo t,.int hi u,.int 1 v]}).objs.size],_,_,H,rfl,
  I1.kept (t':=tk) fun b o e=>QP _ e,ze _ lo (hi-lo).toNat,?_,fun b hb=>?_,q⟩
 . have e1:lo+((0:Nat):Int)*1=lo:=by simp
   have e2:(((hi-lo).toNat:Nat):Int) - ((0:Nat):Int)=Builtin.Range.rangeSize lo hi 1:=by rw[rangeSize_one];split <;> omega
   show IsRangeIter _ _ (lo+((0:Nat):Int)*1) ((((hi-lo).toNat:Nat):Int) - ((0:Nat):Int)) 1;rw[e1,e2];exact Rm _ rfl
 . have e:b=(s.heap.push {cls:=.type "range",data:=.fields #[.int lo t,.int hi u,.int 1 v]}).objs.size:=by simpa using hb
   subst e;exact I1.fpOk (QR _) (I1.hok.fresh (QR _))
def jj(ta:TA):TI:=fun σ H R=>ta σ H fun vs H1=>∃ j:Int,vs=[.int j]/\ -(2^62)<=j/\j<2^62/\R (Itr 0 j.toNat) H1
def qy(ta:TA):TI:=fun σ H R=>ta σ H fun vs H1=>∃ i j:Int,vs=[.int i,.int j]/\(-(2^62)<=i/\i<2^62/\ -(2^62)<=j/\j<2^62)/\R (Itr i (j-i).toNat) H1
theorem gd{a:Expr}{ta:TA}{p pos:Pos}(hg:Gl X "range")(hm:X.mg "range"=none)(ha:PA X [a] ta)(hs:starEach [a] X.env=[(false,eval a X.env)]:=by rfl):PI X tg (.Call (.Name "range" p) [a] [] pos) (jj ta):=by
 intro Qi s σ H R I h;refine Call_ (hX I hg hm boot_range (Rz (thn (ha pos Qi s σ H _ I h) fun us s1 ⟨vs,H1,I1,r1,q1⟩=>?_) hs rfl));obtain⟨j,e,q1,q2,q⟩:=q1;subst e
 cases r1 with
 | cons r rr=>
  cases rr;obtain⟨t,rfl⟩:=r;exact call_range_1 (ww I1 (by omega) (by omega) q1 q2 (by simpa using q))
theorem vh{a b:Expr}{ta:TA}{p pos:Pos}(hg:Gl X "range")(hm:X.mg "range"=none)(ha:PA X [a,b] ta)(hs:starEach [a,b] X.env=[(false,eval a X.env),(false,eval b X.env)]:=by rfl)(hs2:starEach [b] X.env=[(false,eval b X.env)]:=by rfl):
  PI X tg (.Call (.Name "range" p) [a,b] [] pos) (qy ta):=by
 intro Qi s σ H R I h;refine Call_ (hX I hg hm boot_range (Rz (thn (ha pos Qi s σ H _ I h) fun us s1 ⟨vs,H1,I1,r1,q1⟩=>?_) (by rw[hs,hs2]) (by rw[hs2];rfl)));obtain⟨i,j,e,⟨q1,q2,q3,q4⟩,q⟩:=q1;subst e
 cases r1 with
 | cons r rr=>
  cases rr with
  | cons r' rr=>
   cases rr;obtain⟨t,rfl⟩:=r;obtain⟨t',rfl⟩:=r';exact call_range_2 (ww I1 q1 q2 q3 q4 q)
def tFor(wi:TI)(g:TG)(tb:TS):TS:=fun D σ H=>wi σ H fun J H1=>∃ W:Nat->Nat->St->Hp->Prop,(∃ m,W 0 m σ H1)/\∀ i m σ H,W i m σ H->
 (J.stop i H/\D.nx σ H)\/(J.go i H/\∃ N:St->Hp->Prop,(∀ σ' H',N σ' H'->∃ m',m'<m/\W (i+1) m' σ' H')/\∀ x H',J.yld i H x H'->g x σ H' fun σ2 H2=>tb {D with nx:=N,ct:=N,bk:=D.nx} σ2 H2)
def pA(fp:List Addr)(h:Heap):List (Addr × Obj):=fp.filterMap fun b=>(h.get? b).map fun o=>(b,o)
theorem lT{fp:List Addr}{h:Heap}{b:Addr}{o:Obj}(hb:b∈fp)(e:h.get? b=some o):(b,o)∈pA fp h:=List.mem_filterMap.mpr ⟨b,hb,by rw[e];rfl⟩
theorem Af{fp:List Addr}{h:Heap}{p:Addr × Obj}(hp:p∈pA fp h):p.1∈fp/\h.get? p.1=some p.2:=by
 obtain⟨b,hb,e⟩:=List.mem_filterMap.mp hp
 cases q:h.get? b with
 | none=>rw[q] at e;cases e
 | some o=>
  rw[q] at e;have e':(b,o)=p:=RU e;subst e';exact⟨hb,q⟩
theorem Inv.pinned{Qi:List (Addr × Obj)}{σ:St}{H:Hp}{s:Shared}{fp:List Addr}(I:Inv X Qi σ H s)(hf:∀ b∈fp,FpOk X Qi H b)(ho:∀ b∈fp,∃ o,s.heap.get? b=some o/\∀ v,o.data≠.cell v):Inv X (Qi++pA fp s.heap) σ H s:=
 I.pins_of fun p hp=>(QZ.mp hp).elim (fun z=>I.pin p (Rv _ z)) fun z=>by
  obtain⟨hb,e⟩:=Af z;obtain⟨f0,f1,f2,_⟩:=hf p.1 hb;obtain⟨o,e',d⟩:=ho p.1 hb;rw[e] at e';cases e';exact⟨e,f0,f1,f2,d⟩
theorem Inv.unpinned{Qi pl:List (Addr × Obj)}{σ:St}{H:Hp}{s:Shared}(I:Inv X (Qi++pl) σ H s):Inv X Qi σ H s:=I.pins_of fun p hp=>I.pin p (Rv _ (SR _ hp))
theorem bK {iter:Expr} {body:List Stmt} {wi:TI} {g:TG} {tb:TS} {pos:Pos} (hp:PassesOwn (model X.prog X.w) X.A X.env X.xe) (hc:X.calm=true) (hi:PI X tg iter wi) (hg:PG X tg g) (hb:PSs X body tb)
  (hs:∀ x,foldedSetIterable iter X.env x=pure x:=by intro _;rfl):PS X (.For tg iter body [] pos) (tFor wi g tb):=by
 intro Qi s σ H D I h;refine wpAny_For (thn (hi Qi s σ H _ I h) fun v s1 h1=>thn h1 fun itv s2 h2=>?_) hs;obtain⟨it,fp,tn,J,H2,e,I2,T,st2,f2,W,⟨m0,w0⟩,turn⟩:=h2;subst e;have stat:∀{H':Hp},(∀ b∈fp,H' b=none)->∀ b∈fp,FpOk X Qi H' b:=fun hn b hb=>⟨hn b hb,(f2 b hb).2⟩;refine codeAny_forLoop_any (fun n s'=>∃ i σ' H',Inv X Qi σ' H' s'/\tn i s'.heap/\(∀ b∈fp,H' b=none)/\W i n σ' H') ?_ m0 ⟨0,σ,H2,I2,st2,fun b hb=>(f2 b hb).1,w0⟩;rintro n s3 ⟨i,σ3,H3,I3,st3,fr3,w3⟩;rcases turn i n σ3 H3 w3 with ⟨stop,qn⟩ | ⟨go,N,hN,step⟩
 . refine R7 hp (thn (T.done X rfl rfl rfl hc i Qi s3 σ3 H3 X.xe I3 (stat fr3) st3 stop) fun r s4 ⟨hr,I4⟩=>?_);subst hr;exact SU ⟨σ3,H3,I4,qn⟩
 . refine R7 hp (thn (T.item X rfl rfl rfl hc i Qi s3 σ3 H3 X.xe I3 (stat fr3) st3 go) fun r s4 ⟨u,hr,h4⟩=>?_);subst hr;refine R7 hp (thn h4 fun _ s5 ⟨x,H5,I5,r5,y5,st5,fr5⟩=>?_);have I5':=I5.pinned (stat fr5) (T.obj _ _ st5);refine R7 hp (thn (hg _ s5 σ3 H5 x u _ I5' r5 (step x H5 y5)) fun _ s6 ⟨σ6,H6,I6,q6⟩=>?_);refine R7 hp (thn (hb _ s6 σ6 H6 _ I6 q6) fun f s7 q7=>?_)
   have again:∀{σ7:St} {H7:Hp},Inv X (Qi++pA fp s5.heap) σ7 H7 s7->N σ7 H7->∃ m,m<n/\∃ i σ' H',Inv X Qi σ' H' s7/\tn i s7.heap/\(∀ b∈fp,H' b=none)/\W i m σ' H':=fun{σ7 H7} I7 n7=>by
    obtain⟨m',hm,w7⟩:=hN σ7 H7 n7;refine⟨m',hm,i+1,σ7,H7,I7.unpinned,T.keep _ _ _ st5 fun b hb o e=>(I7.pin (b,o) (Rv _ (Rv _ (lT hb e)))).1,fun b hb=>?_,w7⟩;obtain⟨o,e,d⟩:=T.obj _ _ st5 b hb;exact(I7.pin (b,o) (Rv _ (Rv _ (lT hb e)))).2.1
   cases f with
   | next=>obtain⟨σ7,H7,I7,n7⟩:=q7;exact again I7 n7
   | cont=>obtain⟨σ7,H7,I7,n7⟩:=q7;exact again I7 n7
   | brk=>obtain⟨σ7,H7,I7,q7⟩:=q7;exact⟨σ7,H7,I7.unpinned,q7⟩
   | ret v=>obtain⟨x7,σ7,H7,I7,r7,q7⟩:=q7;exact⟨x7,σ7,H7,I7.unpinned,r7,q7⟩
end
theorem bx {K:Frag} {a:Addr} {xs:List V} {g:TG} {tb:TS} {D:Ends} {σ:St} {H:Hp} (Pv:Nat->St->Hp->Prop) (h0:Pv 0 σ H) (hl:∀ i σ H,i<=xs.length->Pv i σ H->SqL K H a xs)
  (hs:∀ i x σ H,xs[i]? =some x->Pv i σ H->g x σ H fun σ2 H2=>tb {D with nx:=Pv (i+1),ct:=Pv (i+1),bk:=D.nx} σ2 H2) (hd:∀ σ H,Pv xs.length σ H->D.nx σ H):
  ∃ W:Nat->Nat->St->Hp->Prop,(∃ m,W 0 m σ H)/\∀ i m σ H,W i m σ H->
   ((Itl K a).stop i H/\D.nx σ H)\/((Itl K a).go i H/\∃ N:St->Hp->Prop,(∀ σ' H',N σ' H'->∃ m',m'<m/\W (i+1) m' σ' H')/\∀ x H',(Itl K a).yld i H x H'->g x σ H' fun σ2 H2=>tb {D with nx:=N,ct:=N,bk:=D.nx} σ2 H2):=by
 refine⟨fun i m σ H=>m=xs.length-i/\i<=xs.length/\Pv i σ H,⟨xs.length,by simp,Rx _,h0⟩,?_⟩;rintro i m σ H ⟨rfl,hi,p⟩;have q:=hl i σ H hi p;by_cases hlt:i<xs.length
 . refine .inr ⟨⟨xs,xs[i],q,by simp[hlt]⟩,Pv (i+1),fun σ' H' p'=>⟨xs.length - (i+1),by omega,rfl,hlt,p'⟩,fun x H' y=>?_⟩;obtain⟨e,y⟩:=y;subst e;exact hs i x σ _ (y xs q) p
 . have e:i=xs.length:=by omega
   subst e;exact .inl ⟨⟨xs,q,QR _⟩,hd σ H p⟩
theorem m4 {lo:Int} {n:Nat} {g:TG} {tb:TS} {D:Ends} {σ:St} {H:Hp} (Pv:Nat->St->Hp->Prop) (h0:Pv 0 σ H)
  (hs:∀ i σ H,i<n->Pv i σ H->g (.int (lo+i)) σ H fun σ2 H2=>tb {D with nx:=Pv (i+1),ct:=Pv (i+1),bk:=D.nx} σ2 H2) (hd:∀ σ H,Pv n σ H->D.nx σ H):
  ∃ W:Nat->Nat->St->Hp->Prop,(∃ m,W 0 m σ H)/\∀ i m σ H,W i m σ H->
   ((Itr lo n).stop i H/\D.nx σ H)\/((Itr lo n).go i H/\∃ N:St->Hp->Prop,(∀ σ' H',N σ' H'->∃ m',m'<m/\W (i+1) m' σ' H')/\∀ x H',(Itr lo n).yld i H x H'->g x σ H' fun σ2 H2=>tb {D with nx:=N,ct:=N,bk:=D.nx} σ2 H2):=by
 refine⟨fun i m σ H=>m=n-i/\i<=n/\Pv i σ H,⟨n,by simp,Rx _,h0⟩,?_⟩;rintro i m σ H ⟨rfl,hi,p⟩;by_cases hlt:i<n
 . refine .inr ⟨hlt,Pv (i+1),fun σ' H' p'=>⟨n - (i+1),by omega,rfl,hlt,p'⟩,fun x H' y=>?_⟩;obtain⟨e,y⟩:=y;subst e y;exact hs i σ _ hlt p
 . have e:i=n:=by omega
   subst e;exact .inl ⟨QR _,hd σ H p⟩
abbrev R2:=V->V->Hp->VK->Prop
def OpR(X:Cx)(f:Value->Value->Sem Value)(r:R2):Prop:=
 ∀(Qi:List (Addr × Obj)) (s:Shared) (σ:St) (H:Hp) (x y:V) (v u:Value) (Q:VK),Inv X Qi σ H s->RelV x v->RelV y u->r x y H Q->
  wpAny (model X.prog X.w) X.A (f v u) (EP X Qi σ Q) X.xe s
def UnR(X:Cx)(f:Value->Sem Value)(r:V->Hp->VK->Prop):Prop:=
 ∀(Qi:List (Addr × Obj)) (s:Shared) (σ:St) (H:Hp) (x:V) (v:Value) (Q:VK),Inv X Qi σ H s->RelV x v->r x H Q->
  wpAny (model X.prog X.w) X.A (f v) (EP X Qi σ Q) X.xe s
def CallR(X:Cx)(f:Value)(r:List V->Hp->VK->Prop):Prop:=
 ∀(Qi:List (Addr × Obj)) (s:Shared) (σ:St) (H:Hp) (xs:List V) (us:List Value) (Q:VK),Inv X Qi σ H s->Vals xs us->r xs H Q->
  wpAny (model X.prog X.w) X.A (call f us) (EP X Qi σ Q) X.xe s
def tOp(r:R2)(ta tb:TE):TE:=fun σ H Q=>ta σ H fun x H1=>tb σ H1 fun y H2=>r x y H2 Q
def tUn(r:V->Hp->VK->Prop)(ta:TE):TE:=fun σ H Q=>ta σ H fun x H1=>r x H1 Q
def rI(C:Int->Int->Prop)(g:Int->Int->V):R2:=fun x y H Q=>∃ i j,x=.int i/\y=.int j/\C i j/\Q (g i j) H
def rI0(g:Int->Int->V):R2:=fun x y H Q=>∃ i j,x=.int i/\y=.int j/\Q (g i j) H
def rU(g:Int->V):V->Hp->VK->Prop:=fun x H Q=>∃ i,x=.int i/\Q (g i) H
section
variable{X:Cx}{a b c:Expr}{ta tb tc:TE}{pos:Pos}
theorem binT (ha:PE X a ta) (hb:PE X b tb) {Qi:List (Addr × Obj)} {s:Shared} {σ:St} {H:Hp} {R:V->V->Hp->Prop} (I:Inv X Qi σ H s)
  (h:ta σ H fun x H1=>tb σ H1 fun y H2=>R x y H2) {Q:Value->Shared->Prop} {f:Value->Value->Sem Value}
  (hf:∀ v u s2 x y H2,Inv X Qi σ H2 s2->RelV x v->RelV y u->R x y H2->wpAny (model X.prog X.w) X.A (f v u) Q X.xe s2):
  wpAny (model X.prog X.w) X.A (eval a X.env) (fun v s₁=>wpAny (model X.prog X.w) X.A (eval b X.env) (fun u s₂=>wpAny (model X.prog X.w) X.A (f v u) Q X.xe s₂) X.xe s₁) X.xe s:=by
 refine thn (ha Qi s σ H _ I h) fun v s1 ⟨x,H1,I1,r1,q1⟩=>?_;refine thn (hb Qi s1 σ H1 _ I1 q1) fun u s2 ⟨y,H2,I2,r2,q2⟩=>?_;exact hf v u s2 x y H2 I2 r1 r2 q2
theorem ar{op:Operator}{r:R2}(ho:OpR X (binaryOp op) r)(ha:PE X a ta)(hb:PE X b tb):PE X (.BinOp a op b pos) (tOp r ta tb):=by
 intro Qi s σ H Q I h;exact wpAny_BinOp (binT ha hb I h fun v u s2 x y H2 I2 rx ry q=>ho Qi s2 σ H2 x y v u Q I2 rx ry q)
theorem Et{op:UnaryOp}{r:V->Hp->VK->Prop}(ho:UnR X (unaryOp op) r)(ha:PE X a ta):PE X (.UnaryOp op a pos) (tUn r ta):=by
 intro Qi s σ H Q I h;exact UnaryOp_ (thn (ha Qi s σ H _ I h) fun v s1 ⟨x,H1,I1,r1,q1⟩=>ho Qi s1 σ H1 x v Q I1 r1 q1)
theorem opI {f:Value->Value->Sem Value} {C:Int->Int->Prop} {g:Int->Int->Int}
  (rule:∀(i j:Int) (t u:Tok) (s:Shared) (Q:Value->Shared->Prop) (E:Value->Shared->Prop),C i j->Q (.int (g i j) s.toks) {s with toks:=s.toks+1}->wpAny (model X.prog X.w) X.A (f (.int i t) (.int j u)) Q E s):
  OpR X f (rI C fun i j=>.int (g i j)):=by
 intro Qi s σ H x y v u Q I rx ry h;obtain⟨i,j,rfl,rfl,hc,q⟩:=h;obtain⟨t,rfl⟩:=rx;obtain⟨t',rfl⟩:=ry;exact rule i j t t' s _ _ hc ⟨.int (g i j),H,I.tok _,⟨_,rfl⟩,q⟩
theorem BA {f:Value->Value->Sem Value} {g:Int->Int->Int}
  (rule:∀(i j:Int) (t u:Tok) (s:Shared) (Q:Value->Shared->Prop) (E:Value->Shared->Prop),Q (.int (g i j) s.toks) {s with toks:=s.toks+1}->wpAny (model X.prog X.w) X.A (f (.int i t) (.int j u)) Q E s):
  OpR X f (rI0 fun i j=>.int (g i j)):=by
 intro Qi s σ H x y v u Q I rx ry h;obtain⟨i,j,rfl,rfl,q⟩:=h;obtain⟨t,rfl⟩:=rx;obtain⟨t',rfl⟩:=ry;exact rule i j t t' s _ _ ⟨.int (g i j),H,I.tok _,⟨_,rfl⟩,q⟩
theorem zg {f:Value->Value->Sem Value} {g:Int->Int->Bool}
  (rule:∀(i j:Int) (t u:Tok) (s:Shared) (Q:Value->Shared->Prop) (E:Value->Shared->Prop),Q (.bool (g i j)) s->wpAny (model X.prog X.w) X.A (f (.int i t) (.int j u)) Q E s):
  OpR X f (rI0 fun i j=>.bl (g i j)):=by
 intro Qi s σ H x y v u Q I rx ry h;obtain⟨i,j,rfl,rfl,q⟩:=h;obtain⟨t,rfl⟩:=rx;obtain⟨t',rfl⟩:=ry;exact rule i j t t' s _ _ ⟨.bl (g i j),H,I,rfl,q⟩
def CDiv(i j:Int):Prop:=0<j/\j<1073741824
def CPow(i j:Int):Prop:=0<=j/\j<=1000000/\i.natAbs<2^64
def CMul(i j:Int):Prop:=(-(2^64)<i/\i<2^64)\/(-(2^64)<j/\j<2^64)
theorem CMul.ok{i j:Int}(h:CMul i j):IntMulOk i j:=by
 rcases h with ⟨h1,h2⟩ | ⟨h1,h2⟩
 . exact .of_left (intBits_le_64 h1 h2)
 . exact .of_right (intBits_le_64 h1 h2)
theorem zh(k:Nat):(0:Int)<=2^k:=by
 rw[two_pow_cast];exact Int.natCast_nonneg _
theorem Dt:OpR X (binaryOp .Add) (rI0 fun i j=>.int (i+j)):=BA fun _ _ _ _ _ _ _ q=>add_int q
theorem Du:OpR X (binaryOp .Sub) (rI0 fun i j=>.int (i-j)):=BA fun _ _ _ _ _ _ _ q=>sub_int q
theorem Dv:OpR X (binaryOp .Mult) (rI CMul fun i j=>.int (i*j)):=opI fun _ _ _ _ _ _ _ hc q=>mul_int q hc.ok
theorem Cq:OpR X (binaryOp .FloorDiv) (rI CDiv fun i j=>.int (i/j)):=opI fun i j _ _ _ _ _ hc q=>by
 have h1:(0:Int)<j:=hc.1;have h2:j<1073741824:=hc.2;exact floordiv_int (by omega) (by rw[S9 i (by omega)];exact q) (.inl (PyProof.noPylong_small (by omega)))
theorem Dw:OpR X (binaryOp .Mod) (rI (fun _ j=>0<j) fun i j=>.int (i%j)):=opI fun i j _ _ _ _ _ hc q=>by
 have h1:(0:Int)<j:=hc;exact mod_int' (by omega) (by rw[Int.fmod_eq_emod_of_nonneg i (by omega)];exact q)
theorem Dx:OpR X (binaryOp .RShift) (rI (fun _ j=>0<=j) fun i j=>.int (i/2^j.toNat)):=opI fun i j _ _ _ _ _ hc q=>
 rshift_int hc (by rw[S9 i (zh _)];exact q)
theorem Eu:OpR X (binaryOp .BitOr) (rI0 fun i j=>.int (Builtin.bitOr i j)):=BA fun _ _ _ _ _ _ _ q=>or_int q
theorem unI {f:Value->Sem Value} {g:Int->Int}
  (rule:∀(i:Int) (t:Tok) (s:Shared) (Q:Value->Shared->Prop) (E:Value->Shared->Prop),Q (.int (g i) s.toks) {s with toks:=s.toks+1}->wpAny (model X.prog X.w) X.A (f (.int i t)) Q E s):
  UnR X f (rU fun i=>.int (g i)):=by
 intro Qi s σ H x v Q I rx h;obtain⟨i,rfl,q⟩:=h;obtain⟨t,rfl⟩:=rx;exact rule i t s _ _ ⟨.int (g i),H,I.tok _,⟨_,rfl⟩,q⟩
theorem Dy:UnR X (unaryOp .USub) (rU fun i=>.int (-i)):=unI fun _ _ _ _ _ q=>neg_int q
end
def scal:V->V->Bool
 | .non,.non=>true | .non,.int _=>true | .int _,.non=>true | .non,.bl _=>true | .bl _,.non=>true | .non,.str _=>true | .str _,.non=>true
 | .int _,.int _=>true | .bl _,.bl _=>true | .str _,.str _=>true | .byt _,.byt _=>true
 | .int _,.str _=>true | .str _,.int _=>true | .bl _,.str _=>true | .str _,.bl _=>true
 | _,_=>false
def rEq:R2:=fun x y H Q=>scal x y=true/\Q (.bl (decide (x=y))) H
def rNe:R2:=fun x y H Q=>scal x y=true/\Q (.bl (!decide (x=y))) H
theorem yH{i j:Int}:decide (V.int i=V.int j)=(i==j):=by
 rw[Q0];simp
theorem Ag{i j:Bool}:decide (V.bl i=V.bl j)=(i==j):=by
 rw[Q0];simp
theorem yI{i j:Str}:decide (V.str i=V.str j)=(i==j):=by
 rw[Q0];simp
theorem yJ{i j:Array UInt8}:decide (V.byt i=V.byt j)=(i.toList==j.toList):=by
 rw[Q0];cases i;cases j;simp
section
variable{X:Cx}{a b c:Expr}{ta tb tc:TE}{pos:Pos}
theorem aV{Qi:List (Addr × Obj)}{σ:St}{H:Hp}{s:Shared}{Q:VK}{k k':Bool}(I:Inv X Qi σ H s)(q:Q (.bl k) H)(e:k=k'):EP X Qi σ Q (.bool k') s:=by
 subst e;exact⟨.bl k,H,I,rfl,q⟩
theorem zi:OpR X (compareOp .Eq) rEq:=by
 intro Qi s σ H x y v u Q I rx ry h;obtain⟨hs,q⟩:=h
 cases x with
 | non=>
  cases rx
  cases y with
  | non=>cases ry;exact PySem.EqNone.eq_none_none (aV I q (by simp))
  | bl j=>cases ry;exact PySem.EqNone.eq_none_bool (aV I q (by simp))
  | int j=>obtain⟨t',rfl⟩:=ry;exact PySem.EqNone.eq_none_int (aV I q (by simp))
  | str j=>obtain⟨t',rfl⟩:=ry;exact PySem.EqNone.eq_none_str (aV I q (by simp))
  | _=>exact absurd (show false=true from hs) Qt
 | bl i=>
  cases rx
  cases y with
  | non=>cases ry;exact PySem.EqNone.eq_bool_none (aV I q (by simp))
  | bl j=>cases ry;exact eq_bool (aV I q Ag)
  | str j=>obtain⟨t',rfl⟩:=ry;exact PySem.EqMixed.eq_bool_str (aV I q (by simp))
  | _=>exact absurd (show false=true from hs) Qt
 | int i=>
  obtain⟨t,rfl⟩:=rx
  cases y with
  | non=>cases ry;exact PySem.EqNone.eq_int_none (aV I q (by simp))
  | int j=>obtain⟨t',rfl⟩:=ry;exact eq_int (aV I q yH)
  | str j=>obtain⟨t',rfl⟩:=ry;exact PySem.EqMixed.eq_int_str (aV I q (by simp))
  | _=>exact absurd (show false=true from hs) Qt
 | str i=>
  obtain⟨t,rfl⟩:=rx
  cases y with
  | non=>cases ry;exact PySem.EqNone.eq_str_none (aV I q (by simp))
  | bl j=>cases ry;exact PySem.EqMixed.eq_str_bool (aV I q (by simp))
  | int j=>obtain⟨t',rfl⟩:=ry;exact PySem.EqMixed.eq_str_int (aV I q (by simp))
  | str j=>obtain⟨t',rfl⟩:=ry;exact eq_str (aV I q yI)
  | _=>exact absurd (show false=true from hs) Qt
 | byt i=>
  obtain⟨t,rfl⟩:=rx
  cases y with
  | byt j=>obtain⟨t',rfl⟩:=ry;exact PySem.W.eq_bytes (aV I q yJ)
  | _=>exact absurd (show false=true from hs) Qt
 | _=>cases y <;> exact absurd (show false=true from hs) Qt
theorem zj:OpR X (compareOp .NotEq) rNe:=by
 intro Qi s σ H x y v u Q I rx ry h;obtain⟨hs,q⟩:=h
 cases x with
 | non=>
  cases rx
  cases y with
  | non=>cases ry;exact PySem.EqNone.ne_none_none (aV I q (by simp))
  | bl j=>cases ry;exact PySem.EqNone.ne_none_bool (aV I q (by simp))
  | int j=>obtain⟨t',rfl⟩:=ry;exact PySem.EqNone.ne_none_int (aV I q (by simp))
  | str j=>obtain⟨t',rfl⟩:=ry;exact PySem.EqNone.ne_none_str (aV I q (by simp))
  | _=>exact absurd (show false=true from hs) Qt
 | bl i=>
  cases rx
  cases y with
  | non=>cases ry;exact PySem.EqNone.ne_bool_none (aV I q (by simp))
  | bl j=>cases ry;exact ne_bool (aV I q (congrArg not Ag))
  | str j=>obtain⟨t',rfl⟩:=ry;exact PySem.EqMixed.ne_bool_str (aV I q (by simp))
  | _=>exact absurd (show false=true from hs) Qt
 | int i=>
  obtain⟨t,rfl⟩:=rx
  cases y with
  | non=>cases ry;exact PySem.EqNone.ne_int_none (aV I q (by simp))
  | int j=>obtain⟨t',rfl⟩:=ry;exact ne_int (aV I q (congrArg not yH))
  | str j=>obtain⟨t',rfl⟩:=ry;exact PySem.EqMixed.ne_int_str (aV I q (by simp))
  | _=>exact absurd (show false=true from hs) Qt
 | str i=>
  obtain⟨t,rfl⟩:=rx
  cases y with
  | non=>cases ry;exact PySem.EqNone.ne_str_none (aV I q (by simp))
  | bl j=>cases ry;exact PySem.EqMixed.ne_str_bool (aV I q (by simp))
  | int j=>obtain⟨t',rfl⟩:=ry;exact PySem.EqMixed.ne_str_int (aV I q (by simp))
  | str j=>obtain⟨t',rfl⟩:=ry;exact ne_str (aV I q (congrArg not yI))
  | _=>exact absurd (show false=true from hs) Qt
 | byt i=>
  obtain⟨t,rfl⟩:=rx
  cases y with
  | byt j=>obtain⟨t',rfl⟩:=ry;exact PySem.W.ne_bytes (aV I q (congrArg not yJ))
  | _=>exact absurd (show false=true from hs) Qt
 | _=>cases y <;> exact absurd (show false=true from hs) Qt
theorem Ev:OpR X (compareOp .Lt) (rI0 fun i j=>.bl (decide (i<j))):=zg fun _ _ _ _ _ _ _ q=>lt_int q
theorem Ew:OpR X (compareOp .LtE) (rI0 fun i j=>.bl (decide (i<=j))):=zg fun _ _ _ _ _ _ _ q=>le_int q
theorem Ex:OpR X (compareOp .Gt) (rI0 fun i j=>.bl (decide (j<i))):=zg fun _ _ _ _ _ _ _ q=>gt_int q
theorem Ey:OpR X (compareOp .GtE) (rI0 fun i j=>.bl (decide (j<=i))):=zg fun _ _ _ _ _ _ _ q=>ge_int q
theorem Ah:OpR X (compareOp .In) (fun x y H Q=>∃ i j,x=.str i/\y=.str j/\Q (.bl (!(Builtin.Str.occurrences j i 0 j.length 1).isEmpty)) H):=by
 intro Qi s σ H x y v u Q I rx ry h;obtain⟨i,j,rfl,rfl,q⟩:=h;obtain⟨t,rfl⟩:=rx;obtain⟨t',rfl⟩:=ry;exact in_str (aV I q rfl)
theorem Ai:OpR X (compareOp .Is) (fun x y H Q=>y=.non/\Q (.bl (decide (x=.non))) H):=by
 intro Qi s σ H x y v u Q I rx ry h;obtain⟨rfl,q⟩:=h;cases ry;refine is_none_gen (aV I q ?_)
 cases x <;> first
  | (cases rx;rfl)
  | (obtain⟨t,rfl⟩:=rx;rfl)
theorem Cr:OpR X (compareOp .IsNot) (fun x y H Q=>y=.non/\Q (.bl (!decide (x=.non))) H):=by
 intro Qi s σ H x y v u Q I rx ry h;obtain⟨rfl,q⟩:=h;cases ry;refine isnot_none_gen (aV I q ?_)
 cases x <;> first
  | (cases rx;rfl)
  | (obtain⟨t,rfl⟩:=rx;rfl)
theorem ai(b:Expr){op:CmpOp}(h:op≠.In:=by decide)(h2:op≠.NotIn:=by decide):behindInMarks op b=false:=by
 have e1:(op==CmpOp.In)=false:=by cases op <;> first | rfl | exact absurd rfl h
 have e2:(op==CmpOp.NotIn)=false:=by cases op <;> first | rfl | exact absurd rfl h2
 cases b <;> simp[behindInMarks,e1,e2]
theorem ay{op:CmpOp}{r:R2}(ho:OpR X (compareOp op) r)(ha:PE X a ta)(hb:PE X b tb)(hm:behindInMarks op b=false):PE X (.Compare a [op] [b] pos) (tOp r ta tb):=by
 intro Qi s σ H Q I h;exact wpAny_Compare1 (binT ha hb I h fun v u s2 x y H2 I2 rx ry q=>ho Qi s2 σ H2 x y v u Q I2 rx ry q) hm
def tTest(t:TE):TT:=fun σ H Q=>t σ H fun x H'=>∃ k,x=.bl k/\Q k H'
theorem aj{op:CmpOp}{r:R2}(ho:OpR X (compareOp op) r)(ha:PE X a ta)(hb:PE X b tb)(hm:behindInMarks op b=false):PT X (.Compare a [op] [b] pos) (tTest (tOp r ta tb)):=by
 intro Qi s σ H Q I h
 refine wpAny_isTrue_Compare1 (thn (ha Qi s σ H _ I h) fun v s1 ⟨x,H1,I1,r1,q1⟩=>thn (hb Qi s1 σ H1 _ I1 q1) fun u s2 ⟨y,H2,I2,r2,q2⟩=>
  thn (ho Qi s2 σ H2 x y v u _ I2 r1 r2 q2) fun c s3 ⟨z,H3,I3,r3,k,e,q3⟩=>?_) hm
 subst e;cases r3;exact RX ⟨H3,I3,q3⟩
theorem pB:(sizeLine:Nat)<2^63:=by rw[sizeLine_eq];decide
theorem zk:OpR X (binaryOp .Add) (fun x y H Q=>∃ i j,x=.str i/\y=.str j/\i.length+j.length<=sizeLine/\Q (.str (i++j)) H):=by
 intro Qi s σ H x y v u Q I rx ry h;obtain⟨i,j,rfl,rfl,hz,q⟩:=h;obtain⟨t,rfl⟩:=rx;obtain⟨t',rfl⟩:=ry;exact add_str (fun t' tk=>⟨.str (i++j),H,I.tok _,⟨_,rfl⟩,q⟩) hz
theorem dc{x:V}{us:List Value}(r:Vals [x] us):∃ u,us=[u]/\RelV x u:=by
 cases r with
 | cons r1 r2=>cases r2;exact⟨_,rfl,r1⟩
theorem Ez{x y:V}{us:List Value}(r:Vals [x,y] us):∃ u w',us=[u,w']/\RelV x u/\RelV y w':=by
 cases r with
 | cons r1 r2=>
  cases r2 with
  | cons r3 r4=>cases r4;exact⟨_,_,rfl,r1,r3⟩
theorem vi:CallR X (.type "int") (fun xs H Q=>(∃ i,xs=[.int i]/\Q (.int i) H)\/∃ k,xs=[.bl k]/\Q (.int (if k then 1 else 0)) H):=by
 intro Qi s σ H xs us Q I r h;rcases h with ⟨i,rfl,q⟩ | ⟨k,rfl,q⟩
 . obtain⟨u,rfl,t,rfl⟩:=dc r;exact call_int_int ⟨.int i,H,I,⟨_,rfl⟩,q⟩
 . obtain⟨u,rfl,r1⟩:=dc r;cases r1;exact call_int_bool ⟨.int (if k then 1 else 0),H,I.tok _,⟨_,rfl⟩,q⟩
end
structure ObjM(h:Heap)(x dx C:Addr)(mA:Str->Option Value):Prop where
 obj:h.get? x=some (PySem.W.instObj C dx)
 ns:h.Ns1 dx mA
 ne:dx≠x
variable{mA:Str->Option Value}
theorem Aj{h:Heap}{dx:Addr}(n:h.Ns1 dx mA):∃ od,h.get? dx=some od/\∀ name,PySem.W.lookIn name od=some (mA name):=by
 obtain⟨o,es,ep,ho,hd,hk,_,hm⟩:=n;refine⟨o,ho,fun name=>?_⟩;have e:=hm name;unfold nsFind findBy at e;rw[← Array.find?_toList] at e;unfold PySem.W.lookIn;rw[hd];dsimp only
 split
 . rename_i y q
   rw[q] at e;exact congrArg some e
 . rename_i q
   rw[q] at e
   have a:es.toList.any (·.refKey)=false:=by
    rw[List.any_eq_false];intro y hy;obtain⟨z,t,hkey⟩:=hk y (Array.mem_toList_iff.mp hy);simp[DictEntry.refKey,hkey]
   have a':¬ es.toList.any (·.refKey)=true:=by rw[a];exact Qt
   rw[QT a'];exact congrArg some e
variable{C:Addr}
theorem ObjM.look{h:Heap}{x dx:Addr}(I:ObjM h x dx C mA):∃ od,PySem.W.InstAt h x (PySem.W.instObj C dx) C (some od)/\∀ name,PySem.W.lookIn name od=some (mA name):=
 let ⟨od,ho,hl⟩:=Aj I.ns
 ⟨od,⟨I.obj,rfl,rfl,ho⟩,hl⟩
section
variable{prog:Program}{w:World}{A:Around}{E:Value->Shared->Prop}{s:Shared}{K:Frag}{x dx C f:Addr}{mA:Str->Option Value}{name:Str}{v:Value}
theorem Cs {expr:Bool} {Q:Value->Shared->Prop} (X:K.In s.heap) (I:ObjM s.heap x dx C mA) (hg:PySem.W.plainGet K C name=true) (hh:PySem.W.hasDictIn K C=true)
  (ha:findIn K (.ref C) name=some none) (hv:mA name=some v) (hv':PySem.W.handedIn v=true) (h:Q v {s with toks:=s.toks+1}):
  wpAny (model prog w) A (getAttr (.ref x) name expr) Q E s:=by
 obtain⟨od,J,hl⟩:=I.look;exact PySem.W.get_value X J (SZ hg).1 (PySem.W.findObj_own hh ha rfl (by rw[hl,hv])) hv' h
theorem BB {pl:Sem Bool} {Q:Value × List Value->Shared->Prop} (X:K.In s.heap) (I:ObjM s.heap x dx C mA) (hg:PySem.W.plainGet K C name=true)
  (hf:findIn K (.ref C) name=some (some (.ref f))) (ht:isFn K (.ref f)=true) (hv:mA name=none) (h:Q (.ref f,[.ref x]) s):
  wpAny (model prog w) A (getMethod (.ref x) name pl) Q E s:=by
 obtain⟨od,J,hl⟩:=I.look;exact PySem.W.method_fn X J (SZ hg).1 (SZ hg).2 hf (Sk.mp ht) (by show(PySem.W.lookIn name od).map (·.isSome)=some false;rw[hl,hv];rfl) h
theorem Ct {ns:List Str} {Q:Unit->Shared->Prop} (X:K.In s.heap) (I:ObjM s.heap x dx C mA)
  (hs:findIn K (.ref C) "__setattr__"=some (some (.builtin "object.__setattr__"))) (hp:PySem.W.plainOver K C=true) (ht:PySem.W.takerIn K C name=some none) (hh:PySem.W.hasDictIn K C=true)
  (hw:PySem.Within mA ns) (hsz:ns.length<=sizeLine)
  (h:∀ h',ObjM h' x dx C (fun y=>if y=name then some v else mA y)->Heap.SameBut dx s.heap h'->Q () {s with heap:=h',toks:=s.toks+2}):
  wpAny (model prog w) A (setAttr (.ref x) name v) Q E s:=by
 obtain⟨od,J,hl⟩:=I.look;refine PySem.W.set_plain X J hs (PySem.W.osa_open (s:={s with toks:=s.toks+1}) (r:=none) X J hp ht fun b=>?_);obtain⟨cd,hc,hd'⟩:=PySem.W.any_some hh;have hx:s.heap.get? x=some ⟨.ref C,some dx,.plain,#[]⟩:=I.obj;refine Rg (Ru (Rg (Rg (wpAny_loadPart hx (Rg (PySem.W.Looks.here (s:={s with toks:=s.toks+1}) (PySem.W.looks_clsIn X hc) ?_))))));rw[hd'];refine Ru (a:=some dx) (Rg (Ru (Rg ?_)));refine wpAny_nsSet1 (s:={s with toks:=s.toks+1}) I.ns fun h' hn2 hs2=>?_;obtain⟨oD,esD,epD,hoD,hdD,hcD⟩:=hn2.count (PySem.Within.cons name v hw);refine Rg (wpAny_lookBehind hoD (by rw[hdD];exact pastItsLine_dict (QG hcD (by rw[Rj];omega))) ?_);exact Ru (h _ ⟨(hs2.2 _ (Tj I.ne)).trans I.obj,hn2,I.ne⟩ hs2)
theorem BC {R:Result->Shared->Prop} {vs:List Value} {kw:List (Str × Value)} (X:K.In s.heap) (hm:PySem.W.makesIn K C=true)
  (hi:findIn K (.ref C) "__init__"=some (some (.ref f))) (hf:PySem.W.typeIn K (.ref f)=some (.type "function"))
  (h:codeAny (model prog w) (A.under (.builtin "type.__call__" ⟨.ref C::vs,kw⟩)) (.call (.ref f) ⟨.ref (s.heap.objs.size+1)::vs,kw⟩) (PySem.W.InitBack (s.heap.objs.size+1) R)
   {s with heap:=(s.heap.push PySem.W.emptyDict).push (PySem.W.instObj C s.heap.objs.size)}):
  codeAny (model prog w) A (.call (.ref C) ⟨vs,kw⟩) R s:=by
 obtain⟨hh,g,d,t,os⟩:=s;exact PySem.W.make_core (PySem.W.makes_of X hm) (PySem.W.looks_findIn X hi) (fun self=>PySem.W.bind_fn X self hf) (.inl rfl) h
end
def putF(f:Str)(v:V):List (Str × V)->List (Str × V)
 | []=>[(f,v)]
 | (g,x)::r=>if g=f then(g,v)::r else(g,x)::putF f v r
theorem q5(f g:Str)(v:V):∀ fs:List (Str × V),(putF f v fs).lookup g=if g=f then some v else fs.lookup g
 | []=>by
  show List.lookup g [(f,v)]=_;by_cases h:g=f
  . have hb:(g==f)=true:=Sk.mpr h;simp only[List.lookup,hb,Q6 h]
  . have hb:(g==f)=false:=So.mpr h;simp only[List.lookup,hb,QT h]
 | (k,x)::r=>by
  have ih:=q5 f g v r;rw[show putF f v ((k,x)::r)=(if k=f then(k,v)::r else(k,x)::putF f v r) from rfl];by_cases hk:k=f
  . rw[Q6 hk];by_cases h:g=k
    . have hb:(g==k)=true:=Sk.mpr h;simp only[List.lookup,hb,Q6 (h.trans hk)]
    . have hb:(g==k)=false:=So.mpr h;simp only[List.lookup,hb,QT (fun e:g=f=>h (e.trans hk.symm))]
  . rw[QT hk];by_cases h:g=k
    . have hb:(g==k)=true:=Sk.mpr h;simp only[List.lookup,hb,QT (fun e:g=f=>hk (h.symm.trans e))]
    . have hb:(g==k)=false:=So.mpr h;simp only[List.lookup,hb];exact ih
theorem pC(f:Str)(v:V):∀ fs:List (Str × V),f∈(putF f v fs).map (·.1)/\∀ g,g∈fs.map (·.1)->g∈(putF f v fs).map (·.1)
 | []=>⟨by simp[putF],fun g h=>by simp at h⟩
 | (k,x)::r=>by
  obtain⟨i1,i2⟩:=pC f v r;rw[show putF f v ((k,x)::r)=(if k=f then(k,v)::r else(k,x)::putF f v r) from rfl];by_cases hk:k=f
  . rw[Q6 hk];subst hk;exact⟨by simp,fun g h=>by simpa using h⟩
  . rw[QT hk];refine⟨?_,fun g h=>?_⟩
    . rw[Rc];exact QH _ i1
    . rw[Rc] at h ⊢;rcases QV.mp h with e | e
      . exact QV.mpr (.inl e)
      . exact QH _ (i2 g e)
theorem ra(f:Str)(v:V):∀ fs:List (Str × V),(putF f v fs).length<=fs.length+1
 | []=>by simp[putF]
 | (k,x)::r=>by
  have ih:=ra f v r;rw[show putF f v ((k,x)::r)=(if k=f then(k,v)::r else(k,x)::putF f v r) from rfl];by_cases hk:k=f
  . rw[Q6 hk,Rj,Rj];omega
  . rw[QT hk,Rj,Rj];omega
variable{o:Option Value}
theorem RelO.some_of{v:V}(r:RelO (some v) o):∃ u,o=some u/\RelV v u:=by
 cases o with
 | none=>exact(show False from r).elim
 | some u=>exact⟨u,rfl,r⟩
abbrev T1:=@RelO.some_of
theorem RelO.none_of(r:RelO none o):o=none:=by
 cases o with
 | none=>rfl
 | some u=>exact(show False from r).elim
theorem Ak{v:V}{u:Value}(r:RelV v u):PySem.W.handedIn u=true:=by
 cases v with
 | non=>cases (show u=Value.none from r);rfl
 | bl b=>cases (show u=Value.bool b from r);rfl
 | int i=>obtain⟨t,e⟩:=(show ∃ t,u=Value.int i t from r);cases e;rfl
 | str x=>obtain⟨t,e⟩:=(show ∃ t,u=Value.str x t from r);cases e;rfl
 | byt b=>obtain⟨t,e⟩:=(show ∃ t,u=Value.bytes b t from r);cases e;rfl
 | flt b=>obtain⟨t,e⟩:=(show ∃ t,u=Value.float b t from r);cases e;rfl
 | ref a=>cases (show u=Value.ref a from r);rfl
 | ty n=>cases (show u=Value.type n from r);rfl
section
variable{P:Program}{w:World}{H H':Hp}{h h':Heap}{a C dx:Addr}{fs fs':List (Str × V)}
theorem qz(hok:HOk P w H h)(e:H a=some (.ins C dx fs)):∃ mA,ObjM h a dx C mA/\(∀ f,RelO (fs.lookup f) (mA f))/\PySem.Within mA (fs.map (·.1))/\fs.length<=1000/\H dx=some (.own a):=by
 obtain⟨d,z,ne,ob,mA,n,r,q⟩:=(show ObjOk P w H h a (.ins C dx fs) from hok a _ e);exact⟨mA,⟨ob,n,ne⟩,r,q,z,d⟩
end
structure Cls(K:Frag)(C:Addr):Prop where
 pg:PySem.W.plainGet K C Str.empty=true
 hd:PySem.W.hasDictIn K C=true
 po:PySem.W.plainOver K C=true
 sa:findIn K (.ref C) "__setattr__"=some (some (.builtin "object.__setattr__"))
theorem Cls.get{K:Frag}(c:Cls K C)(f:Str):PySem.W.plainGet K C f=true:=c.pg
def NoAttr(K:Frag)(C:Addr)(f:Str):Prop:=findIn K (.ref C) f=some none
theorem NoAttr.taker{K:Frag}{f:Str}(n:NoAttr K C f):PySem.W.takerIn K C f=some none:=by
 unfold PySem.W.takerIn;rw[show findIn K (.ref C) f=some none from n];rfl
structure Meth(K:Frag)(C:Addr)(m:Str)(f:Addr):Prop where
 at_:findIn K (.ref C) m=some (some (.ref f))
 fn:isFn K (.ref f)=true
 kp:keepIn K (.ref f)=true
section
variable{X:Cx}{Qi:List (Addr × Obj)}{σ:St}{H:Hp}{s:Shared}{a C dx:Addr}{fs:List (Str × V)}{f:Str}{v:V}{A:Around}{E:Value->Shared->Prop}
theorem zn {b:Bool} {Q:Value->Shared->Prop} (I:Inv X Qi σ H s) (e:H a=some (.ins C dx fs)) (c:Cls X.K C) (n:NoAttr X.K C f) (l:fs.lookup f=some v)
  (h:∀ u s',Inv X Qi σ H s'->RelV v u->Q u s'):wpAny (model X.prog X.w) A (getAttr (.ref a) f b) Q E s:=by
 obtain⟨mA,O,r,_,_,_⟩:=qz I.hok e;obtain⟨u,hu,ru⟩:=T1 (v:=v) (o:=mA f) (by rw[← l];exact r f);exact Cs I.kIn O (c.get f) c.hd n hu (Ak ru) (h u _ (I.tok _) ru)
theorem sF {m:Str} {g:Addr} {pl:Sem Bool} {Q:Value × List Value->Shared->Prop} (I:Inv X Qi σ H s) (e:H a=some (.ins C dx fs)) (c:Cls X.K C) (k:Meth X.K C m g) (l:fs.lookup m=none)
  (h:Q (.ref g,[.ref a]) s):wpAny (model X.prog X.w) A (getMethod (.ref a) m pl) Q E s:=by
 obtain⟨mA,O,r,_,_,_⟩:=qz I.hok e;have hn:mA m=none:=RelO.none_of (by rw[← l];exact r m);exact BB I.kIn O (c.get m) k.at_ k.fn hn h
theorem zo {y:V} {u:Value} {Q:Unit->Shared->Prop} (I:Inv X Qi σ H s) (e:H a=some (.ins C dx fs)) (c:Cls X.K C) (n:NoAttr X.K C f) (hl:fs.length<1000) (ry:RelV y u)
  (h:∀ s',Inv X Qi σ (upd H a (.ins C dx (putF f y fs))) s'->Q () s'):wpAny (model X.prog X.w) A (setAttr (.ref a) f u) Q E s:=by
 obtain⟨mA,O,r,wi,_,ho⟩:=qz I.hok e;have hz:(fs.map (·.1)).length<=sizeLine:=by rw[Qu,sizeLine_eq];omega
 refine Ct I.kIn O c.sa c.po n.taker c.hd wi hz fun h' O' sb=>h _ ?_;have hd:∃ o,h'.get? dx=some o:=let ⟨o,_,_,e',_⟩:=O'.ns;⟨o,e'⟩;refine I.write (x:=a) (e:=dx) (by rw[e];exact True.intro) (.inr ho) (fun b q hb z=>(sb.2 b hb).trans z) hd ?_;refine⟨by rw[ao O.ne];exact ho,?_,O.ne,O'.obj,_,O'.ns,fun g=>?_,fun g hg=>?_⟩
 . have:=ra f y fs;omega
 . show RelO ((putF f y fs).lookup g) (if g=f then some u else mA g);rw[q5];by_cases q:g=f
   . rw[Q6 q,Q6 q];exact ry
   . rw[QT q,QT q];exact r g
 . by_cases q:g=f
   . rw[q];exact(pC f y fs).1
   . refine(pC f y fs).2 g (wi g fun z=>hg ?_);show(if g=f then some u else mA g)=none;rw[QT q];exact z
theorem Inv.made(I:Inv X Qi σ H s):Inv X Qi σ (upd (upd H s.heap.objs.size (.own (s.heap.objs.size+1))) (s.heap.objs.size+1) (.ins C s.heap.objs.size []))
  {s with heap:=(s.heap.push PySem.W.emptyDict).push (PySem.W.instObj C s.heap.objs.size)}:=by
 have e1:(s.heap.push PySem.W.emptyDict).get? s.heap.objs.size=some PySem.W.emptyDict:=Rm s.heap rfl
 have e2:((s.heap.push PySem.W.emptyDict).push (PySem.W.instObj C s.heap.objs.size)).get? (s.heap.objs.size+1)=some (PySem.W.instObj C s.heap.objs.size):=by
  have:=Rm (s.heap.push PySem.W.emptyDict) (o:=PySem.W.instObj C s.heap.objs.size) rfl
  rwa [Se] at this
 have e3:(s.heap.push PySem.W.emptyDict).Ns s.heap.objs.size (fun _=>none):=⟨PySem.W.emptyDict,#[],_,e1,rfl,(fun e he=>absurd he (by simp)),fun _=>rfl⟩;have I1:=I.laid (a:=s.heap.objs.size) (o:=.own (s.heap.objs.size+1)) (h':=s.heap.push PySem.W.emptyDict) (t':=s.toks) (fun b u q=>QP _ q) (QR _) ⟨_,e1⟩;refine I1.laid (a:=s.heap.objs.size+1) (o:=.ins C s.heap.objs.size []) (t':=s.toks) (fun b u q=>QP _ q) (Nat.le_of_eq (Se _ _)) ?_;have ne:s.heap.objs.size≠s.heap.objs.size+1:=Rt (SH _);refine⟨by rw[ao ne,ah],Rx _,ne,e2,fun _=>none,(Heap.Ns1.of_empty e3).at fun o q=>QP _ q,fun _=>True.intro,fun y hy=>absurd rfl hy⟩
theorem Cu {prog:Program} {w:World} {env:Env} {e:Expr} {f:Str} {pos:Pos} {s:Shared} {Q:Value->Shared->Prop} (hb:attributeBase e f env (eval e env)=eval e env)
  (h:wpAny (model prog w) A (eval e env) (fun o s₁=>wpAny (model prog w) A (getAttr o f true) Q E s₁) E s):wpAny (model prog w) A (eval (.Attribute e f pos) env) Q E s:=
 Attribute_any_ h (by rw[arm_eval_Attribute,hb])
end
section
variable{X:Cx}{o e value:Expr}{f:Str}{pos pos' tpos:Pos}{ta tv:TE}
end
section
variable{X:Cx}{Qi:List (Addr × Obj)}{σ:St}{H:Hp}{s:Shared}{A:Around}{E:Value->Shared->Prop}{Q:Value->Shared->Prop}{c:Value}{b:Bool}
inductive TyOf(K:Frag)(H:Hp):V->Value->Prop where
 | non:TyOf K H .non (.type "NoneType")
 | bl (x:Bool):TyOf K H (.bl x) (.type "bool")
 | int (i:Int):TyOf K H (.int i) (.type "int")
 | str (x:Str):TyOf K H (.str x) (.type "str")
 | flt (x:UInt64):TyOf K H (.flt x) (.type "float")
 | lst {a:Addr} {xs:List V} (e:H a=some (.lst xs)):TyOf K H (.ref a) (.type "list")
 | frz {a:Addr} {o:Obj} {xs:List V} (e:H a=some (.frz o (.lst xs))):TyOf K H (.ref a) (.type "list")
 | tup {a:Addr} {xs:List V} (e:H a=some (.tup xs)):TyOf K H (.ref a) (.type "tuple")
 | dK {a:Addr} {Ql:List (Key × V)} (e:H a=some (.dK Ql)):TyOf K H (.ref a) (.type "dict")
 | dT {a:Addr} {Ql:List (List Key × V)} (e:H a=some (.dT Ql)):TyOf K H (.ref a) (.type "dict")
 | ins {a C dx:Addr} {fs:List (Str × V)} (e:H a=some (.ins C dx fs)) (cl:Cls K C) (ha:findIn K (.ref C) "__class__"=some (some (.builtin "object.__class__")))
   (hn:PySem.W.specialIn K (.builtin "object.__class__") "__get__"=some (some (.builtin "getset_descriptor.__get__"))) (htk:PySem.W.takesIn K (.builtin "object.__class__")=some true)
   (hm:PySem.W.mroIn K C (.type "object")=some true):TyOf K H (.ref a) (.ref C)
theorem Al{x:V}{u t:Value}(I:Inv X Qi σ H s)(rx:RelV x u)(ty:TyOf X.K H x t)(e:PySem.W.kitOne X.K t c=some b)(h:∀ tk,Q (.bool b) {s with toks:=tk}):
  wpAny (model X.prog X.w) A (call (.builtin "isinstance") [u,c]) Q E s:=by
 cases ty with
 | non=>cases (show u=Value.none from rx);exact RM PySem.W.kitx_none I.kIn True.intro e (fun z=>nomatch z) h
 | bl y=>cases (show u=Value.bool y from rx);exact RM PySem.W.kitx_bool I.kIn True.intro e (fun z=>nomatch z) h
 | int i=>obtain⟨t,q⟩:=(show ∃ t,u=Value.int i t from rx);cases q;exact RM PySem.W.kitx_int I.kIn True.intro e (fun z=>nomatch z) h
 | str y=>obtain⟨t,q⟩:=(show ∃ t,u=Value.str y t from rx);cases q;exact RM PySem.W.kitx_str I.kIn True.intro e (fun z=>nomatch z) h
 | flt y=>obtain⟨t,q⟩:=(show ∃ t,u=Value.float y t from rx);cases q;exact RM PySem.W.kitx_float I.kIn True.intro e (fun z=>nomatch z) h
 | @lst a xs ea=>
  cases (show u=Value.ref a from rx);obtain⟨_,_,n,_,h1⟩:=(show ObjOk X.prog X.w H s.heap a (.lst xs) from I.hok a _ ea);exact RM PySem.W.kitx_list I.kIn ⟨_,h1,rfl⟩ e (fun z=>nomatch z) h
 | @frz a ob xs ea=>
  cases (show u=Value.ref a from rx);obtain⟨_,_,_,n,_,h1⟩:=(show ObjOk X.prog X.w H s.heap a (.frz ob (.lst xs)) from I.hok a _ ea);exact RM PySem.W.kitx_list I.kIn ⟨_,h1,rfl⟩ e (fun z=>nomatch z) h
 | @tup a xs ea=>
  cases (show u=Value.ref a from rx);obtain⟨_,_,_,p⟩:=(show ObjOk X.prog X.w H s.heap a (.tup xs) from I.hok a _ ea);obtain⟨o,h1,h2,_⟩:=p;exact RM PySem.W.kitx_tuple I.kIn ⟨o,h1,h2⟩ e (fun z=>nomatch z) h
 | @dK a Ql ea=>
  cases (show u=Value.ref a from rx);obtain⟨_,_,vs,_,p⟩:=(show ObjOk X.prog X.w H s.heap a (.dK Ql) from I.hok a _ ea);obtain⟨o,es,ep,h1,h2,_⟩:=p;exact RM PySem.W.kitx_dict I.kIn ⟨o,h1,h2.1⟩ e (fun z=>nomatch z) h
 | @dT a Ql ea=>
  cases (show u=Value.ref a from rx);obtain⟨_,_,xs,_,o,es,ep,h1,h2,_⟩:=(show ObjOk X.prog X.w H s.heap a (.dT Ql) from I.hok a _ ea);exact RM PySem.W.kitx_dict I.kIn ⟨o,h1,h2.1⟩ e (fun z=>nomatch z) h
 | @ins a C dx fs ea cl ha hn htk hm=>
  cases (show u=Value.ref a from rx);obtain⟨mA,O,_⟩:=qz I.hok ea;obtain⟨od,J,_⟩:=O.look;exact RM (PySem.W.kitx_own (cl.get _) cl.hd ha hn htk hm) I.kIn J e (fun z=>nomatch z) h
end
structure Room(k:Nat)(A:Around):Prop where
 hd:A.handled=none
 dp:A.depth+3*k+5<recursionLimit
 un:A.units+16*k+200<cLine
variable{A:Around}
theorem Room.mono{j k:Nat}(r:Room k A)(h:j<=k):Room j A:=⟨r.hd,by have:=r.dp;omega,by have:=r.un;omega⟩
theorem Room.deeper{k:Nat}(r:Room (k+1) A)(env:Env):Room k (A.deeper env):=
 ⟨r.hd,by have:=r.dp;show A.depth+1+3*k+5<_;omega,by have:=r.un;show A.units+3+16*k+200<_;omega⟩
variable{us:List Value}{kw:List (Str × Value)}
theorem zp{C:Addr}:(A.under (.builtin "type.__call__" ⟨.ref C::us,kw⟩)).depth=A.depth+1:=by
 first | rfl | simp[Around.under,Code.weight,Code.isCreation,Code.isGuard,Code.isCaller,Code.frames,Code.isFrame,guardIds]
theorem zq{C:Addr}:(A.under (.builtin "type.__call__" ⟨.ref C::us,kw⟩)).units=A.units+1:=by
 first | rfl | simp[Around.under,Code.cUnits,Code.frames,Code.isFrame]
theorem Room.make{k:Nat}(r:Room (k+1) A)(C:Addr)(us:List Value)(kw:List (Str × Value)):Room k (A.under (.builtin "type.__call__" ⟨.ref C::us,kw⟩)):=
 ⟨r.hd,by have:=r.dp;rw[zp];omega,by have:=r.un;rw[zq];omega⟩
theorem Room.depth{k:Nat}(r:Room k A):A.depth<recursionLimit:=by have:=r.dp;omega
theorem Room.units{k:Nat}(r:Room k A):A.units+64<cLine:=by have:=r.un;omega
def tNil:TA:=fun _ H Q=>Q [] H
def tCons(ta:TE)(tr:TA):TA:=fun σ H Q=>ta σ H fun x H1=>tr σ H1 fun xs H2=>Q (x::xs) H2
section
variable{X:Cx}{e:Expr}{es:List Expr}{te:TE}{t:TA}{pos:Pos}
theorem ab:PA X [] tNil:=fun _ _ _ _ H Q I h=>Sw ⟨[],H,I,.nil,h⟩
theorem aa(ha:PE X e te)(hr:PA X es t)(hs:starEach (e::es) X.env=(false,eval e X.env)::starEach es X.env:=by rfl):PA X (e::es) (tCons te t):=by
 intro pos Qi s σ H Q I h;rw[hs];show wpAny _ _ (spliced ((false,eval e X.env)::backTo pos (starEach es X.env))) _ _ s;refine Ss (thn (ha Qi s σ H _ I h) fun u s1 ⟨x,H1,I1,r1,q1⟩=>?_);exact thn (hr pos Qi s1 σ H1 _ I1 q1) fun us s2 ⟨xs,H2,I2,r2,q2⟩=>⟨x::xs,H2,I2,.cons r1 r2,q2⟩
def tTup(t:TA):TE:=fun σ H Q=>t σ H fun xs H1=>xs.length<=sizeLine/\∀ p,H1 p=none->Q (.ref p) (upd H1 p (.tup xs))
def tLst(t:TA):TE:=fun σ H Q=>t σ H fun xs H1=>xs.length<=sizeLine/\∀ p,H1 p=none->Q (.ref p) (upd H1 p (.lst xs))
theorem de{x1}(h:PA X es t):PE X (.Tuple es x1 pos) (tTup t):=by
 intro Qi s σ H Q I hq;refine wpAny_Tuple_spliced (thn (h pos Qi s σ H _ I hq) fun us s1 ⟨xs,H1,I1,r,z,q⟩=>⟨by rw[← r.length];exact z,?_⟩);have hf:H1 s1.heap.objs.size=none:=I1.hok.fresh (QR _);refine⟨.ref s1.heap.objs.size,upd H1 s1.heap.objs.size (.tup xs),I1.laid (t':=s1.toks) (fun b u e=>QP _ e) (QR _) ?_,rfl,q _ hf⟩;exact⟨z,us,r,⟨_,Rm _ rfl,rfl,_,rfl⟩⟩
theorem aE(h:PA X es t):PE X (.List es pos) (tLst t):=by
 intro Qi s σ H Q I hq;refine wpAny_List_spliced (thn (h pos Qi s σ H _ I hq) fun us s1 ⟨xs,H1,I1,r,z,q⟩=>⟨by rw[← r.length];exact z,?_⟩);have hf:H1 s1.heap.objs.size=none:=I1.hok.fresh (QR _);refine⟨.ref s1.heap.objs.size,upd H1 s1.heap.objs.size (.lst xs),I1.laid (t':=s1.toks) (fun b u e=>QP _ e) (QR _) ?_,rfl,q _ hf⟩;exact⟨z,us,0,r,Rm _ rfl⟩
end
abbrev Sp:=List V->Hp->VK->XK->Prop
abbrev CXT:=List Env->Hp->Shared->XK->Value->Shared->Prop
structure Env0(P:Program)(w:World)(K:Frag)(mg:Str->Option Value)(base:Heap)(A:Around)(outer:List Env)(s:Shared)(H:Hp):Prop where
 frames:A.frames=some outer
 mod:Mod K mg base
 bs:∀ b o,base.get? b=some o->s.heap.get? b=some o/\H b=none
 bsz:base.objs.size<=s.heap.objs.size
 funs:s.heap.FunFrames base outer
 frf:∀ b∈frs outer,H b=none
 hok:HOk P w H s.heap
 bare:AllBare s.gens
def CE(outer:List Env)(P:Program)(w:World)(H:Hp)(s:Shared)(Q:VK)(u:Value)(s':Shared):Prop:=
 ∃ v H',s'.os=s.os/\AllBare s'.gens/\Un (frs outer) [] H H' s.heap s'.heap/\HOk P w H' s'.heap/\RelV v u/\Q v H'
def CR(CX:CXT)(outer:List Env)(P:Program)(w:World)(H:Hp)(s:Shared)(Q:VK)(E:XK)(r:Result)(s':Shared):Prop:=
 match r with
 | .ok (.ret u)=>CE outer P w H s Q u s'
 | .ok _=>False
 | .error e=>CX outer H s E e s'
structure FnOk(P:Program)(w:World)(K:Frag)(mg:Str->Option Value)(base:Heap)(CX:CXT)(k:Nat)(f:Addr)(fd:FuncData)(ps:List Str)(sp:Sp):Prop where
 len:∀ vs H Q E,sp vs H Q E->vs.length=ps.length
 run:∀(A:Around) (outer:List Env) (s:Shared) (H:Hp) (args:Args) (us:List Value) (vs:List V) (Q:VK) (E:XK),Room k A->Env0 P w K mg base A outer s H->BindsTo s fd args (ps.zip us)->Vals vs us->sp vs H Q E->
  codeAny (model P w) A (.call (.ref f) args) (CR CX outer P w H s Q E) s
variable{P:Program}{w:World}{K:Frag}{mg:Str->Option Value}{base:Heap}{CX:CXT}{f:Addr}{fd:FuncData}{ps:List Str}
theorem FnOk.mono{j k:Nat}{sp:Sp}(F:FnOk P w K mg base CX j f fd ps sp)(h:j<=k):
  FnOk P w K mg base CX k f fd ps sp:=⟨F.len,fun A outer s H args us vs Q E hr=>F.run A outer s H args us vs Q E (hr.mono h)⟩
theorem FnOk.imp {k:Nat} {sp sp':Sp} (F:FnOk P w K mg base CX k f fd ps sp)
  (h:∀ vs H Q E,sp' vs H Q E->sp vs H Q E):FnOk P w K mg base CX k f fd ps sp':=
 ⟨fun vs H Q E q=>F.len vs H Q E (h _ _ _ _ q),fun A outer s H args us vs Q E hr he hb hv hs=>F.run A outer s H args us vs Q E hr he hb hv (h _ _ _ _ hs)⟩
variable{outer:List Env}
theorem Env0.make{s:Shared}{H:Hp}(e:Env0 P w K mg base A outer s H)(C:Addr)(us:List Value)(kw:List (Str × Value)):
  Env0 P w K mg base (A.under (.builtin "type.__call__" ⟨.ref C::us,kw⟩)) outer s H:=⟨by first | exact e.frames | (simpa [Around.under,Code.envs,Code.isFrame,pushEnvs] using e.frames),e.mod,e.bs,e.bsz,e.funs,e.frf,e.hok,e.bare⟩
section
variable{X:Cx}{Qi:List (Addr × Obj)}{σ:St}{H:Hp}{s s':Shared}
theorem Inv.env0(I:Inv X Qi σ H s):Env0 X.prog X.w X.K X.mg X.base X.A X.stack s H:=
 ⟨I.ok.frames,I.ok.mod,I.bs,QG I.ok.bsz I.sz,I.stack,I.stkFree,I.hok,I.bare⟩
theorem Inv.after{Q:VK}{u:Value}(I:Inv X Qi σ H s)(h:CE X.stack X.prog X.w H s Q u s'):EP X Qi σ Q u s':=by
 obtain⟨v,H',os,bare,un,hok,r,q⟩:=h;obtain⟨hh,g,d,t,os'⟩:=s';obtain rfl:os'=s.os:=os;exact⟨v,H',I.call (h':=hh) (g':=g) (d':=d) (t':=t) (ch:=[]) un hok bare (fun b z=>absurd z (by simp)),r,q⟩
end
def tCall(sp:Sp)(dvs:List V)(E:XK)(t:TA):TE:=fun σ H Q=>t σ H fun vs H1=>sp (vs++dvs) H1 Q E
def tMake(C:Addr)(sp:Sp)(dvs:List V)(E:XK)(t:TA):TE:=fun σ H Q=>t σ H fun vs H1=>∀ x dx,H1 x=none->H1 dx=none->dx≠x->
 sp (.ref x::(vs++dvs)) (upd (upd H1 dx (.own x)) x (.ins C dx [])) (fun v H2=>v=.non/\Q (.ref x) H2) E
def Binds(K:Frag)(fd:FuncData)(ps:List Str)(ds:List Value):Prop:=
 ∀(s:Shared) (us:List Value),K.In s.heap->(us++ds).length=ps.length->BindsTo s fd ⟨us,[]⟩ (ps.zip (us++ds))
theorem Binds.all(h:∀ us:List Value,us.length=ps.length->bindArgs fd ⟨us,[]⟩=pure (ps.zip us)):Binds K fd ps []:=fun s us _ hl=>by
 rw[List.append_nil] at hl ⊢;exact .of_eq (h us hl)
def pD(CX:CXT)(X:Cx)(E:XK):Prop:=∀(Qi:List (Addr × Obj)) (σ:St) (H:Hp) (s:Shared) (e:Value) (s':Shared),Inv X Qi σ H s->CX X.stack H s E e s'->X.xe e s'
section
variable{X:Cx}{CX:CXT}{k:Nat}{f C:Addr}{fd:FuncData}{ps:List Str}{sp:Sp}{dvs:List V}{ds:List Value}{E:XK}{x m:Str}{p pos apos:Pos}{e o:Expr}{es:List Expr}{ta:TE}{t:TA}
theorem wx {Qi:List (Addr × Obj)} {σ:St} {H:Hp} {s:Shared} {Q:VK} {us:List Value} {vs:List V} (F:FnOk X.prog X.w X.K X.mg X.base CX k f fd ps sp) (hr:Room k X.A) (hb:Binds X.K fd ps ds) (hd:Vals dvs ds) (hx:pD CX X E)
  (I:Inv X Qi σ H s) (r:Vals vs us) (h:sp (vs++dvs) H Q E):wpAny (model X.prog X.w) X.A (call (.ref f) us) (EP X Qi σ Q) X.xe s:=by
 have r2:Vals (vs++dvs) (us++ds):=r.append hd;have hl:(us++ds).length=ps.length:=by rw[← r2.length];exact F.len _ _ _ _ h
 refine wpAny_call (T3 (F.run X.A X.stack s H ⟨us,[]⟩ (us++ds) (vs++dvs) Q E hr I.env0 (hb s us I.kIn hl) r2 h) fun r s' hq=>?_)
 cases r with
 | error e=>exact hx Qi σ H s e s' I hq
 | ok fl=>
  cases fl with
  | ret u=>exact I.after hq
  | next=>exact False.elim hq
  | brk=>exact False.elim hq
  | cont=>exact False.elim hq
theorem Cv (F:FnOk X.prog X.w X.K X.mg X.base CX k f fd ps sp) (hr:Room k X.A) (hg:Gl X x) (hm:X.mg x=some (.ref f)) (hk:keepIn X.K (.ref f)=true) (hb:Binds X.K fd ps ds) (hd:Vals dvs ds) (hx:pD CX X E)
  (ha:PA X (e::es) t) (hdb:(x==("__debug__":Str))=false:=by decide) (he:starEach (e::es) X.env=(false,eval e X.env)::starEach es X.env:=by rfl) (hpl:(backTo pos (starEach es X.env)).any (·.1)=false:=by rfl):
  PE X (.Call (.Name x p) (e::es) [] pos) (tCall sp dvs E t):=by
 intro Qi s σ H Q I h;refine RV (uw I hg hm ?_ hdb);refine Ta (h₀:=X.base) I.ok.mod.kin hk (thn (ha pos Qi s σ H _ I h) fun us s1 ⟨vs,H1,I1,r,q⟩=>⟨I1.kIn,?_⟩) he hpl;exact wx F hr hb hd hx I1 r q
structure Mk(K:Frag)(C f:Addr):Prop where
 makes:PySem.W.makesIn K C=true
 init:findIn K (.ref C) "__init__"=some (some (.ref f))
 fn:isFn K (.ref f)=true
 kp:keepIn K (.ref C)=true
theorem BD {Qi:List (Addr × Obj)} {σ:St} {H:Hp} {s:Shared} {Q:VK} {us:List Value} {vs:List V} (M:Mk X.K C f) (F:FnOk X.prog X.w X.K X.mg X.base CX k f fd ps sp) (hr:Room (k+1) X.A) (hb:Binds X.K fd ps ds) (hd:Vals dvs ds)
  (hx:pD CX X E) (I:Inv X Qi σ H s) (r:Vals vs us)
  (h:∀ x dx,H x=none->H dx=none->dx≠x->sp (.ref x::(vs++dvs)) (upd (upd H dx (.own x)) x (.ins C dx [])) (fun v H2=>v=.non/\Q (.ref x) H2) E):
  wpAny (model X.prog X.w) X.A (call (.ref C) us) (EP X Qi σ Q) X.xe s:=by
 have hq:=h (s.heap.objs.size+1) s.heap.objs.size (I.hok.fresh (SS _)) (I.hok.fresh (QR _)) (Rt (SH _));have I2:=Inv.made (C:=C) I;have r2:Vals (V.ref (s.heap.objs.size+1)::(vs++dvs)) (Value.ref (s.heap.objs.size+1)::(us++ds)):=.cons rfl (r.append hd)
 have hl:(Value.ref (s.heap.objs.size+1)::us++ds).length=ps.length:=by
  have e:=r2.length;rw[F.len _ _ _ _ hq] at e;exact e.symm
 refine wpAny_call (BC (f:=f) I.kIn M.makes M.init (Sk.mp M.fn) (T3 (F.run _ X.stack _ _ ⟨Value.ref (s.heap.objs.size+1)::us,[]⟩ (Value.ref (s.heap.objs.size+1)::(us++ds)) _ _ E (hr.make C us [])
  (I2.env0.make C us []) (hb _ (Value.ref (s.heap.objs.size+1)::us) I2.kIn hl) r2 hq) fun r s' hq'=>?_))
 cases r with
 | error e=>exact hx Qi σ _ _ e s' I2 hq'
 | ok fl=>
  cases fl with
  | ret u=>
   obtain⟨v,H',I3,rv,ev,q3⟩:=I2.after hq';subst ev;exact⟨rv,⟨V.ref (s.heap.objs.size+1),H',I3,rfl,q3⟩⟩
  | next=>exact False.elim hq'
  | brk=>exact False.elim hq'
  | cont=>exact False.elim hq'
theorem Cw (M:Mk X.K C f) (F:FnOk X.prog X.w X.K X.mg X.base CX k f fd ps sp) (hr:Room (k+1) X.A) (hg:Gl X x) (hm:X.mg x=some (.ref C)) (hb:Binds X.K fd ps ds) (hd:Vals dvs ds) (hx:pD CX X E)
  (ha:PA X (e::es) t) (hdb:(x==("__debug__":Str))=false:=by decide) (he:starEach (e::es) X.env=(false,eval e X.env)::starEach es X.env:=by rfl) (hpl:(backTo pos (starEach es X.env)).any (·.1)=false:=by rfl):
  PE X (.Call (.Name x p) (e::es) [] pos) (tMake C sp dvs E t):=by
 intro Qi s σ H Q I h;refine RV (uw I hg hm ?_ hdb);refine Ta (h₀:=X.base) I.ok.mod.kin M.kp (thn (ha pos Qi s σ H _ I h) fun us s1 ⟨vs,H1,I1,r,q⟩=>⟨I1.kIn,?_⟩) he hpl;exact BD M F hr hb hd hx I1 r q
end
section
variable{X:Cx}{CX:CXT}{k:Nat}{f C:Addr}{fd:FuncData}{ps ks:List Str}{sp:Sp}{E:XK}{x m:Str}{p pos apos kpos:Pos}{e o:Expr}{es:List Expr}{kws:List Keyword}{te ta:TE}{t tk:TA}{nm:Option Str}
variable{g:List Value->List Value->List Value}{gV:List V->List V->List V}
end
structure ak(N P:List Str)(sc:Scope):Prop where
 kind:sc.kind=.function
 co:sc.isCoroutine=false
 gen:sc.isGenerator=false
 nd:N.Nodup
 pre:N.take P.length=P
 par:∀ x∈P,sc.names.lookup x=some .local\/sc.names.lookup x=some .cell
 nofree:∀ y∈sc.names,y.2≠.free
theorem vj{kindOf:Str->Option NameKind}{x:Str}:∀{binds:List (Str × Value)} {m:Str->Option Value},(∀ v,(x,v)∉binds)->bindL kindOf binds m x=m x
 | [],_,_=>rfl
 | (n,v)::r,m,h=>by
  unfold bindL;rw[vj fun w hw=>h w (QH _ hw)]
  split
  . have:x≠n:=by rintro rfl;exact h v QK
    simp[this]
  . rfl
theorem vk{kindOf:Str->Option NameKind}{x:Str}:∀{binds:List (Str × Value)} {m:Str->Option Value},(∀ v,(x,v)∉binds)->bindC kindOf binds m x=m x
 | [],_,_=>rfl
 | (n,v)::r,m,h=>by
  unfold bindC;rw[vk fun w hw=>h w (QH _ hw)]
  split
  . rfl
  . have:x≠n:=by rintro rfl;exact h v QK
    simp[this]
theorem vm{kindOf:Str->Option NameKind}{x:Str}{v:Value}:∀{P:List Str} {vs:List Value} {i:Nat} {m:Str->Option Value},P.Nodup->P[i]? =some x->vs[i]? =some v->kindOf x=some .local->
  bindL kindOf (P.zip vs) m x=some v
 | [],_,_,_,_,h,_,_=>by simp at h
 | _::_,[],_,_,_,_,h,_=>by simp at h
 | p::P,w::vs,0,m,nd,h1,h2,hk=>by
  simp at h1 h2;subst h1;subst h2;show bindL kindOf ((p,w)::P.zip vs) m p=_;unfold bindL;rw[vj fun v hv=>(RA.mp nd).1 (TJ hv).1,Q6 hk];simp
 | p::P,w::vs,i+1,m,nd,h1,h2,hk=>by
  show bindL kindOf ((p,w)::P.zip vs) m x=_;unfold bindL;exact vm (i:=i) (RA.mp nd).2 (by simpa using h1) (by simpa using h2) hk
theorem vn{kindOf:Str->Option NameKind}{x:Str}{v:Value}:∀{P:List Str} {vs:List Value} {i:Nat} {m:Str->Option Value},P.Nodup->P[i]? =some x->vs[i]? =some v->kindOf x≠some .local->
  bindC kindOf (P.zip vs) m x=some v
 | [],_,_,_,_,h,_,_=>by simp at h
 | _::_,[],_,_,_,_,h,_=>by simp at h
 | p::P,w::vs,0,m,nd,h1,h2,hk=>by
  simp at h1 h2;subst h1;subst h2;show bindC kindOf ((p,w)::P.zip vs) m p=_;unfold bindC;rw[vk fun v hv=>(RA.mp nd).1 (TJ hv).1,QT hk];simp
 | p::P,w::vs,i+1,m,nd,h1,h2,hk=>by
  show bindC kindOf ((p,w)::P.zip vs) m x=_;unfold bindC;exact vn (i:=i) (RA.mp nd).2 (by simpa using h1) (by simpa using h2) hk
def start(N:List Str)(vs:List V):St:=vs.map some++List.replicate (N.length-vs.length) none
def cxOf(CX:CXT)(P:Program)(w:World)(K:Frag)(mg:Str->Option Value)(base:Heap)(N:List Str)(qual:Str)(scope:Scope)(f:Addr)(cd:Value)(A:Around)(outer:List Env)(s:Shared)(H:Hp)(E:XK):Cx where
 prog:=P
 w:=w
 K:=K
 mg:=mg
 base:=base
 A:=A.deeper (envOfC qual scope s.heap.objs.size f cd)
 N:=N
 s₀:=s
 H₀:=H
 env:=envOfC qual scope s.heap.objs.size f cd
 outer:=outer
 stack:=envOfC qual scope s.heap.objs.size f cd::outer
 ex:=[]
 calm:=true
 fn:=fun _=>true
 pn:=[]
 xe:=fun e s'=>wpAny (model P w) (A.deeper (envOfC qual scope s.heap.objs.size f cd)) (leaving (envOfC qual scope s.heap.objs.size f cd) e) (fun _ s''=>CX outer H s E e s'') (fun e' s''=>CX outer H s E e' s'') s'
theorem or{sc:Scope}{n:Nat}{x:Str}(h:sc.names.lookup x=some .cell):∃ c,(cellsFrom n sc.names []).lookup x=some c:=by
 have q:=Tx sc.names n [] (.inl h);exact Option.isSome_iff_exists.mp q
variable{scope:Scope}
theorem Am {N:List Str} {qual:Str} {cd:Value} {s s1:Shared} {H:Hp} {E:XK} {vs:List V}
  (S:ak N ps scope) (hd:A.handled=none) (e0:Env0 P w K mg base A outer s H) (hl:vs.length=ps.length) (r:Vals vs us)
  (x:InCallC s s.heap.objs.size (bindL (envOfC qual scope s.heap.objs.size f cd).kindOf (ps.zip us) fun _=>none) (cellsFrom (s.heap.objs.size+1) scope.names []) (bindC (envOfC qual scope s.heap.objs.size f cd).kindOf (ps.zip us) fun _=>none) s1):
  Inv (cxOf CX P w K mg base N qual scope f cd A outer s H E) [] (start N vs) H s1:=by
 have hpl:ps.length<=N.length:=by have:=congrArg List.length S.pre;rw[RE] at this;omega
 obtain⟨h1,tk,rfl,hk⟩:=x.done;have noA:∀ b:Addr,b∉(cxOf CX P w K mg base N qual scope f cd A outer s H E).ex:=fun b z=>absurd (show b∈([]:List Addr) from z) (by simp)
 refine⟨⟨e0.mod,S.kind,rfl,rfl,QR _,fun y z c h1 h2=>?_,fun y hy=>?_,fun y c _ h=>?_,fun _=>hd,Around.frames_deeper e0.frames,.inr ⟨rfl,rfl⟩,fun b z=>absurd z (noA b),e0.bs,e0.bsz,fun b _ _=>noA b,fun b z=>absurd z (noA b),e0.funs,e0.frf⟩,
  rfl,e0.bare,Un.kept hk,⟨_,x.toInCall.ns,fun i y v h1 h2 h3=>?_⟩,fun y c h=>⟨_,x.cell y c h⟩,e0.hok.fresh (QR _),fun y c h=>?_,fun p hp=>absurd (show p∈([]:List (Addr × Obj)) from hp) (by simp),e0.hok.kept hk,?_⟩
 . exact name_of_addr x.apart (RF h1) (RF h2)
 . have hy:scope.names.lookup y=some .cell\/scope.names.lookup y=some .free:=hy;rcases hy with hy | hy
   . exact or hy
   . exact absurd rfl (S.nofree _ (RF hy))
 . exact Rf (x.above y c (RF h))
 . have hi:i<vs.length:=by
    unfold start at h2;by_cases hi:i<vs.length
    . exact hi
    . rw[Rs (by simpa using hi)] at h2;rw[List.getElem?_replicate] at h2
      split at h2 <;> cases h2
   have ha:vs[i]? =some v:=by
    unfold start at h2;rw[Rh (by simpa using hi),QD] at h2
    cases e:vs[i]? with
    | none=>rw[e] at h2;cases h2
    | some a=>rw[e] at h2;cases h2;rfl
   obtain⟨u,hu,rv⟩:=r.get ha
   have hp:ps[i]? =some y:=by
    rw[← S.pre,List.getElem?_take_of_lt (by omega)];exact h1
   have ndP:ps.Nodup:=by rw[← S.pre];exact S.nd.sublist (Sx _ _)
   refine⟨u,rv,?_⟩;rcases S.par y (QC hp) with k | k
   . exact .inl ⟨k,vm ndP hp hu k⟩
   . obtain⟨c,e⟩:=or (n:=s.heap.objs.size+1) k;refine .inr ⟨.inl k,c,e,?_⟩;have q:=x.cell y c e;rw[vn ndP hp hu (by show scope.names.lookup y≠_;rw[k];decide)] at q;exact q
 . exact e0.hok.fresh (Rf (x.above y c (RF h)))
 . unfold start;show _=N.length;rw[Q8,Qu,List.length_replicate];omega
theorem EA {k:Nat} {name qual:Str} {params:Arguments} {body:List Stmt} {dV kV doc pm Qk ct oc:Value} {an od:Option Addr}
  {osl:Array (Option Value)} {N ps:List Str} {sp:Sp} (lk:K.lookup f=some ⟨oc,od,.func (fnOf name qual params body scope dV kV doc pm an Qk ct),osl⟩) (hcd:codeIn K Qk qual=true) (S:ak N ps scope)
  (len:∀ vs H Q E,sp vs H Q E->vs.length=ps.length)
  (hbody:∀(A:Around) (outer:List Env) (s:Shared) (H:Hp) (vs:List V) (Q:VK) (E:XK),Room k (A.deeper (envOfC qual scope s.heap.objs.size f Qk))->sp vs H Q E->
   ∃ t,PSs (cxOf CX P w K mg base N qual scope f Qk A outer s H E) body t/\t {nx:=fun _ H'=>Q .non H',rt:=Q} (start N vs) H):
  FnOk P w K mg base CX (k+1) f (fnOf name qual params body scope dV kV doc pm an Qk ct) ps sp:=by
 refine⟨len,fun A outer s H args us vs Q E hr e0 hb r hsp=>?_⟩;have hl:=len _ _ _ _ hsp;have KX:K.In s.heap:=e0.mod.kin.keeps fun b o e=>(e0.bs b o e).1;have lim:s.heap.NoLimit:=e0.mod.nolimit.keeps fun b o e=>(e0.bs b o e).1
 have hkind:∀ y∈ps.zip us,scope.names.lookup y.1=some .local\/(scope.names.lookup y.1=some .cell/\((cellsFrom (s.heap.objs.size+1) scope.names []).lookup y.1).isSome=true):=fun⟨n,v⟩ hy=>by
  rcases S.par n (TJ hy).1 with q | q
  . exact .inl q
  . exact .inr ⟨q,Tx _ _ _ (.inl q)⟩
 refine codeAny_call_function hr.depth (KX _ _ lk) rfl S.co S.gen rfl (PySem.W.codeRec_of KX hcd) (hb _ _ _ _ ?_);refine wpAny_newFunctionEnv_cells S.kind hkind fun env he s1 x=>?_;subst he;refine⟨lim.keeps x.toInCall.keep,codeAny_func ?_⟩;obtain⟨t,ht,hq⟩:=hbody A outer s H vs Q E (hr.deeper _) hsp;have I:Inv (cxOf CX P w K mg base N qual scope f Qk A outer s H E) [] (start N vs) H s1:=Am S hr.hd e0 hl r x;refine RJ (ht [] s1 (start N vs) H _ I hq) (fun fl s' hs=>?_) fun e s' hs=>hs
 have fin:∀{σ':St} {H':Hp} {v:V} {u:Value},Inv (cxOf CX P w K mg base N qual scope f Qk A outer s H E) [] σ' H' s'->RelV v u->Q v H'->CE outer P w H s Q u s':=
  fun{σ' H' v u} J rv q=>⟨v,H',J.os,J.bare,J.base,J.hok,rv,q⟩
 cases fl with
 | ret u=>
  obtain⟨v,σ',H',J,rv,q⟩:=hs;exact fin J rv q
 | next=>
  obtain⟨σ',H',J,q⟩:=hs;exact fin (v:=V.non) (u:=Value.none) J rfl q
 | brk=>
  obtain⟨_,_,_,q⟩:=hs;exact False.elim q
 | cont=>
  obtain⟨_,_,_,q⟩:=hs;exact False.elim q
section
variable{X:Cx}{x:Str}{p pos:Pos}{e:Expr}{es:List Expr}{t:TA}{id T:String}{r:List V->Hp->VK->Prop}
def tCB(r:List V->Hp->VK->Prop)(t:TA):TE:=fun σ H Q=>t σ H fun vs H1=>r vs H1 Q
theorem au (hc:CallR X (.builtin id) r) (hg:Gl X x) (hm:X.mg x=none) (hv:bootBuiltins x=some (.builtin id)) (ha:PA X (e::es) t) (hn:x≠"__name__":=by decide) (hdb:(x==("__debug__":Str))=false:=by decide)
  (he:starEach (e::es) X.env=(false,eval e X.env)::starEach es X.env:=by rfl) (hpl:(backTo pos (starEach es X.env)).any (·.1)=false:=by rfl):PE X (.Call (.Name x p) (e::es) [] pos) (tCB r t):=by
 intro Qi s σ H Q I h;refine RV (hX I hg hm hv ?_ hn hdb);exact SI (thn (ha pos Qi s σ H _ I h) fun us s1 ⟨vs,H1,I1,r1,q1⟩=>hc Qi s1 σ H1 vs us Q I1 r1 q1) he hpl
theorem bG (hc:CallR X (.type T) r) (hg:Gl X x) (hm:X.mg x=none) (hv:bootBuiltins x=some (.type T)) (ha:PA X (e::es) t) (hn:x≠"__name__":=by decide) (hdb:(x==("__debug__":Str))=false:=by decide)
  (he:starEach (e::es) X.env=(false,eval e X.env)::starEach es X.env:=by rfl) (hpl:(backTo pos (starEach es X.env)).any (·.1)=false:=by rfl):PE X (.Call (.Name x p) (e::es) [] pos) (tCB r t):=by
 intro Qi s σ H Q I h;refine RV (hX I hg hm hv ?_ hn hdb);exact Rz (thn (ha pos Qi s σ H _ I h) fun us s1 ⟨vs,H1,I1,r1,q1⟩=>hc Qi s1 σ H1 vs us Q I1 r1 q1) he hpl
end
end L2
namespace HT
open PySem PyProof.Rows
section
open PySem.SeqAt
open PySem.AutoSeq1 (wpAny_loadPart')
open PySem.MeetsSeq PySem.MeetsSeq2 PySem.MeetsSeq3
end
section
variable{prog:Program}{w:World}{A:Around}{E:Value->Shared->Prop}{s:Shared}
def sIx(n d:Nat):Option Int->Nat
 | none=>d
 | some v=>if v<0 then(v+(n:Int)).toNat else min v.toNat n
theorem sIx_nat(n d k:Nat):sIx n d (some (k:Int))=min k n:=by
 show(if (k:Int)<0 then((k:Int)+(n:Int)).toNat else min (k:Int).toNat n)=min k n;rw[if_neg (by omega),Int.toNat_natCast]
end
end HT
namespace L2
open PySem PySem.Spec PyProof.Rows
abbrev TO:=St->Hp->(Option Int->Hp->Prop)->Prop
def PO(X:Cx)(e:Option Expr)(t:TO):Prop:=
 ∀(Qi:List (Addr × Obj)) (s:Shared) (σ:St) (H:Hp) (Q:Option Int->Hp->Prop),Inv X Qi σ H s->t σ H Q->
  wpAny (model X.prog X.w) X.A (evalPart e X.env) (fun u s'=>∃ o H',Inv X Qi σ H' s'/\IsPart u o/\Q o H') X.xe s
def gH:TO:=fun _ H Q=>Q none H
def tPart(t:TE):TO:=fun σ H Q=>t σ H fun x H1=>∃ i,x=.int i/\Q (some i) H1
theorem sG{ns:List Int}:∀{us:List Value},Vals (ns.map V.int) us->IntsAre us ns:=by
 induction ns with
 | nil=>intro us r;rw[List.map_nil] at r;cases r;exact .nil
 | cons n ns ih=>
  intro us r;rw[Rc] at r
  cases r with
  | cons r1 r2=>
   obtain⟨t,e⟩:=r1;subst e;exact .cons n t (ih r2)
section
variable{X:Cx}{e:Expr}{te:TE}{lo hi:Option Expr}{tl th:TO}{pos p2:Pos}
theorem l6:PO X none gH:=by
 intro Qi s σ H Q I h;rw[evalPart_none];exact Ru ⟨none,H,I,.none,h⟩
theorem fH(h:PE X e te):PO X (some e) (tPart te):=by
 intro Qi s σ H Q I hw;rw[evalPart_some];refine thn (h Qi s σ H _ I hw) fun u s1 ⟨x,H1,I1,r1,q1⟩=>?_;obtain⟨i,rfl,q⟩:=q1;obtain⟨t,rfl⟩:=r1;exact⟨some i,H1,I1,.int i t,q⟩
def SlR(X:Cx)(r:V->Option Int->Option Int->Hp->VK->Prop):Prop:=
 ∀(Qi:List (Addr × Obj)) (s:Shared) (σ:St) (H:Hp) (x:V) (v vl vu:Value) (lo hi:Option Int) (sl:Addr) (Q:VK),Inv X Qi σ H s->RelV x v->s.heap.IsSliceOf sl vl vu .none->IsPart vl lo->IsPart vu hi->r x lo hi H Q->
  ∃ T id,typeLookup (.type T) "__getitem__"=pure (some (.builtin id))/\s.TypeIs v T/\wpAny (model X.prog X.w) X.A (getItem v (.ref sl)) (EP X Qi σ Q) X.xe s
def tSl(r:V->Option Int->Option Int->Hp->VK->Prop)(te:TE)(tl th:TO):TE:=fun σ H Q=>te σ H fun x H1=>tl σ H1 fun l H2=>th σ H2 fun u H3=>r x l u H3 Q
theorem ge{r:V->Option Int->Option Int->Hp->VK->Prop}(hr:SlR X r)(he:PE X e te)(hl:PO X lo tl)(hu:PO X hi th):PE X (.Subscript e (.Slice lo hi none p2) pos) (tSl r te tl th):=by
 intro Qi s σ H Q I h;refine Subscript_ (thn (he Qi s σ H _ I h) fun v s1 ⟨x,H1,I1,r1,q1⟩=>?_);refine wpAny_Slice (thn (hl Qi s1 σ H1 _ I1 q1) fun vl s2 ⟨l,H2,I2,pl,q2⟩=>thn (hu Qi s2 σ H2 _ I2 q2) fun vu s3 ⟨u,H3,I3,pu,q3⟩=>?_);rw[evalPart_none];refine Ru ?_;have I4:Inv X Qi σ H3 {s3 with heap:=s3.heap.push {cls:=.type "slice",data:=.fields #[vl,vu,.none]}}:=I3.kept (t':=s3.toks) fun b ob q=>QP _ q;obtain⟨T,id,hT,ht,hg⟩:=hr Qi {s3 with heap:=s3.heap.push {cls:=.type "slice",data:=.fields #[vl,vu,.none]}} σ H3 x v vl vu l u s3.heap.objs.size Q I4 r1 (Heap.IsSliceOf.new ..) pl pu q3;show wpAny (model X.prog X.w) X.A (subscriptTail e (.Slice lo hi none p2) v (.ref s3.heap.objs.size)) (EP X Qi σ Q) X.xe {s3 with heap:=s3.heap.push {cls:=.type "slice",data:=.fields #[vl,vu,.none]}};exact tail_any (ops:=[.ref s3.heap.objs.size,v]) ht hT hg (by with_unfolding_all rfl)
def cutV(xs:List V)(lo hi:Option Int):List V:=(xs.drop (HT.sIx xs.length 0 lo)).take (HT.sIx xs.length xs.length hi-HT.sIx xs.length 0 lo)
theorem x8(xs:List V)(lo hi:Option Int):(cutV xs lo hi).length<=xs.length:=by
 unfold cutV;rw[RE,List.length_drop];omega
end
def ixN(n:Nat)(i:Int):Option Nat:=if 0<=i then(if i<n then some i.toNat else none) else if -(n:Int)<=i then some (i+n).toNat else none
def atI{α:Type}(xs:List α)(i:Int):Option α:=(ixN xs.length i).bind fun j=>xs[j]?
theorem Cz{n:Nat}{i:Int}{j:Nat}(h:ixN n i=some j):seqIndex? i n=some j/\j<n/\ -(n:Int)<=i/\i<n:=by
 unfold ixN at h;by_cases h0:0<=i
 . rw[Q6 h0] at h;by_cases h1:i<n
   . rw[Q6 h1] at h;have e:i.toNat=j:=RU h;exact⟨by rw[seqIndex_of h0 h1,e],by omega,by omega,h1⟩
   . rw[QT h1] at h;cases h
 . rw[QT h0] at h;by_cases h1: -(n:Int)<=i
   . rw[Q6 h1] at h;have e:(i+n).toNat=j:=RU h;exact⟨by rw[seqIndex_neg (by omega) h1,e],by omega,h1,by omega⟩
   . rw[QT h1] at h;cases h
theorem ux{α:Type}{xs:List α}{i:Int}{v:α}(h:atI xs i=some v):∃ j,seqIndex? i xs.length=some j/\xs[j]? =some v/\j<xs.length/\ -(xs.length:Int)<=i/\i<xs.length:=by
 unfold atI at h
 cases e:ixN xs.length i with
 | none=>rw[e] at h;cases h
 | some j=>
  rw[e] at h;obtain⟨h1,h2,h3,h4⟩:=Cz e;exact⟨j,h1,h,h2,h3,h4⟩
theorem dI{α:Type}{xs:List α}{j:Nat}{v:α}(h:xs[j]? =some v):atI xs (j:Int)=some v:=by
 have hj:j<xs.length:=(Qz.mp h).1
 have e:ixN xs.length (j:Int)=some j:=by
  unfold ixN;rw[Q6 (by omega),Q6 (by omega)];simp
 unfold atI;rw[e];exact h
def uy(b:Expr):Prop:=∀ o i,subscripted b false o i=operate [o,i] (getItem o i)
def IxR(X:Cx)(r:R2):Prop:=
 ∀(value slice:Expr) (Qi:List (Addr × Obj)) (s:Shared) (σ:St) (H:Hp) (x y:V) (v u:Value) (Q:VK),Inv X Qi σ H s->RelV x v->RelV y u->r x y H Q->
  subscripted slice false v u=operate [v,u] (getItem v u)->wpAny (model X.prog X.w) X.A (subscriptTail value slice v u) (EP X Qi σ Q) X.xe s
def MtR(X:Cx)(id:String)(r:V->List V->Hp->VK->Prop):Prop:=
 ∀(Qi:List (Addr × Obj)) (s:Shared) (σ:St) (H:Hp) (x:V) (xs:List V) (v:Value) (us:List Value) (Q:VK),Inv X Qi σ H s->RelV x v->Vals xs us->r x xs H Q->
  wpAny (model X.prog X.w) X.A (call (.builtin id) (v::us)) (EP X Qi σ Q) X.xe s
section
variable{X:Cx}{a b:Expr}{ta tb:TE}{pos:Pos}
theorem sH{r:R2}(hr:IxR X r)(ha:PE X a ta)(hb:PE X b tb)(hs:uy b):PE X (.Subscript a b pos) (tOp r ta tb):=by
 intro Qi s σ H Q I h;exact Subscript_ (binT ha hb I h fun v u s2 x y H2 I2 rx ry q=>hr a b Qi s2 σ H2 x y v u Q I2 rx ry q (hs _ _))
def rIxL(K:Frag):R2:=fun x y H Q=>∃ p xs i v,x=.ref p/\y=.int i/\SqL K H p xs/\atI xs i=some v/\Q v H
def rIxT(K:Frag):R2:=fun x y H Q=>∃ p xs i v,x=.ref p/\y=.int i/\SqT K H p xs/\atI xs i=some v/\Q v H
def rIxS:R2:=fun x y H Q=>∃ z i c,x=.str z/\y=.int i/\z.length<=sizeLine/\atI z.cps.toList i=some c/\Q (.str ⟨#[c]⟩) H
theorem yK:IxR X (rIxL X.K):=by
 intro value slice Qi s σ H x y v u Q I rx ry h hs;obtain⟨p,xs,i,z,rfl,rfl,hq,he,q⟩:=h;cases rx;obtain⟨t,rfl⟩:=ry;obtain⟨Qm,r,pl,hz⟩:=I.list hq;obtain⟨j,h1,h2,h3,h4,h5⟩:=ux he;obtain⟨w,ew,rw'⟩:=r.get h2;have hl:=r.length;have hn:=pB;have fin:EP X Qi σ Q w s:=⟨z,H,I,rw',q⟩;by_cases h0:0<=i
 . have hj:i.toNat=j:=by
    rw[seqIndex_of h0 h5] at h1;exact RU h1
   exact item_listR pl.isList h0 (by omega) (by rw[hj];simpa using ew) fin hs
 . have hj:(i+(Qm.toArray.size:Int)).toNat=j:=by
    rw[seqIndex_neg (by omega) h4] at h1;rw[QN,← hl];exact RU h1
   exact Ty (x:=w) pl.isList.typeIs slot_list_getitem.lookup
    (wpAny_getItem_list_neg (Q:=fun r s'=>r=w/\EP X Qi σ Q r s') pl.isList (by omega) (by rw[QN] <;> omega) (by omega) (by rw[hj];simpa using ew) ⟨rfl,fin⟩) hs
theorem An:IxR X (rIxT X.K):=by
 intro value slice Qi s σ H x y v u Q I rx ry h hs;obtain⟨p,xs,i,z,rfl,rfl,hq,he,q⟩:=h;cases rx;obtain⟨t,rfl⟩:=ry;obtain⟨Qm,r,pl,hz⟩:=I.tuple hq;obtain⟨j,h1,h2,h3,h4,h5⟩:=ux he;obtain⟨w,ew,rw'⟩:=r.get h2;have hl:=r.length;have hn:=pB;have fin:EP X Qi σ Q w s:=⟨z,H,I,rw',q⟩
 exact Ty (x:=w) pl.typeIs slot_tuple_getitem.lookup
  (getItem_tuple (j:=j) (Q:=fun r s'=>r=w/\EP X Qi σ Q r s') pl (by omega) (by omega) (by rw[QN,← hl];exact h1) (by simpa using ew) ⟨rfl,fin⟩) hs
theorem Dz:IxR X rIxS:=by
 intro value slice Qi s σ H x y v u Q I rx ry h hs;obtain⟨z,i,c,rfl,rfl,hz,he,q⟩:=h;obtain⟨t,rfl⟩:=rx;obtain⟨t',rfl⟩:=ry;obtain⟨j,h1,h2,h3,h4,h5⟩:=ux he;have hl:z.cps.toList.length=z.length:=by simp[Str.length]
 rw[hl] at h1 h4 h5;have hn:=pB
 exact tail_any (SJ s z t) slot_str_getitem.lookup (getItem_str (c:=c) (by
  have e1:decide (i < -(2^63:Int))=false:=Qx (by omega);have e2:decide (i ≥ 2^63)=false:=Qx (by omega);rw[e1,e2,Bool.or_false]) (by rw[h1];simpa using h2) ⟨.str ⟨#[c]⟩,H,I.tok _,⟨_,rfl⟩,q⟩) hs
theorem Inv.lst{Qi:List (Addr × Obj)}{σ:St}{H:Hp}{s:Shared}{p:Addr}{xs:List V}(I:Inv X Qi σ H s)(h:H p=some (.lst xs)):
  ∃(Qm:List Value) (n:Nat),Vals xs Qm/\s.heap.get? p=some {cls:=.type "list",data:=.seq Qm.toArray n}/\xs.length<=sizeLine:=by
 obtain⟨z,Qm,n,r,e⟩:=I.hok p _ h;exact⟨Qm,n,r,e,z⟩
theorem wy(lo hi:Option Int)(n:Nat):(sliceBounds lo hi none n).1=((HT.sIx n 0 lo:Nat):Int)/\(sliceBounds lo hi none n).2.1=((HT.sIx n n hi:Nat):Int)/\(sliceBounds lo hi none n).2.2=1:=by
 refine⟨?_,?_,rfl⟩
 . cases lo with
   | none=>simp[sliceBounds,HT.sIx]
   | some i=>
    simp only[sliceBounds,HT.sIx,Option.getD_none,show(1:Int)>0 by decide,T4];by_cases h:i<0
    . simp only[h,T4] <;> omega
    . simp only[h,if_false] <;> omega
 . cases hi with
   | none=>simp[sliceBounds,HT.sIx]
   | some i=>
    simp only[sliceBounds,HT.sIx,Option.getD_none,show(1:Int)>0 by decide,T4];by_cases h:i<0
    . simp only[h,T4] <;> omega
    . simp only[h,if_false] <;> omega
theorem vG(Qm:List Value)(lo hi:Option Int):slicePick Qm.toArray lo hi none=((Qm.drop (HT.sIx Qm.length 0 lo)).take (HT.sIx Qm.length Qm.length hi-HT.sIx Qm.length 0 lo)).toArray:=by
 obtain⟨h1,h2,h3⟩:=wy lo hi Qm.toArray.size;unfold slicePick;rw[h1,h2,h3];simp only[sliceRange_one,pick_run,QN] <;> rfl
def rSlL(K:Frag):V->Option Int->Option Int->Hp->VK->Prop:=fun x lo hi H Q=>∃ a xs,x=.ref a/\SqL K H a xs/\∀ p,H p=none->Q (.ref p) (upd H p (.lst (cutV xs lo hi)))
theorem CA:SlR X (rSlL X.K):=by
 intro Qi s σ H x v vl vu lo hi sl Q I rx hs pl pu h;obtain⟨a,xs,rfl,hx,q⟩:=h;cases rx;obtain⟨Qm,r,ht,hz⟩:=I.list hx;have Qq:=r.length;refine⟨"list",_,slot_list_getitem.lookup,ht.isList.typeIs,?_⟩;refine wpAny_getItem_list_slice ht.isList hs pl pu .none (by simp) ?_ (by rw[QN] <;> omega);rw[vG,← Qq];refine⟨.ref s.heap.objs.size,_,I.laid (t':=s.toks) (o:=.lst (cutV xs lo hi)) (fun b ob q=>QP _ q) (QR _) ?_,rfl,q _ (I.hok.fresh (QR _))⟩;exact⟨QG (x8 xs lo hi) hz,_,0,(r.drop (HT.sIx xs.length 0 lo)).take (HT.sIx xs.length xs.length hi-HT.sIx xs.length 0 lo),Rm _ rfl⟩
def flatV:V->Bool
 | .non=>true
 | .bl _=>true
 | .int _=>true
 | .str _=>true
 | _=>false
def eqV:V->V->Bool
 | .non,.non=>true
 | .bl a,.bl b=>a==b
 | .bl a,.int b=>(if a then 1 else 0)==b
 | .int a,.bl b=>a==(if b then 1 else 0)
 | .int a,.int b=>a==b
 | .str a,.str b=>a==b
 | _,_=>false
theorem DA{A:Around}{s:Shared}{y x:V}{u v:Value}(ry:RelV y u)(rx:RelV x v)(fy:flatV y=true)(fx:flatV x=true):SeqAt.EqAt A s u v (eqV y x):=by
 cases y with
 | non=>
  cases ry
  cases x with
  | non=>cases rx;exact SeqAt.EqAt.same _
  | bl b=>cases rx;exact SeqAt.EqAt.none_bool b
  | int b=>obtain⟨t,rfl⟩:=rx;exact SeqAt.EqAt.none_int b t
  | str b=>obtain⟨t,rfl⟩:=rx;exact SeqAt.EqAt.none_str b t
  | _=>exact absurd (show false=true from fx) Qt
 | bl a=>
  cases ry
  cases x with
  | non=>cases rx;exact SeqAt.EqAt.bool_none a
  | bl b=>cases rx;exact SeqAt.EqAt.bool_bool a b
  | int b=>obtain⟨t,rfl⟩:=rx;exact SeqAt.EqAt.bool_int a b t
  | str b=>obtain⟨t,rfl⟩:=rx;exact SeqAt.EqAt.bool_str a b t
  | _=>exact absurd (show false=true from fx) Qt
 | int a=>
  obtain⟨t',rfl⟩:=ry
  cases x with
  | non=>cases rx;exact SeqAt.EqAt.int_none a t'
  | bl b=>cases rx;exact SeqAt.EqAt.int_bool a t' b
  | int b=>obtain⟨t,rfl⟩:=rx;exact SeqAt.EqAt.int_int a t' b t
  | str b=>obtain⟨t,rfl⟩:=rx;exact SeqAt.EqAt.int_str a t' b t
  | _=>exact absurd (show false=true from fx) Qt
 | str a=>
  obtain⟨t',rfl⟩:=ry
  cases x with
  | non=>cases rx;exact SeqAt.EqAt.str_none a t'
  | bl b=>cases rx;exact SeqAt.EqAt.str_bool a t' b
  | int b=>obtain⟨t,rfl⟩:=rx;exact SeqAt.EqAt.str_int a t' b t
  | str b=>obtain⟨t,rfl⟩:=rx;exact SeqAt.EqAt.str_str a t' b t
  | _=>exact absurd (show false=true from fx) Qt
 | _=>exact absurd (show false=true from fy) Qt
def eqU(x:V)(u:Value):Bool:=match u with
 | .none=>eqV .non x
 | .bool b=>eqV (.bl b) x
 | .int i _=>eqV (.int i) x
 | .str z _=>eqV (.str z) x
 | _=>false
theorem Ao{x y:V}{u:Value}(r:RelV y u)(f:flatV y=true):eqU x u=eqV y x:=by
 cases y with
 | non=>cases r;rfl
 | bl b=>cases r;rfl
 | int i=>obtain⟨t,rfl⟩:=r;rfl
 | str z=>obtain⟨t,rfl⟩:=r;rfl
 | _=>exact absurd (show false=true from f) Qt
theorem oi{x:V}:∀{xs:List V} {us:List Value},Vals xs us->xs.all flatV=true->us.any (eqU x)=xs.any fun y=>eqV y x
 | _,_,.nil,_=>rfl
 | y::xs,u::us,.cons r t,f=>by
  rw[SO,Rk] at f;rw[Si,Si,Ao r f.1,oi t f.2]
theorem ma{A:Around}{s:Shared}{x:V}{v:Value}(rx:RelV x v)(fx:flatV x=true):∀{xs:List V} {us:List Value},Vals xs us->xs.all flatV=true->∀ u∈us,SeqAt.EqAt A s u v (eqU x u)
 | _,_,.nil,_=>fun u hu=>by cases hu
 | y::xs,u::us,.cons r t,f=>fun u' hu=>by
  rw[SO,Rk] at f;rcases QV.mp hu with rfl | hu
  . rw[Ao r f.1];exact DA r rx f.1 fx
  . exact ma rx fx t f.2 u' hu
def inV(x:V)(xs:List V):Bool:=xs.any fun y=>eqV y x
def rIn(K:Frag)(neg:Bool):R2:=fun x y H Q=>∃ p xs,y=.ref p/\(SqL K H p xs\/SqT K H p xs)/\flatV x=true/\xs.all flatV=true/\Q (.bl (if neg then !inV x xs else inV x xs)) H
theorem pE:OpR X (compareOp .In) (rIn X.K false):=by
 intro Qi s σ H x y v u Q I rx ry h;obtain⟨p,xs,rfl,hq,fx,fs,q⟩:=h;cases ry;rcases hq with hq | hq
 . obtain⟨Qm,r,pl,hz⟩:=I.list hq;refine SeqAt.in_listAt (eqU x) pl.isList (fun w hw=>ma rx fx r fs w (by simpa using hw)) ⟨.bl _,H,I,rfl,?_⟩;rw[show Qm.toArray.any (eqU x)=Qm.any (eqU x) by simp,oi r fs];exact q
 . obtain⟨Qm,r,pl,hz⟩:=I.tuple hq;refine SeqAt.in_tupleAt (eqU x) pl (fun w hw=>ma rx fx r fs w (by simpa using hw)) ⟨.bl _,H,I,rfl,?_⟩;rw[show Qm.toArray.any (eqU x)=Qm.any (eqU x) by simp,oi r fs];exact q
theorem pF:OpR X (compareOp .NotIn) (rIn X.K true):=by
 intro Qi s σ H x y v u Q I rx ry h;obtain⟨p,xs,rfl,hq,fx,fs,q⟩:=h;cases ry;rcases hq with hq | hq
 . obtain⟨Qm,r,pl,hz⟩:=I.list hq;refine SeqAt.notIn_listAt (eqU x) pl.isList (fun w hw=>ma rx fx r fs w (by simpa using hw)) ⟨.bl _,H,I,rfl,?_⟩;rw[show Qm.toArray.any (eqU x)=Qm.any (eqU x) by simp,oi r fs];exact q
 . obtain⟨Qm,r,pl,hz⟩:=I.tuple hq;refine SeqAt.notIn_tupleAt (eqU x) pl (fun w hw=>ma rx fx r fs w (by simpa using hw)) ⟨.bl _,H,I,rfl,?_⟩;rw[show Qm.toArray.any (eqU x)=Qm.any (eqU x) by simp,oi r fs];exact q
theorem wz:OpR X (compareOp .NotIn) (fun x y H Q=>∃ i j,x=.str i/\y=.str j/\Q (.bl (!(!(Builtin.Str.occurrences j i 0 j.length 1).isEmpty))) H):=by
 intro Qi s σ H x y v u Q I rx ry h;obtain⟨i,j,rfl,rfl,q⟩:=h;obtain⟨t,rfl⟩:=rx;obtain⟨t',rfl⟩:=ry;exact notIn_str ⟨.bl _,H,I,rfl,q⟩
theorem pG:CallR X (.builtin "len") (fun xs H Q=>∃ p ys,xs=[.ref p]/\(SqL X.K H p ys\/SqT X.K H p ys)/\Q (.int ys.length) H):=by
 intro Qi s σ H xs us Q I r h;obtain⟨p,ys,rfl,hq,q⟩:=h;obtain⟨u,rfl,rx⟩:=dc r;cases rx;have hn:=pB;rcases hq with hq | hq
 . obtain⟨Qm,r',pl,hz⟩:=I.list hq;have Qq:=r'.length;exact Calls.call_len_list pl.isList (by simp only[QN] <;> omega) ⟨.int ys.length,H,I.tok _,⟨s.toks+1,by rw[QN,Qq]⟩,q⟩
 . obtain⟨Qm,r',pl,hz⟩:=I.tuple hq;have Qq:=r'.length;exact len_tuple pl (by simp only[QN] <;> omega) ⟨.int ys.length,H,I.tok _,⟨s.toks+1,by rw[QN,Qq]⟩,q⟩
theorem wA:CallR X (.builtin "len") (fun xs H Q=>∃ z,xs=[.str z]/\z.length<=sizeLine/\Q (.int z.length) H):=by
 intro Qi s σ H xs us Q I r h;obtain⟨z,rfl,hz,q⟩:=h;obtain⟨u,rfl,t,rfl⟩:=dc r;have hn:=pB;exact len_str (by omega) ⟨.int z.length,H,I.tok _,⟨_,rfl⟩,q⟩
theorem wB:CallR X (.type "list") (fun xs H Q=>∃ p ys,xs=[.ref p]/\(SqL X.K H p ys\/SqT X.K H p ys)/\∀ l,H l=none->Q (.ref l) (upd H l (.lst ys))):=by
 intro Qi s σ H xs us Q I r h;obtain⟨p,ys,rfl,hq,q⟩:=h;obtain⟨u,rfl,rx⟩:=dc r;cases rx
 have fin:∀(Qm:List Value),Vals ys Qm->ys.length<=sizeLine->∀(h':Heap) (c':Nat),(∀ b o',s.heap.get? b=some o'->h'.get? b=some o')->
   h'.get? s.heap.objs.size=some {cls:=.type "list",dict:=none,data:=.seq Qm.toArray c',slots:=#[]}->EP X Qi σ Q (.ref s.heap.objs.size) {s with heap:=h'}:=fun Qm r' hz h' c' kp e=>
  ⟨.ref s.heap.objs.size,_,I.laid (t':=s.toks) kp (QR _) (show ObjOk X.prog X.w _ h' _ (.lst ys) from⟨hz,Qm,c',r',e⟩),rfl,q _ (I.hok.fresh (QR _))⟩
 rcases hq with hq | hq
 . obtain⟨Qm,r',pl,hz⟩:=I.list hq;have Qq:=r'.length;obtain⟨o,ho,hc,n,hd⟩:=pl.isList;exact call_list_seq p (.inl rfl) ho hc hd (fun h' c' kp e=>fin Qm r' hz h' c' kp e) (by simp only[QN] <;> omega)
 . obtain⟨Qm,r',pl,hz⟩:=I.tuple hq;have Qq:=r'.length;obtain⟨o,ho,hc,n,hd⟩:=pl;exact call_list_seq p (.inr rfl) ho hc hd (fun h' c' kp e=>fin Qm r' hz h' c' kp e) (by simp only[QN] <;> omega)
theorem vH:CallR X (.type "tuple") (fun xs H Q=>∃ p ys,xs=[.ref p]/\((SqL X.K H p ys/\∀ l,H l=none->Q (.ref l) (upd H l (.tup ys)))\/(SqT X.K H p ys/\Q (.ref p) H))):=by
 intro Qi s σ H xs us Q I r h;obtain⟨p,ys,rfl,h⟩:=h;obtain⟨u,rfl,rx⟩:=dc r;cases rx;rcases h with ⟨hq,q⟩ | ⟨hq,q⟩
 . obtain⟨Qm,r',pl,hz⟩:=I.list hq;have Qq:=r'.length;refine call_tuple_list pl.isList (fun h' kp=>?_) (by simp only[QN] <;> omega);have I1:Inv X Qi σ H {s with heap:=h'}:=I.kept (t':=s.toks) kp
   have I2:Inv X Qi σ (upd H h'.objs.size (.tup ys)) {s with heap:=h'.push {cls:=.type "tuple",data:=.seq Qm.toArray}}:=
    I1.laid (t':=s.toks) (fun b o e=>QP _ e) (QR _) (show ObjOk X.prog X.w _ _ _ (.tup ys) from⟨hz,Qm,r',IsTup.new _ _⟩)
   exact⟨.ref h'.objs.size,_,I2,rfl,q _ (I1.hok.fresh (QR _))⟩
 . obtain⟨Qm,r',pl,hz⟩:=I.tuple hq;exact call_tuple_same pl ⟨.ref p,H,I,rfl,q⟩
def tyV(K:Frag)(T:String)(x:V)(H:Hp):Prop:=match x with
 | .str _=>T="str"
 | .int _=>T="int"
 | .ref p=>(T="list"/\∃ xs,SqL K H p xs)\/(T="tuple"/\∃ o,K.lookup p=some o/\o.cls=.type "tuple"/\o.dict=none)\/
   (T="dict"/\((∃ Ql,H p=some (.dK Ql))\/∃ Ql,H p=some (.dT Ql)))\/(T="set"/\∃ S n,H p=some (.set S n))
 | _=>False
theorem Ap{Qi:List (Addr × Obj)}{σ:St}{H:Hp}{s:Shared}{T:String}{x:V}{v:Value}(I:Inv X Qi σ H s)(r:RelV x v)(ty:tyV X.K T x H):
  s.TypeIs v T/\∀ a,v=.ref a->∃ ob,s.heap.get? a=some ob/\ob.dict=none:=by
 cases x with
 | str z=>
  obtain⟨t,rfl⟩:=r;cases (show T="str" from ty);exact⟨SJ s z t,fun _ e=>nomatch e⟩
 | int i=>
  obtain⟨t,rfl⟩:=r;cases (show T="int" from ty);exact⟨typeIs_int s i t,fun _ e=>nomatch e⟩
 | ref p=>
  cases r;rcases ty with ⟨rfl,xs,hq⟩ | ⟨rfl,o,hk,hc,hd⟩ | ⟨rfl,hk⟩ | ⟨rfl,S,n,hk⟩
  . obtain⟨Qm,_,pl,_⟩:=I.list hq;refine⟨pl.isList.typeIs,fun a e=>?_⟩;cases e;obtain⟨o,n,e,c,hd,_⟩:=pl;exact⟨o,e,hd⟩
  . refine⟨⟨o,I.kIn p o hk,hc⟩,fun a e=>?_⟩;cases e;exact⟨o,I.kIn _ o hk,hd⟩
  . have z:∃ o,s.heap.get? p=some o/\o.ExactDict:=by
     rcases hk with ⟨Ql,hk⟩ | ⟨Ql,hk⟩
     . obtain⟨_,_,_,_,o,_,_,e,ex,_⟩:=I.hok p _ hk;exact⟨o,e,ex⟩
     . obtain⟨_,_,_,_,o,_,_,e,ex,_⟩:=I.hok p _ hk;exact⟨o,e,ex⟩
    obtain⟨o,e,ex⟩:=z;refine⟨⟨o,e,ex.1⟩,fun a e2=>?_⟩;cases e2;exact⟨o,e,ex.2.1⟩
  . obtain⟨o,_,_,_,e,ex,_⟩:=I.hok p _ hk;refine⟨⟨o,e,ex.1⟩,fun a e2=>?_⟩;cases e2;exact⟨o,e,ex.2.1⟩
 | _=>exact False.elim ty
def uz(K:Frag)(T:String)(r:V->List V->Hp->VK->Prop)(to:TE):TE:=fun σ H Q=>to σ H fun x H1=>tyV K T x H1/\r x [] H1 Q
def tBM(K:Frag)(T:String)(r:V->List V->Hp->VK->Prop)(to:TE)(t:TA):TE:=fun σ H Q=>to σ H fun x H1=>tyV K T x H1/\t σ H1 fun xs H2=>r x xs H2 Q
variable{o e:Expr}{es:List Expr}{to:TE}{t:TA}{name:Str}{apos cpos:Pos}{T id:String}{r:V->List V->Hp->VK->Prop}
theorem sI (pa:PlainAttrs T) (slot:Slot T name id) (hty:typeOf (.builtin id)=pure (.type "method_descriptor")) (hm:MtR X id r) (ho:PE X o to)
  (hbase:attributeBase o name X.env (eval o X.env)=eval o X.env:=by rfl) (hline:(apos.endLine==cpos.line)=true:=by rfl):PE X (.Call (.Attribute o name apos) [] [] cpos) (uz X.K T r to):=by
 intro Qi s σ H Q I h;refine wpAny_Call_method0_late hbase hline (thn (ho Qi s σ H _ I h) fun v s1 ⟨x,H1,I1,r1,ty,q1⟩=>?_);obtain⟨h1,h2⟩:=Ap I1 r1 ty;exact⟨T,id,pa,slot,hty,h1,h2,Tz rfl (PySem.evalArgs_none (hm Qi s1 σ H1 x [] v [] Q I1 r1 .nil q1))⟩
theorem ca (pa:PlainAttrs T) (slot:Slot T name id) (hty:typeOf (.builtin id)=pure (.type "method_descriptor")) (hm:MtR X id r) (ho:PE X o to) (ha:PA X (e::es) t)
  (hbase:attributeBase o name X.env (eval o X.env)=eval o X.env:=by rfl)
  (hfew:((backTo cpos (starEach (e::es) X.env)).all (fun x=>!x.1)&&(backToKw cpos (keywordEach [] X.env)).all (fun x=>x.1.isSome)
   &&decide ((e::es).length+([]:List Keyword).length+(if ([]:List Keyword).isEmpty then 0 else 1)<30))=true:=by rfl)
  (hline:(apos.endLine==cpos.line)=true:=by rfl) (hs:starEach (e::es) X.env=(false,eval e X.env)::starEach es X.env:=by rfl) (hplain:(backTo cpos (starEach es X.env)).any (·.1)=false:=by rfl):
  PE X (.Call (.Attribute o name apos) (e::es) [] cpos) (tBM X.K T r to t):=by
 intro Qi s σ H Q I h;refine wpAny_Call_method_late hbase hfew hline rfl (thn (ho Qi s σ H _ I h) fun v s1 ⟨x,H1,I1,r1,ty,q1⟩=>?_);obtain⟨h1,h2⟩:=Ap I1 r1 ty;refine⟨T,id,pa,slot,hty,h1,h2,?_⟩;have hA:=ha cpos Qi s1 σ H1 _ I1 q1;rw[hs] at hA ⊢;refine Tz (by show(false||(backTo cpos (starEach es X.env)).any (·.1))=false;rw[hplain] <;> rfl) (Calls.evalArgs_plain ?_);exact thn hA fun us s2 ⟨vs,H2,I2,r2,q2⟩=>hm Qi s2 σ H2 x vs v us Q I2 r1 r2 q2
end
def MtM(X:Cx)(id:String)(r:V->List V->Hp->VK->Prop):Prop:=
 ∀(Qi:List (Addr × Obj)) (s:Shared) (σ:St) (H:Hp) (x:V) (xs:List V) (v:Value) (us:List Value) (Q:VK),Inv X Qi σ H s->RelV x v->Vals xs us->r x xs H Q->
  wpAny (model X.prog X.w) X.A (call (.builtin id) (v::us)) (EP X Qi σ Q) X.xe s
theorem Vals.one:∀{x:V} {us:List Value},Vals [x] us->∃ u,us=[u]/\RelV x u
 | _,_,.cons r .nil=>⟨_,rfl,r⟩
theorem Vals.zero:∀{us:List Value},Vals [] us->us=[]
 | _,.nil=>rfl
theorem Vals.eraseIdx:∀{xs:List V} {us:List Value} (i:Nat),Vals xs us->Vals (xs.eraseIdx i) (us.eraseIdx i)
 | _,_,_,.nil=>.nil
 | _,_,0,.cons _ t=>t
 | _,_,i+1,.cons r t=>.cons r (Vals.eraseIdx i t)
theorem Vals.rep{xs:List V}{us:List Value}(h:Vals xs us):∀ k:Nat,Vals (List.replicate k xs).flatten (List.replicate k us).flatten
 | 0=>.nil
 | k+1=>by
  rw[Sd,Sd,Sy,Sy];exact Vals.append h (Vals.rep h k)
theorem vo{α:Type}:∀(l:List α) (i:Nat),(l.eraseIdx i).length<=l.length
 | [],_=>QR _
 | _::_,0=>SS _
 | _::r,i+1=>Nat.succ_le_succ (vo r i)
theorem vp(Qm:List Value):∀(k:Nat) (acc:List Value),
  List.foldl (fun x1 x2=>x1++x2) acc.toArray (List.replicate k Qm.toArray)=(acc++(List.replicate k Qm).flatten).toArray
 | 0,acc=>by simp
 | k+1,acc=>by
  have e:acc.toArray++Qm.toArray=(acc++Qm).toArray:=by simp
  have e2:(acc++Qm)++(List.replicate k Qm).flatten=acc++(List.replicate (k+1) Qm).flatten:=by
   rw[Sd,Sy,RS]
  rw[← e2,← vp Qm k (acc++Qm),← e,Sd,R8]
section
variable{X:Cx}{Qi:List (Addr × Obj)}{σ:St}{H:Hp}{s:Shared}{l b:Addr}{xs ys zs:List V}
theorem Inv.lset {Qm its':List Value} {n:Nat} {f:Array Value->Array Value} {t':Nat} (I:Inv X Qi σ H s) (hH:H l=some (.lst xs))
  (e:s.heap.get? l=some {cls:=.type "list",data:=.seq Qm.toArray n}) (hf:f Qm.toArray=its'.toArray) (hv:Vals ys its') (hz:ys.length<=sizeLine):
  Inv X Qi σ (upd H l (.lst ys)) {s with heap:=s.heap.update l (Obj.mapSeq f),toks:=t'}:=by
 have q:=PySem.IsL.update e f;rw[hf] at q;refine I.write (x:=l) (e:=l) (by rw[hH];exact trivial) (.inl rfl) (fun b' u hb hu=>(Heap.get?_update_other s.heap (Obj.mapSeq f) (Tj hb)).trans hu) ⟨_,q⟩ ?_;exact⟨hz,its',_,hv,q⟩
theorem Inv.lnew{Qm:List Value}{t':Nat}(I:Inv X Qi σ H s)(hv:Vals ys Qm)(hz:ys.length<=sizeLine):
  Inv X Qi σ (upd H s.heap.objs.size (.lst ys)) {s with heap:=s.heap.push {cls:=.type "list",data:=.seq Qm.toArray},toks:=t'}:=
 I.laid (fun _ _ q=>QP _ q) (QR _) ⟨hz,Qm,0,hv,Rm _ rfl⟩
theorem Inv.fresh(I:Inv X Qi σ H s):H s.heap.objs.size=none:=I.hok.fresh (QR _)
theorem Inv.lstM(I:Inv X Qi σ H s)(hH:H l=some (.lst xs)):xs.length<=sizeLine/\∃(Qm:List Value) (n:Nat),Vals xs Qm/\xs.length=Qm.length/\s.heap.get? l=some {cls:=.type "list",data:=.seq Qm.toArray n}:=by
 obtain⟨z,Qm,n,r,e⟩:=I.hok l _ hH;exact⟨z,Qm,n,r,r.length,e⟩
theorem wC{n:Nat}(h:n<=sizeLine):Builtin.List.listTooLong n=false:=by
 unfold Builtin.List.listTooLong;exact Qx (by omega)
end
section
variable{X:Cx}
def CB:V->List V->Hp->VK->Prop:=fun x vs H Q=>∃ l xs y,x=.ref l/\vs=[y]/\H l=some (.lst xs)/\xs.length<sizeLine/\Q .non (upd H l (.lst (xs++[y])))
theorem vq:MtM X "list.append" CB:=by
 intro Qi s σ H x vs v us Q I rx rv h;obtain⟨l,xs,y,rfl,rfl,hH,hz,q⟩:=h;cases rx;obtain⟨u,rfl,ru⟩:=rv.one;obtain⟨z,Qm,n,r,hl,e⟩:=I.lstM hH;refine Sb F.slot_list_append ⟨_,e,rfl⟩ F.entry_list_append (F.args_list_append_2 _ _) (PySem.list_append l Qm.toArray n u (by rw[QN];omega)) ⟨e,?_⟩;refine⟨.non,_,I.lset (its':=Qm++[u]) hH e (by simp) (r.append (.cons ru .nil)) ?_,rfl,q⟩;rw[Q8,TR];omega
def CC:V->List V->Hp->VK->Prop:=fun x vs H Q=>∃ l b xs zs,x=.ref l/\vs=[.ref b]/\H l=some (.lst xs)/\H b=some (.lst zs)/\xs.length+zs.length<=sizeLine/\Q .non (upd H l (.lst (xs++zs)))
theorem Aq:MtM X "list.extend" CC:=by
 intro Qi s σ H x vs v us Q I rx rv h;obtain⟨l,b,xs,zs,rfl,rfl,hH,hB,hz,q⟩:=h;cases rx;obtain⟨u,rfl,ru⟩:=rv.one;cases ru;obtain⟨z,Qm,n,r,hl,e⟩:=I.lstM hH;obtain⟨z2,its2,n2,r2,hl2,e2⟩:=I.lstM hB;have hsz:Qm.toArray.size+its2.toArray.size<=sizeLine:=by rw[QN,QN];omega
 have hlong:¬ (!Qm.toArray.isEmpty&&Builtin.List.listTooLong (Qm.toArray.size+its2.toArray.size))=true:=by
  rw[wC hsz,Bool.and_false];exact Qt
 refine Sb F.slot_list_extend ⟨_,e,rfl⟩ F.entry_list_extend (F.args_list_extend_2 _ _)
  (AutoSeq1.list_extend_list_list_0 l Qm.toArray n b its2.toArray n2 hlong (by rw[QN];omega) (by omega)) ⟨e,e2,?_⟩
 refine⟨.non,_,I.lset (its':=Qm++its2) hH e (by simp) (r.append r2) ?_,rfl,q⟩;rw[Q8];omega
def DB:V->List V->Hp->VK->Prop:=fun x vs H Q=>∃ l xs i k y,x=.ref l/\vs=[.int i]/\H l=some (.lst xs)/\ -(2^63)<=i/\i<2^63/\seqIndex? i xs.length=some k/\xs[k]? =some y/\Q y (upd H l (.lst (xs.eraseIdx k)))
theorem BE:MtM X "list.pop" DB:=by
 intro Qi s σ H x vs v us Q I rx rv h;obtain⟨l,xs,i,k,y,rfl,rfl,hH,h1,h2,hk,hy,q⟩:=h;cases rx;obtain⟨u,rfl,ru⟩:=rv.one;obtain⟨t,rfl⟩:=ru;obtain⟨z,Qm,n,r,hl,e⟩:=I.lstM hH;obtain⟨w,hw,rw'⟩:=r.get hy
 refine Sb F.slot_list_pop ⟨_,e,rfl⟩ F.entry_list_pop (F.args_list_pop_2 _ _)
  (MeetsSeq.list_pop_at l Qm.toArray n i t k w (fitsIndex_both h1 h2) (by rw[QN,← hl];exact hk) (by rw[← TU];exact hw) (by rw[QN];omega)) ⟨e,?_⟩
 refine⟨y,_,I.lset (its':=Qm.eraseIdx k) hH e ?_ (r.eraseIdx k) ?_,rw',q⟩
 . show Qm.toArray.eraseIdxIfInBounds k=(Qm.eraseIdx k).toArray;rw[List.eraseIdxIfInBounds_toArray]
 . have:=vo xs k;omega
def DC:V->List V->Hp->VK->Prop:=fun x vs H Q=>∃ l xs,x=.ref l/\vs=[]/\H l=some (.lst xs)/\Q .non (upd H l (.lst []))
theorem BF:MtM X "list.clear" DC:=by
 intro Qi s σ H x vs v us Q I rx rv h;obtain⟨l,xs,rfl,rfl,hH,q⟩:=h;cases rx;have hus:=rv.zero;subst hus;obtain⟨z,Qm,n,r,hl,e⟩:=I.lstM hH;refine Sb F.slot_list_clear ⟨_,e,rfl⟩ F.entry_list_clear (F.args_list_clear_1 _) (AutoSeq1.list_clear_list_0 l Qm.toArray n (by rw[QN];omega)) ⟨e,?_⟩;exact⟨.non,_,I.lset (its':=[]) (ys:=[]) hH e rfl .nil (Rx _),rfl,q⟩
def rCat:R2:=fun x y H Q=>∃ l b xs zs,x=.ref l/\y=.ref b/\H l=some (.lst xs)/\H b=some (.lst zs)/\xs.length+zs.length<=sizeLine/\∀ p,H p=none->Q (.ref p) (upd H p (.lst (xs++zs)))
theorem DD:OpR X (binaryOp .Add) rCat:=by
 intro Qi s σ H x y v u Q I rx ry h;obtain⟨l,b,xs,zs,rfl,rfl,hH,hB,hz,q⟩:=h;cases rx;cases ry;obtain⟨z,Qm,n,r,hl,e⟩:=I.lstM hH;obtain⟨z2,its2,n2,r2,hl2,e2⟩:=I.lstM hB;refine PySem.P.add_list e e2 ?_ (by rw[QN,QN];omega);have ea:Qm.toArray++its2.toArray=(Qm++its2).toArray:=by simp
 rw[ea];exact⟨.ref _,_,I.lnew (t':=s.toks) (r.append r2) (by rw[Q8];omega),rfl,q _ I.fresh⟩
def rRep:R2:=fun x y H Q=>∃ l k xs,x=.ref l/\y=.int k/\H l=some (.lst xs)/\ -(2^63)<=k/\k<2^63/\xs.length*k.toNat<=sizeLine/\
 ∀ p,H p=none->Q (.ref p) (upd H p (.lst (List.replicate k.toNat xs).flatten))
theorem CD{α:Type}(xs:List α)(k:Nat):(List.replicate k xs).flatten.length=k*xs.length:=by
 induction k with
 | zero=>simp
 | succ k ih=>rw[Sd,Sy,Q8,ih,T5,Nat.add_comm]
theorem DE:OpR X (binaryOp .Mult) rRep:=by
 intro Qi s σ H x y v u Q I rx ry h;obtain⟨l,k,xs,rfl,rfl,hH,h1,h2,hz,q⟩:=h;cases rx;obtain⟨t,rfl⟩:=ry;obtain⟨z,Qm,n,r,hl,e⟩:=I.lstM hH;have Qq:Qm.toArray.size*k.toNat<=sizeLine:=by rw[QN,← hl];exact hz
 have hcap:¬ Qm.toArray.size*k.toNat > (2^63-1)/8:=by
  have:(sizeLine:Nat)<=(2^63-1)/8:=by decide
  omega
 have hfit:¬ (!Builtin.List.listFitsIndex k)=true:=by
  rw[fitsIndex_both h1 h2];exact Qt
 have hlong:¬ Builtin.List.listTooLong (Qm.toArray.size*k.toNat)=true:=by
  rw[wC Qq];exact Qt
 have hnew:List.foldl (fun x1 x2=>x1++x2) #[] (List.replicate (if Qm.toArray.isEmpty=true then 0 else k.toNat) Qm.toArray)=(List.replicate k.toNat Qm).flatten.toArray:=by
  have f0:∀ m:Nat,List.foldl (fun x1 x2=>x1++x2) #[] (List.replicate m Qm.toArray)=(List.replicate m Qm).flatten.toArray:=fun m=>by
   have:=vp Qm m [];rw[List.nil_append] at this;exact this
  rw[f0]
  cases Qm with
  | nil=>simp
  | cons a r'=>rw[QT (by simp)]
 refine wpAny_binaryOp_repeat_ref (T:="list") (U:="int") (by decide) ⟨_,e,rfl⟩ (fun s'=>typeIs_int s' k t) noFill_list_mul F.fills_int_mul F.slot_int_rmul repeat_list F.slot_int_index.lookup
  (Sb F.slot_int_rmul (typeIs_int s k t) F.entry_int_rmul (F.args_int_rmul_2 _ _) (int___rmul___int_list k t l Qm.toArray n)
   ⟨e,rfl,⟨_,e,rfl⟩,Sb F.slot_list_mul ⟨_,e,rfl⟩ F.entry_list_mul (F.args_list_mul_2 _ _) (AutoListH.list___mul___list_int_3 l Qm.toArray n k t hfit hcap hlong) ⟨e,?_⟩⟩)
 rw[hnew];exact⟨.ref _,_,I.lnew (t':=s.toks) (r.rep k.toNat) (by rw[CD,Nat.mul_comm];exact hz),rfl,q _ I.fresh⟩
end
end L2
namespace Att
open PySem PySem.W PySem.Calls PyProof.Rows
theorem ints_of_wellAll{P:Params}{h:Heap}:∀(ns:List Int) (vs:List Value),WellAll P h vs (ns.map WData.int)->IntsAre vs ns:=by
 intro ns
 induction ns with
 | nil=>
  intro vs w;rw[List.map_nil] at w;cases w;exact .nil
 | cons n ns ih=>
  intro vs w;rw[List.map_cons] at w
  cases w with
  | cons a b=>
   cases a;exact .cons _ _ (ih _ b)
theorem script_of {l:OpenLaw} {n:Nat} (hn:l.most=some n) {P:Params} {h:Heap} {args:List WData} {vals:List Value}
  (hpre:l.row.toRowW.claim.pre args=true) (hwl:WellAll P h vals args):
  ∃ a vs ns,vals=[Value.ref a]/\args=[WData.list (ns.map WData.int)]/\h.get? a=some {cls:=.type "list",data:=.seq vs.toArray}/\IntsAre vs ns/\ns.length<=n:=by
 have hsh:WShape.hasAll [] args [.list .int]=true:=(pre_splitW hpre).1;have hc:l.pre.holds [] {args:=args}=true:=(pre_splitW hpre).2;obtain⟨d,r,rfl,h1,h2⟩:=hasAllW_cons hsh;obtain rfl:=hasAllW_nil h2;obtain⟨xs,rfl,h3⟩:=hasW_list h1;obtain⟨ns,rfl⟩:=items_int h3
 have Qq:ns.length<=n:=by
  unfold OpenLaw.pre at hc
  have h4:(WTm.not (.lt (.lit (.int (n:Int))) (.len (.arg 0)))).holds [] {args:=[.list (ns.map .int)]}=true:=by
   have h4:=(holds_andW hc).1;rw[hn] at h4;exact h4
  have h5:=condW_of h4 (w_not (w_lt w_lit (w_len_list (w_arg rfl))));rw[List.length_map] at h5;refine Nat.le_of_not_lt fun q=>?_;have q':(n:Int) < ((ns.length:Nat):Int):=by omega
  first
   | (rw[decide_eq_true q'] at h5;exact absurd h5 (by decide))
   | (simp at h5;omega)
 cases hwl with
 | cons w1 w2=>
  cases w2
  cases w1 with
  | list ho hall=>exact⟨_,_,ns,rfl,rfl,ho,ints_of_wellAll ns _ hall,Qq⟩
theorem post_true(l:OpenLaw)(args:List WData):l.row.toRowW.claim.post args (.bool true) args=true:=
 postW_of (r:=l.row.toRowW) (X:=(true==true))
  (show WShape.has [] (.bool true) .bool=true by first | rfl | decide | simp[WShape.has,WShape.arms,WShape.armsAll])
  (show(WTm.eq .res (.lit (.bool true))).value [] {args:=args,res:=some (.bool true),after:=args}=some (.bool (true==true)) from w_eq_bool (w_res rfl) w_lit) rfl
theorem attach_call {l:OpenLaw} {n:Nat} {q:Program} {loose:List Str} {XP:(Str->Option Value)->Heap->Prop} {YP:World->Heap->Prop} {d:DefRec}
  (hn:l.most=some n) (hdf:d.params.defaults=[])
  (call:∀(w:World) (s₀ s₁:Shared) (mg mb:Str->Option Value) (fa:Addr) (o:Obj) (pm cd doc:Value) (a:Addr) (vs:List Value) (ns:List Int),
   Ground q loose [] XP w s₀ mg mb s₁.heap->YP w s₁.heap->
   s₁.heap.get? fa=some o->o.data=.func (docDef d.name d.params d.body d.scope pm cd doc)->s₁.heap.CodeRec cd d.name->mg d.name=some (.ref fa)->
   s₁.heap.get? a=some {cls:=.type "list",data:=.seq vs.toArray}->IntsAre vs ns->ns.length<=n->s₁.gens=#[]->
   codeAny (model l.prog w) callerA (.call (.ref fa) ⟨[.ref a],[]⟩) (fun r s'=>r=.ok (.ret (.bool true))/\OldK s₁.heap s'.heap/\s'.os=s₁.os/\AllBare s'.gens) s₁):
  WalkO q loose XP YP l.row.toRowW d [] (fun f vs=>PySem.call f vs):=by
 intro w s₀ s₁ mg mb G Y fa o pm cd doc dV kV ho hd hcd hD hmg hg args vals as hpre hlay hrd hwl hlo;obtain rfl:dV=.none:=Dflts.none hD hdf;obtain rfl:kV=.none:=Dflts.noKw hD;obtain⟨a,vs,ns,rfl,rfl,hobj,hints,Qq⟩:=script_of hn hpre hwl;refine enter_call (codeAny_mono (call w s₀ s₁ mg mb fa o pm cd doc a vs ns G Y ho (fd_plain hd) hcd hmg hobj hints Qq hg) fun r s' hq=>?_);obtain⟨rfl,h2,h3,h4⟩:=hq;exact⟨.inl ⟨.bool true,.bool true,[],rfl,fun _=>rfl,.bool true,post_true l _,fun _=>⟨List.Pairwise.nil,fun _ hm=>(nomatch hm)⟩⟩,h2,h3,h4⟩
section
variable{prog:Program}{w:World}{A:Around}{E:Value->Shared->Prop}{s:Shared}{K:Frag}
end
end Att
namespace L2
open PySem PySem.Spec PyProof.Rows
theorem pH:∀{vs:List Value} {ns:List Int},IntsAre vs ns->Vals (ns.map V.int) vs
 | _,_,.nil=>.nil
 | _,_,.cons n t h=>.cons ⟨t,rfl⟩ (pH h)
def Only(H:Hp):Prop:=∀ b,H b=none\/∃ o xs,H b=some (.frz o (.lst xs))
theorem BG {P:Program} {w:World} {K:Frag} {mg mb:Str->Option Value} {CX:CXT} {k:Nat} {fa a:Addr} {fd:FuncData} {x:Str} {sp:Sp} {s₁:Shared} {vs:List Value} {ns:List Int}
  (KX:K.In s₁.heap) (hns:s₁.heap.Ns mainGlobals mg) (hb:s₁.heap.Ns builtinsNs mb) (hbb:∀ x:Str,x≠"__name__"->mb x=bootBuiltins x) (hlim:s₁.heap.NoLimit) (hg:s₁.gens=#[])
  (ha:s₁.heap.get? a=some {cls:=.type "list",data:=.seq vs.toArray}) (hi:IntsAre vs ns) (hl:ns.length<=sizeLine) (hr:Room k callerA)
  (F:∀ base:Heap,K.In base->base.Ns mainGlobals mg->FnOk P w K mg base CX k fa fd [x] sp) (hbind:∀(s:Shared) (u:Value),BindsTo s fd ⟨[u],[]⟩ [(x,u)])
  (hsp:∀ H:Hp,Only H->SqL K H a (ns.map V.int)->sp [.ref a] H (fun v _=>v=.bl true) fun _ _ _=>False)
  (hCX:∀ H e s',CX [] H s₁ (fun _ _ _=>False) e s'->False):
  codeAny (model P w) callerA (.call (.ref fa) ⟨[.ref a],[]⟩) (fun r s'=>r=.ok (.ret (.bool true))/\OldK s₁.heap s'.heap/\s'.os=s₁.os/\AllBare s'.gens) s₁:=by
 have rv:=pH hi;have lenV:=hi.length
 have core:∀ H:Hp,Only H->SqL K H a (ns.map V.int)->HOk P w H s₁.heap->(∀ b,H b≠none->b=a)->(H a≠none->K.lookup a=none)->
   codeAny (model P w) callerA (.call (.ref fa) ⟨[.ref a],[]⟩) (fun r s'=>r=.ok (.ret (.bool true))/\OldK s₁.heap s'.heap/\s'.os=s₁.os/\AllBare s'.gens) s₁:=by
  intro H hO hS hok hA hK;have base_of:∀{b:Addr} {o:Obj},s₁.heap.get? b=some o->H b=none->(hidT s₁.heap H).get? b=some o:=fun e n=>Bz e n
  have noA:∀{b:Addr} {o:Obj} {es:Array DictEntry} {ep:Nat},s₁.heap.get? b=some o->o.data=.dict es ep->H b=none:=fun{b o es ep} e d=>by
   cases q:H b with
   | none=>rfl
   | some u=>
    have e':b=a:=hA b (by rw[q];simp);subst e';rw[ha] at e;cases e;have d':Data.seq vs.toArray _=Data.dict es ep:=d;cases d'
  have nsK:∀{b:Addr} {m:Str->Option Value},s₁.heap.Ns b m->(hidT s₁.heap H).Ns b m:=fun{b m} ⟨o,es,ep,e,d,r⟩=>⟨o,es,ep,base_of e (noA e d),d,r⟩
  have hKb:K.In (hidT s₁.heap H):=fun b o e=>base_of (KX b o e) (by
   cases q:H b with
   | none=>rfl
   | some u=>
    have e':b=a:=hA b (by rw[q];simp);subst e';rw[hK (by rw[q];simp)] at e;cases e)
  have hM:Mod K mg (hidT s₁.heap H):=⟨hKb,nsK hns,⟨mb,nsK hb,hbb⟩,let ⟨mc,h1,h2⟩:=hlim;⟨mc,nsK h1,h2⟩⟩;have e0:Env0 P w K mg (hidT s₁.heap H) callerA [] s₁ H:=⟨rfl,hM,fun b o e=>Cp e,Nat.le_of_eq (Ab _ _),trivial,fun b hb=>absurd (show b∈([]:List Addr) from hb) (by simp),hok,.of_eq hg⟩;refine T3 ((F _ hKb (nsK hns)).run callerA [] s₁ H ⟨[.ref a],[]⟩ [.ref a] [.ref a] _ _ hr e0 (hbind s₁ (.ref a)) (.cons rfl .nil) (hsp H hO hS)) fun r s' h=>?_
  cases r with
  | error e=>exact(hCX H e s' h).elim
  | ok fl=>
   cases fl with
   | next=>exact False.elim h
   | brk=>exact False.elim h
   | cont=>exact False.elim h
   | ret u=>
    obtain⟨v,H',os,bare,un,hok',r',q⟩:=h;have q':v=.bl true:=q;subst q';obtain rfl:u=Value.bool true:=r';refine⟨rfl,OldK.of_keep fun b o e=>?_,os,bare⟩
    cases q:H b with
    | none=>exact un.keep b o e q (by intro z;exact absurd (show b∈([]:List Addr) from z) (by simp)) (by simp)
    | some u=>
     rcases hO b with z | ⟨ob,xs,z⟩
     . rw[q] at z;cases z
     . have z2:=un.frzs b ob _ z;obtain⟨e1,_⟩:=hok b _ z;obtain⟨e2,_⟩:=hok' b _ z2;rw[e] at e1;cases e1;exact e2
 cases hk:K.lookup a with
 | some o=>
  have e:=KX a o hk;rw[ha] at e;cases e;refine core (fun _=>none) (fun _=>.inl rfl) (.inr ⟨_,vs.toArray,_,hk,rfl,rfl,rfl,by rw[QN,lenV];exact hl,by simpa using rv⟩) (fun b u z=>by have z':(none:Option HO)=some u:=z;cases z') (fun b z=>absurd rfl z) fun z=>absurd rfl z
 | none=>
  refine core (fun b=>if b=a then some (.frz {cls:=.type "list",data:=.seq vs.toArray} (.lst (ns.map V.int))) else none) (fun b=>?_) (.inl (.inr ⟨{cls:=.type "list",data:=.seq vs.toArray},Q6 rfl⟩)) (fun b u z=>?_) (fun b z=>?_) fun _=>hk
  . by_cases hb:b=a
    . exact .inr ⟨_,_,Q6 hb⟩
    . exact .inl (QT hb)
  . by_cases hb:b=a
    . have z':=(Q6 hb).symm.trans z;cases z';subst hb;exact⟨ha,by rw[Qu];exact hl,vs,_,rv,ha⟩
    . have z':=(QT hb).symm.trans z;cases z'
  . by_cases hb:b=a
    . exact hb
    . exact absurd (QT hb) z
theorem CF {l:PySem.W.OpenLaw} {n k:Nat} {q:Program} {loose:List Str} {XP:(Str->Option Value)->Heap->Prop} {YP:World->Heap->Prop} {d:DefRec} {K:Params->Frag} {CX:World->CXT} {sp:World->Sp} {x:Str}
  (hn:l.most=some n) (hn2:n<=sizeLine) (hdf:d.params.defaults=[]) (hr:Room k callerA)
  (hY:∀(w:World) (h:Heap),YP w h->(K w.params).In h)
  (F:∀(w:World) (mg:Str->Option Value) (fa:Addr) (h:Heap),(K w.params).In h->h.Ns mainGlobals mg->mg d.name=some (.ref fa)->
   ∃ fd:FuncData,(∀(s:Shared) (u:Value),BindsTo s fd ⟨[u],[]⟩ [(x,u)])/\
    ∀ base:Heap,(K w.params).In base->base.Ns mainGlobals mg->FnOk l.prog w (K w.params) mg base (CX w) k fa fd [x] (sp w))
  (hsp:∀(w:World) (H:Hp) (a:Addr) (ns:List Int),ns.length<=n->Only H->SqL (K w.params) H a (ns.map V.int)->sp w [.ref a] H (fun v _=>v=.bl true) fun _ _ _=>False)
  (hCX:∀(w:World) (H:Hp) (s:Shared) (e:Value) (s':Shared),CX w [] H s (fun _ _ _=>False) e s'->False):
  PySem.W.WalkO q loose XP YP l.row.toRowW d [] (fun f vs=>PySem.call f vs):=by
 refine Att.attach_call hn hdf fun w s₀ s₁ mg mb fa o pm cd doc a vs ns G Y ho hd hcd hmg hobj hints Qq hg=>?_;have KX:=hY w _ Y;obtain⟨fd,hb,hF⟩:=F w mg fa _ KX G.T.g hmg;exact BG KX G.T.g G.T.b G.T.builtins G.T.nolimit hg hobj hints (QG Qq hn2) hr hF hb (fun H hO hS=>hsp w H a ns Qq hO hS) fun H e s'=>hCX w H s₁ e s'
def bR(s:Stmt):Arguments:=match s with
 | .FunctionDef _ a _ _ _ _ _ _ _ _=>a
 | _=>{posonlyargs:=[],args:=[],vararg:=none,kwonlyargs:=[],kw_defaults:=[],kwarg:=none,defaults:=[]}
def bB(s:Stmt):List Stmt:=match s with
 | .FunctionDef _ _ b _ _ _ _ _ _ _=>b
 | _=>[]
def ag(s:Stmt):Scope:=match s with
 | .FunctionDef _ _ _ _ _ _ sc _ _ _=>sc
 | _=>{kind:=.function,names:=[],isGenerator:=false,isCoroutine:=false}
abbrev CX0:CXT:=fun _ _ _ _ _ _=>False
abbrev E0:XK:=fun _ _ _=>False
theorem wn{X:Cx}:pD CX0 X E0:=fun _ _ _ _ _ _ _ h=>h.elim
structure Fun(K:Frag)(x qual:Str)(st:Stmt)(f:Addr)(fd:FuncData):Prop where
 ex:∃(oc:Value) (od:Option Addr) (kV doc pm:Value) (an:Option Addr) (Qk ct:Value) (osl:Array (Option Value)),
  fd=fnOf x qual (bR st) (bB st) (ag st) .none kV doc pm an Qk ct/\K.lookup f=some ⟨oc,od,.func fd,osl⟩/\codeIn K Qk qual=true
 kp:keepIn K (.ref f)=true
section
variable{P:Program}{w:World}{K:Frag}{mg:Str->Option Value}{base:Heap}
theorem Fun.ok {x qual:Str} {st:Stmt} {f:Addr} {fd:FuncData} {N ps:List Str} {k:Nat} {sp:Sp} (F:Fun K x qual st f fd) (S:ak N ps (ag st)) (len:∀ vs H Q E,sp vs H Q E->vs.length=ps.length)
  (hbody:∀(Qk:Value) (A:Around) (outer:List Env) (s:Shared) (H:Hp) (vs:List V) (Q:VK) (E:XK),Room k (A.deeper (envOfC qual (ag st) s.heap.objs.size f Qk))->sp vs H Q E->
   ∃ t,PSs (cxOf CX0 P w K mg base N qual (ag st) f Qk A outer s H E).nox (bB st) t/\t {nx:=fun _ H'=>Q .non H',rt:=Q} (start N vs) H):FnOk P w K mg base CX0 (k+1) f fd ps sp:=by
 obtain⟨oc,od,kV,doc,pm,an,Qk,ct,osl,rfl,lk,hcd⟩:=F.ex;refine EA lk hcd S len fun A outer s H vs Q E hr hsp=>?_;obtain⟨t,h,q⟩:=hbody Qk A outer s H vs Q E hr hsp;exact⟨t,h.nox,q⟩
theorem Fun.binds {x qual:Str} {st:Stmt} {f:Addr} {fd:FuncData} {ps:List Str} (F:Fun K x qual st f fd)
  (h:∀(kV doc pm:Value) (an:Option Addr) (Qk ct:Value) (us:List Value),us.length=ps.length->bindArgs (fnOf x qual (bR st) (bB st) (ag st) .none kV doc pm an Qk ct) ⟨us,[]⟩=pure (ps.zip us)):Binds K fd ps []:=by
 obtain⟨oc,od,kV,doc,pm,an,Qk,ct,osl,rfl,lk,hcd⟩:=F.ex;exact .all (h kV doc pm an Qk ct)
theorem aq {x qual:Str} {st:Stmt} {f:Addr} {oc:Value} {od an:Option Addr} {osl:Array (Option Value)} {kV doc pm Qk ct:Value} (l:K.lookup f=some ⟨oc,od,.func (fnOf x qual (bR st) (bB st) (ag st) .none kV doc pm an Qk ct),osl⟩)
  (c:codeIn K Qk qual=true) (k:keepIn K (.ref f)=true):Fun K x qual st f (fnOf x qual (bR st) (bB st) (ag st) .none kV doc pm an Qk ct):=⟨⟨oc,od,kV,doc,pm,an,Qk,ct,osl,rfl,l,c⟩,k⟩
end
theorem aD{n:Nat}(h:n<=1000):n<sizeLine:=RL h (by decide)
section
variable{X:Cx}
theorem pv (i:Nat) {x:Str} {pos:Pos} (hN:X.N[i]? =some x:=by rfl) (hv:Vis X.env.scope x:=by first | exact Or.inl rfl | exact Or.inr (Or.inl rfl) | exact Or.inr (Or.inr rfl)) (hd:(x==("__debug__":Str))=false:=by decide)
  (hcd:(x==("__classdict__":Str))=false:=by decide):PE X (.Name x pos) (tVar i):=Ds hN hv hd hcd
end
theorem iteF{A B:Prop}(h:B):if false=true then A else B:=by
 rw[QT Qt];exact h
theorem iteT{A B:Prop}(h:A):if true=true then A else B:=by
 rw[Q6 rfl];exact h
def Same(H H':Hp):Prop:=∀ b o,H b=some o->H' b=some o
theorem Same.refl(H:Hp):Same H H:=fun _ _ h=>h
abbrev Qy:=@Same.refl
theorem Same.trans{H H1 H2:Hp}(a:Same H H1)(b:Same H1 H2):Same H H2:=fun c o h=>b c o (a c o h)
theorem Same.free{H H':Hp}(e:Same H H'){l:Addr}(h:H' l=Option.none):H l=Option.none:=by
 cases q:H l with
 | none=>rfl
 | some o=>
  rw[e l o q] at h;cases h
theorem Same.seq{K:Frag}{H H':Hp}{a:Addr}{xs:List V}(e:Same H H')(h:SqL K H a xs):SqL K H' a xs:=by
 rcases h with (h | ⟨o,h⟩) | h
 . exact .inl (.inl (e _ _ h))
 . exact .inl (.inr ⟨o,e _ _ h⟩)
 . exact .inr h
section
variable{κ:Type}[DecidableEq κ]
def valV(Ql:List (κ × V))(k:κ):Option V:=(Ql.find? fun kv=>decide (kv.1=k)).map (·.2)
def putK(Ql:List (κ × V))(k:κ)(v:V):List (κ × V):=
 if (Ql.any fun kv=>decide (kv.1=k))=true then Ql.map (fun kv=>if kv.1=k then(kv.1,v) else kv) else Ql++[(k,v)]
theorem rm{p:κ × V}{r:List (κ × V)}{k:κ}(e:p.1=k):valV (p::r) k=some p.2:=by simp[valV,R9,e]
theorem rp{p:κ × V}{r:List (κ × V)}{k:κ}(e:¬ p.1=k):valV (p::r) k=valV r k:=by simp[valV,R9,e]
theorem wD(k:κ):∀ Ql:List (κ × V),(Ql.any fun kv=>decide (kv.1=k))=(valV Ql k).isSome
 | []=>rfl
 | p::r=>by
  rw[Si];by_cases e:p.1=k
  . simp only[rm e,QA e,Sz,Option.isSome_some]
  . rw[rp e,Qx e,RQ];exact wD k r
theorem rb(Ql:List (κ × V))(k:κ)(v:V):(putK Ql k v).length<=Ql.length+1:=by
 unfold putK
 split
 . rw[Qu];omega
 . rw[Q8,Rj,List.length_nil];omega
theorem RelO.isSome_eq{o:Option V}{u:Option Value}(r:RelO o u):o.isSome=u.isSome:=by
 cases o with
 | none=>cases u with
  | none=>rfl
  | some _=>exact(show False from r).elim
 | some _=>cases u with
  | none=>exact(show False from r).elim
  | some _=>rfl
theorem KV.val{Ql:List (κ × V)}{vs:List (κ × Value)}(r:KV Ql vs)(k:κ):RelO (valV Ql k) (valueAt vs k):=by
 unfold KV at r
 induction r with
 | nil=>exact True.intro
 | @cons p q ps qs h t ih=>
  obtain⟨h1,h2⟩:=h;by_cases e:p.1=k
  . have e':q.1=k:=h1.symm.trans e;have b:valueAt (q::qs) k=some q.2:=by simp[valueAt,R9,e']
    rw[rm e,b];exact h2
  . have e':¬ q.1=k:=fun z=>e (h1.trans z);have b:valueAt (q::qs) k=valueAt qs k:=by simp[valueAt,R9,e']
    rw[rp e,b];exact ih
theorem KV.any{Ql:List (κ × V)}{vs:List (κ × Value)}(r:KV Ql vs)(k:κ):(Ql.any fun kv=>decide (kv.1=k))=vs.any fun kv=>decide (kv.1=k):=by
 unfold KV at r
 induction r with
 | nil=>rfl
 | cons h t ih=>rw[Si,Si,ih,h.1]
theorem KV.repl{Ql:List (κ × V)}{vs:List (κ × Value)}(r:KV Ql vs)(k:κ){y:V}{u:Value}(ry:RelV y u):
  KV (Ql.map fun kv=>if kv.1=k then(kv.1,y) else kv) (vs.map fun kv=>if kv.1=k then(kv.1,u) else kv):=by
 unfold KV at r ⊢
 induction r with
 | nil=>exact .nil
 | @cons p q ps qs h t ih=>
  rw[Rc,Rc];refine .cons ?_ ih;obtain⟨h1,h2⟩:=h;by_cases e:p.1=k
  . rw[Q6 e,Q6 (h1.symm.trans e)];exact⟨h1,ry⟩
  . rw[QT e,QT (fun z=>e (h1.trans z))];exact⟨h1,h2⟩
theorem KV.put{Ql:List (κ × V)}{vs:List (κ × Value)}(r:KV Ql vs)(k:κ){y:V}{u:Value}(ry:RelV y u):KV (putK Ql k y) (stored vs k u):=by
 unfold putK stored;rw[r.any k];by_cases e:(vs.any fun kv=>decide (kv.1=k))=true
 . rw[Q6 e,Q6 e];exact r.repl k ry
 . rw[QT e,QT e];exact Paired.snoc r ⟨rfl,ry⟩
theorem KV.length{Ql:List (κ × V)}{vs:List (κ × Value)}(r:KV Ql vs):Ql.length=vs.length:=TX r
end
theorem sJ{P:Program}{w:World}{k:Key}{u:Value}(r:RelV (kV k) u):(cK P w).is k u=true:=by
 cases k with
 | inl i=>obtain⟨t,e⟩:=(show ∃ t,u=Value.int i t from r);subst e;exact xZ P w i t
 | inr x=>obtain⟨t,e⟩:=(show ∃ t,u=Value.str x t from r);subst e;exact x4 P w x t
theorem vt{P:Program}{w:World}:∀{ks:List Key} {us:List Value},Vals (ks.map kV) us->ItemsAre (cK P w) ks us
 | [],_,r=>by rw[List.map_nil] at r;cases r;exact .nil
 | k::ks,_,r=>by
  rw[Rc] at r
  cases r with
  | cons h t=>exact .cons (sJ h) (vt t)
abbrev KT(H:Hp):List (List Key × V)->List (List Key × Addr × Value)->Prop:=Paired fun p q=>p.1=q.1/\H q.2.1=some (.tup (p.1.map kV))/\RelV p.2 q.2.2
variable{H:Hp}{Ql:List (List Key × V)}{xs:List (List Key × Addr × Value)}
theorem KT.val(r:KT H Ql xs)(k:List Key):RelO (valV Ql k) ((atKey xs k).map (·.2)):=by
 induction r with
 | nil=>exact True.intro
 | @cons p q ps qs h t ih=>
  obtain⟨h1,_,h2⟩:=h;by_cases e:p.1=k
  . have e':q.1=k:=h1.symm.trans e;have b:atKey (q::qs) k=some q.2:=by simp[atKey,R9,e']
    rw[rm e,b];exact h2
  . have e':¬ q.1=k:=fun z=>e (h1.trans z);have b:atKey (q::qs) k=atKey qs k:=by simp[atKey,R9,e']
    rw[rp e,b];exact ih
theorem KT.repl(r:KT H Ql xs)(k:List Key){y:V}{u:Value}(ry:RelV y u):
  KT H (Ql.map fun kv=>if kv.1=k then(kv.1,y) else kv) (xs.map (putAt k u)):=by
 induction r with
 | nil=>exact .nil
 | @cons p q ps qs h t ih=>
  rw[Rc,Rc];refine .cons ?_ ih;obtain⟨h1,h2,h3⟩:=h;unfold putAt;by_cases e:p.1=k
  . rw[Q6 e,Q6 (h1.symm.trans e)];exact⟨h1,h2,ry⟩
  . rw[QT e,QT (fun z=>e (h1.trans z))];exact⟨h1,h2,h3⟩
theorem KT.put(r:KT H Ql xs)(k:List Key){b:Addr}{y:V}{u:Value}(hb:H b=some (.tup (k.map kV)))(ry:RelV y u):
  KT H (putK Ql k y) (storedH xs k b u):=by
 have e:(Ql.any fun kv=>decide (kv.1=k))=(atKey xs k).isSome:=by
  rw[wD,(r.val k).isSome_eq,Tk]
 unfold putK storedH;rw[e];by_cases q:(atKey xs k).isSome=true
 . rw[Q6 q,Q6 q];exact r.repl k ry
 . rw[QT q,QT q];exact Paired.snoc r ⟨rfl,hb,ry⟩
theorem KT.keeps{H':Hp}(r:KT H Ql xs)(ht:∀ b ys,H b=some (.tup ys)->H' b=some (.tup ys)):KT H' Ql xs:=
 Paired.mapP r fun _ _ z=>⟨z.1,ht _ _ z.2.1,z.2.2⟩
section
variable{P:Program}{w:World}{H:Hp}{h:Heap}{a:Addr}
theorem B9{u:HO}(ok:HOk P w H h)(e:Rd H a u):ObjOk P w H h a u:=e.ok ok
theorem qA{Ql:List (Key × V)}(ok:HOk P w H h)(e:Rd H a (.dK Ql)):Ql.length<=sizeLine/\(a==sysModules)=false/\∃ vs,KV Ql vs/\h.DictOf (cK P w) a vs:=
 show ObjOk P w H h a (.dK Ql) from B9 ok e
theorem EB{Ql:List (Key × V)}(ok:HOk P w H h)(e:H a=some (.dK Ql)):Ql.length<=sizeLine/\(a==sysModules)=false/\∃ vs,KV Ql vs/\h.DictOf (cK P w) a vs:=qA ok (.inl e)
theorem pI{ks:List Key}(ok:HOk P w H h)(e:H a=some (.tup (ks.map kV))):(tupleKind (cK P w)).is h ks a:=by
 obtain⟨_,Qm,r,o,h1,h2,n,h3⟩:=(show ObjOk P w H h a (.tup (ks.map kV)) from ok a _ e);exact⟨o,Qm.toArray,n,h1,h2,h3,by simpa using vt r⟩
theorem sK{Ql:List (List Key × V)}(ok:HOk P w H h)(e:Rd H a (.dT Ql)):Ql.length<=sizeLine/\(a==sysModules)=false/\
  ∃ xs,KT H Ql xs/\h.DictOfH (tupleKind (cK P w)) a xs:=by
 obtain⟨z,y,xs,r,o,es,ep,h1,h2,h3,h4,h5⟩:=(show ObjOk P w H h a (.dT Ql) from B9 ok e);refine⟨z,y,xs,r,o,es,ep,h1,h2,h3,h4,fun x hx=>?_,h5⟩
 have all:∀{l:List (List Key × V)} {m:List (List Key × Addr × Value)},KT H l m->∀ x∈m,(tupleKind (cK P w)).is h x.1 x.2.1:=by
  intro l m q
  induction q with
  | nil=>intro x hx;exact nomatch hx
  | @cons p q ps qs hq t ih=>
   intro x hx;rcases QV.mp hx with e | hx
   . subst e;exact pI ok (by rw[← hq.1];exact hq.2.1)
   . exact ih x hx
 exact all r x hx
theorem EC{Ql:List (List Key × V)}(ok:HOk P w H h)(e:H a=some (.dT Ql)):Ql.length<=sizeLine/\(a==sysModules)=false/\
  ∃ xs,KT H Ql xs/\h.DictOfH (tupleKind (cK P w)) a xs:=sK ok (.inl e)
end
def DGet(H:Hp)(a:Addr)(y:V)(r:Option V):Prop:=
 (∃ Ql k,Rd H a (.dK Ql)/\y=kV k/\r=valV Ql k)\/∃ Ql k b,Rd H a (.dT Ql)/\y=.ref b/\H b=some (.tup (k.map kV))/\r=valV Ql k
def DPut(H:Hp)(a:Addr)(y v:V)(H':Hp):Prop:=
 (∃ Ql k,H a=some (.dK Ql)/\y=kV k/\Ql.length<sizeLine/\H'=upd H a (.dK (putK Ql k v)))\/
 ∃ Ql k b,H a=some (.dT Ql)/\y=.ref b/\H b=some (.tup (k.map kV))/\Ql.length<sizeLine/\H'=upd H a (.dT (putK Ql k v))
theorem DGet.k{a:Addr}{Ql:List (Key × V)}{k:Key}(e:H a=some (.dK Ql)):DGet H a (kV k) (valV Ql k):=.inl ⟨Ql,k,.inl e,rfl,rfl⟩
section
variable{X:Cx}{Qi:List (Addr × Obj)}{σ:St}{H:Hp}{s:Shared}{a:Addr}{y v:V}{u r:Value}{o:Option V}{A:Around}{E:Value->Shared->Prop}
theorem Ar{Q:Value->Shared->Prop}(hu:A.units+1<cLine)(I:Inv X Qi σ H s)(g:DGet H a y (some v))(ry:RelV y u)(h:∀ w' s',Inv X Qi σ H s'->RelV v w'->Q w' s'):
  wpAny (model X.prog X.w) A (getItem (.ref a) u) Q E s:=by
 rcases g with ⟨Ql,k,e,ey,l⟩ | ⟨Ql,k,b,e,ey,eb,l⟩
 . subst ey;obtain⟨z,hd,vs,rel,dd⟩:=qA I.hok e;obtain⟨w',hw,rw'⟩:=T1 (v:=v) (o:=valueAt vs k) (by rw[l];exact rel.val k);exact wpAny_getItem_of (sJ ry) dd.mapOf hw (h w' _ (I.tok _) rw')
 . subst ey;cases (show u=Value.ref b from ry);obtain⟨z,hd,xs,rel,dd⟩:=sK I.hok e;obtain⟨w',hw,rw'⟩:=T1 (v:=v) (o:=(atKey xs k).map (·.2)) (by rw[l];exact rel.val k);obtain⟨p,hp,hp2⟩:=R0.mp hw;refine wpAny_getItem_heap (Su hu) (pI I.hok eb) dd hp ?_;rw[hp2];exact h w' _ (I.tok _) rw'
theorem EY{Q:Value->Shared->Prop}(hu:A.units+1<cLine)(I:Inv X Qi σ H s)(g:DGet H a y o)(ry:RelV y u)(h:∀ s',Inv X Qi σ H s'->Q (.bool o.isSome) s'):
  wpAny (model X.prog X.w) A (compareOp .In u (.ref a)) Q E s:=by
 rcases g with ⟨Ql,k,e,ey,l⟩ | ⟨Ql,k,b,e,ey,eb,l⟩
 . subst ey;obtain⟨z,hd,vs,rel,dd⟩:=qA I.hok e;refine wpAny_in_of (sJ ry) hd dd.mapOf ?_;rw[← (rel.val k).isSome_eq,← l];exact h _ (I.tok _)
 . subst ey;cases (show u=Value.ref b from ry);obtain⟨z,hd,xs,rel,dd⟩:=sK I.hok e;refine wpAny_in_heap (Su hu) (pI I.hok eb) hd dd ?_;have q:=(rel.val k).isSome_eq;rw[Tk] at q;rw[← q,← l];exact h _ (I.tok _)
theorem CG{Q:Value->Shared->Prop}(hu:A.units+1<cLine)(I:Inv X Qi σ H s)(g:DGet H a y o)(ry:RelV y u)(h:∀ s',Inv X Qi σ H s'->Q (.bool (!o.isSome)) s'):
  wpAny (model X.prog X.w) A (compareOp .NotIn u (.ref a)) Q E s:=by
 rcases g with ⟨Ql,k,e,ey,l⟩ | ⟨Ql,k,b,e,ey,eb,l⟩
 . subst ey;obtain⟨z,hd,vs,rel,dd⟩:=qA I.hok e;refine wpAny_notIn_of (sJ ry) hd dd.mapOf ?_;rw[← (rel.val k).isSome_eq,← l];exact h _ (I.tok _)
 . subst ey;cases (show u=Value.ref b from ry);obtain⟨z,hd,xs,rel,dd⟩:=sK I.hok e;refine wpAny_notIn_heap (Su hu) (pI I.hok eb) hd dd ?_;have q:=(rel.val k).isSome_eq;rw[Tk] at q;rw[← q,← l];exact h _ (I.tok _)
theorem yL{h':Heap}{t':Nat}{ob:HO}(I:Inv X Qi σ H s)(mu:Mut (H a))(hs:Heap.SameBut a s.heap h')(he:∃ q,h'.get? a=some q)(new:ObjOk X.prog X.w (upd H a ob) h' a ob):
  Inv X Qi σ (upd H a ob) {s with heap:=h',toks:=t'}:=
 I.write (x:=a) (e:=a) mu (.inl rfl) (fun b q hb z=>(hs.2 b hb).trans z) he new
theorem DF{P:Program}{w:World}{H':Hp}{h':Heap}{Ql:List (Key × V)}{vs:List (Key × Value)}(z:Ql.length<=sizeLine)(hd:(a==sysModules)=false)(rel:KV Ql vs)(dd:h'.DictOf (cK P w) a vs):
  ObjOk P w H' h' a (.dK Ql):=⟨z,hd,vs,rel,dd⟩
theorem As{H':Hp}{Q:Unit->Shared->Prop}(hu:A.units+1<cLine)(I:Inv X Qi σ H s)(g:DPut H a y v H')(ry:RelV y u)(rv:RelV v r)(h:∀ s',Inv X Qi σ H' s'->Q () s'):
  wpAny (model X.prog X.w) A (setItem (.ref a) u r) Q E s:=by
 rcases g with ⟨Ql,k,e,ey,l,eH⟩ | ⟨Ql,k,b,e,ey,eb,l,eH⟩
 . subst ey eH;obtain⟨z,hd,vs,rel,dd⟩:=EB I.hok e;have hz:vs.length<=sizeLine:=by rw[← rel.length];exact z
   have hl:(putK Ql k v).length<=sizeLine:=by have:=rb Ql k v;omega
   refine wpAny_setItem_pairs (hsz:=hz) (sJ ry) dd fun h' dd' hs=>h _ ?_;have he:∃ q,h'.get? a=some q:=let ⟨q,_,_,hq,_⟩:=dd';⟨q,hq⟩;exact yL I (by rw[e];exact True.intro) hs he (DF hl hd (rel.put k rv) dd')
 . subst ey eH;cases (show u=Value.ref b from ry);obtain⟨z,hd,xs,rel,dd⟩:=EC I.hok e;have hz:xs.length<=sizeLine:=by rw[← TX rel];exact z
   have hl:(putK Ql k v).length<=sizeLine:=by have:=rb Ql k v;omega
   refine wpAny_setItem_heap (hsz:=hz) (Su hu) (pI I.hok eb) dd fun h' dd' hs=>h _ ?_;obtain⟨q,es,ep,hq,h2,h3,h4,_,h5⟩:=dd';refine yL I (by rw[e];exact True.intro) hs ⟨q,hq⟩ ⟨hl,hd,_,(rel.put k eb rv).keeps fun c ys ec=>?_,q,es,ep,hq,h2,h3,h4,h5⟩;rw[ao (Es ec e (fun z=>nomatch z))];exact ec
end
section
variable{X:Cx}{Qi:List (Addr × Obj)}{σ:St}{H:Hp}{s:Shared}{a:Addr}{Ql:List (Key × V)}{k:Key}{u:Value}{A:Around}{E:Value->Shared->Prop}
theorem ED{Q:Value->Shared->Prop}(I:Inv X Qi σ H s)(e:Rd H a (.dK Ql))(h:∀ t s',Inv X Qi σ H s'->Q (.int Ql.length t) s'):wpAny (model X.prog X.w) A (call (.builtin "len") [.ref a]) Q E s:=by
 obtain⟨z,hd,vs,rel,dd⟩:=qA I.hok e;refine call_len_dict hd dd (by rw[← rel.length];rw[sizeLine_eq] at z;omega) ?_;rw[← rel.length];exact h _ _ (I.tok _)
end
theorem x9{X:Cx}{Qi:List (Addr × Obj)}{σ:St}{s:Shared}{a:Addr}{y:V}{o:Option V}(I:Inv X Qi σ H s)(g:DGet H a y o):s.TypeIs (.ref a) "dict":=by
 rcases g with ⟨Ql,k,e,_,_⟩ | ⟨Ql,k,b,e,_,_,_⟩
 . obtain⟨_,_,vs,_,dd⟩:=qA I.hok e;exact dd.typeIs
 . obtain⟨_,_,xs,_,dd⟩:=sK I.hok e;exact dd.typeIs
def sDPut(td ty tv:TE):TS:=fun D σ H=>tv σ H fun v H1=>td σ H1 fun x H2=>ty σ H2 fun y H3=>∃ a H4,x=.ref a/\DPut H3 a y v H4/\D.nx σ H4
def DG:TE:=fun _ H Q=>∀ p,H p=none->Q (.ref p) (upd H p (.dK []))
section
variable{X:Cx}
theorem At:CallR X (.builtin "len") (fun xs H Q=>∃ a Ql,xs=[V.ref a]/\H a=some (.dK Ql)/\Q (.int Ql.length) H):=by
 intro Qi s σ H xs us Q I r h;obtain⟨a,Ql,rfl,ha,q⟩:=h;obtain⟨u,rfl,ru⟩:=dc r;cases ru;exact ED I (.inl ha) fun t s' I'=>⟨.int Ql.length,H,I',⟨t,rfl⟩,q⟩
end
theorem cN{α:Type}(x:Str):∀(a b:List (Str × α)),(a++b).lookup x=match a.lookup x with | some c=>some c | none=>b.lookup x
 | [],b=>rfl
 | (k,v)::r,b=>by
  rw[List.cons_append,Rw,Rw]
  cases x==k with
  | true=>rfl
  | false=>exact cN x r b
theorem li:∀(names:List (Str × NameKind)) (n:Nat) (acc cl:List (Str × Addr)),cellsFrom n names (acc++cl)=cellsFrom n names acc++cl
 | [],_,_,_=>rfl
 | (y,k)::r,n,acc,cl=>by
  unfold cellsFrom
  split
  . rw[← List.cons_append];exact li r _ _ cl
  . exact li r _ _ cl
theorem il{x:Str}{c:Addr}:∀(names:List (Str × NameKind)) (n:Nat) (acc:List (Str × Addr)),(x,c)∈cellsFrom n names acc->(x,NameKind.cell)∈names\/(x,c)∈acc
 | [],_,_,h=>.inr h
 | (y,k)::r,n,acc,h=>by
  unfold cellsFrom at h
  split at h
  . rename_i hk
    have hk:k=.cell:=by simpa using hk
    subst hk;rcases il r _ _ h with z | z
    . exact .inl (QH _ z)
    . rcases QV.mp z with z | z
      . cases z;exact .inl QK
      . exact .inr z
  . rcases il r _ _ h with z | z
    . exact .inl (QH _ z)
    . exact .inr z
theorem ot {env:Env} (f:Str × NameKind->List (Str × Addr)->Sem (ForInStep (List (Str × Addr))))
  (hf:∀ name kind cs,f (name,kind) cs=if kind==.free then(do let a ← cellOf env name;pure (.yield ((name,a)::cs))) else pure (.yield cs)):
  ∀(names:List (Str × NameKind)) (acc:List (Str × Addr)),(∀ x,(x,NameKind.free)∈names->∃ c,env.cells.lookup x=some c)->(∀ x c,acc.lookup x=some c->env.cells.lookup x=some c)->
   ∃ cl,forIn names acc f=(pure cl:Sem _)/\(∀ x c,cl.lookup x=some c->env.cells.lookup x=some c)/\(∀ x,((x,NameKind.free)∈names\/∃ c,acc.lookup x=some c)->∃ c,cl.lookup x=some c)
 | [],acc,_,h2=>⟨acc,rfl,h2,fun x h=>h.elim (fun z=>nomatch z) id⟩
 | (y,k)::r,acc,h1,h2=>by
  rw[List.forIn_cons,hf];by_cases hk:(k==NameKind.free)=true
  . rw[Q6 hk];have hk':k=.free:=by simpa using hk
    subst hk';obtain⟨c,hc⟩:=h1 y QK;have e:(cellOf env y:Sem Addr)=pure c:=by unfold cellOf;rw[hc]
    rw[e]
    obtain⟨cl,e1,e2,e3⟩:=ot f hf r ((y,c)::acc) (fun x hx=>h1 x (QH _ hx)) (fun x c' hx=>by
     rw[Rw] at hx
     cases hb:x==y with
     | true=>rw[hb] at hx;cases hx;rw[Sk.mp hb];exact hc
     | false=>rw[hb] at hx;exact h2 x c' hx)
    refine⟨cl,?_,e2,fun x hx=>e3 x ?_⟩
    . exact e1
    . rcases hx with hx | ⟨c',hx⟩
      . rcases QV.mp hx with z | z
        . cases z;exact .inr ⟨c,by rw[Rw];simp⟩
        . exact .inl z
      . cases hb:x==y with
        | true=>exact .inr ⟨c,by rw[Rw,hb]⟩
        | false=>exact .inr ⟨c',by rw[Rw,hb];exact hx⟩
  . rw[QT hk];obtain⟨cl,e1,e2,e3⟩:=ot f hf r acc (fun x hx=>h1 x (QH _ hx)) h2;refine⟨cl,e1,e2,fun x hx=>e3 x ?_⟩;rcases hx with hx | hx
    . rcases QV.mp hx with z | z
      . cases z;exact absurd rfl hk
      . exact .inl z
    . exact .inr hx
variable{scope:Scope}
theorem zr{env:Env}(h:∀ x,(x,NameKind.free)∈scope.names->∃ c,env.cells.lookup x=some c):
  ∃ cl,closureFor scope env=pure cl/\(∀ x c,cl.lookup x=some c->env.cells.lookup x=some c)/\∀ x,(x,NameKind.free)∈scope.names->∃ c,cl.lookup x=some c:=by
 obtain⟨cl,e1,e2,e3⟩:=ot (env:=env) (fun x cs=>match x with | (name,kind)=>if kind==.free then(do let a ← cellOf env name;pure (.yield ((name,a)::cs))) else pure (.yield cs)) (fun _ _ _=>rfl) scope.names [] h (fun x c hx=>nomatch hx);refine⟨cl,?_,e2,fun x hx=>e3 x (.inl hx)⟩
 have:closureFor scope env=(forIn scope.names [] (fun x cs=>match x with | (name,kind)=>if kind==.free then(do let a ← cellOf env name;pure (.yield ((name,a)::cs))) else pure (.yield cs)) >>= fun cs=>pure cs):=by
  simp only[closureFor]
 rw[this,e1];rfl
def Au(scope:Scope)(cl:List (Str × Addr))(C:Addr)(env:Env):Env:=
 {newEnv scope C env.globals (cellsFrom (C+1) scope.names cl) env.qual none .none (some env) builtinsNs with scope:=relabel scope env}
theorem BH {M:Model} {A:Around} {E:Value->Shared->Prop} {s:Shared} {cl:List (Str × Addr)} {env:Env} {Q:Env->Shared->Prop}
  (hQ:Q (newEnv scope s.heap.objs.size env.globals (cellsFrom (s.heap.objs.size+1) scope.names cl) env.qual none .none (some env) builtinsNs) {s with heap:=pushCells (s.heap.push {cls:=.type "dict",data:=.dict #[]}) scope.names}):
  wpAny M A (newFunctionEnv scope env.globals cl [] env.qual none .none (some env)) Q E s:=by
 simp only[newFunctionEnv,Option.isSome_some,T4];refine Rg (wpAny_alloc ?_);refine Rg (wpAny_layCells _ (fun name kind cells=>by cases hkc:kind==NameKind.cell <;> simp[hkc]) _ _ _ _ ?_);rw[show({s with heap:=s.heap.push {cls:=.type "dict",data:=.dict #[]}}:Shared).heap.objs.size=s.heap.objs.size+1 from Se ..];refine Rg ?_;rw[List.forIn_nil];exact Ru (Ru hQ)
section
variable{prog:Program}{w:World}{A:Around}{E:Value->Shared->Prop}{R:Result->Shared->Prop}{s:Shared}
theorem Av {elt target iter:Expr} {ifs:List Expr} {scope:Scope} {pos:Pos} {it acc:Value} {env:Env} (I:Nat->Shared->Prop)
  (turn:∀ n s,I n s->wpAny (model prog w) A (pyNext it) (fun r s₁=>match r with
   | none=>R (.ok .next) s₁
   | some v=>wpAny (model prog w) A (letOwnedTupleGo target it v) (fun _ s₁'=>wpAny (model prog w) A (assign target env v) (fun _ s₂=>
     wpAny (model prog w) A (forIn ifs true fun c r=>if r=true then do let ok ← isTrue c env (eval c env);pure (ForInStep.yield ok) else pure (ForInStep.yield r)) (fun ok s₃=>
      if ok=true then wpAny (model prog w) A (eval elt env) (fun x s₄=>
       wpAny (model prog w) A (call (.builtin "list.append") [acc,x]) (fun _ s₅=>∃ m,m<n/\I m s₅) (notedBy (model prog w) A env fun e s'=>R (.error e) s') s₄) (notedBy (model prog w) A env fun e s'=>R (.error e) s') s₃
      else ∃ m,m<n/\I m s₃) (notedBy (model prog w) A env fun e s'=>R (.error e) s') s₂) (notedBy (model prog w) A env fun e s'=>R (.error e) s') s₁') (notedBy (model prog w) A env fun e s'=>R (.error e) s') s₁) (notedBy (model prog w) A env fun e s'=>R (.error e) s') s)
  (n:Nat) (h:I n s):
  codeAny (model prog w) A (.compLoop (.ListComp elt [⟨target,iter,ifs,0⟩] scope pos) 0 it acc env) R s:=by
 refine codeAny_loop rfl I (fun n s hI=>?_) n h;show wpAny _ A ((compTurn (.ListComp elt [⟨target,iter,ifs,0⟩] scope pos) 0 it acc env).onRaise (fun x=>do noteFrame x env;theTreesLotGoes x)) _ _ s;refine wpAny_noted ?_;rw[compTurn_list];refine Rg (TY (Rg (RJ (turn n s hI) (fun r s₁ h₁=>?_) fun _ _ h'=>h')))
 cases r with
 | none=>exact Ru h₁
 | some v=>
  refine Rg (RJ h₁ (fun _ s₁' h₁'=>?_) fun _ _ h'=>h');refine Rg (RJ h₁' (fun _ s₂ h₂=>Rg (RJ h₂ (fun ok s₃ h₃=>?_) fun _ _ h'=>h')) fun _ _ h'=>h')
  cases ok with
  | false=>exact Ru ⟨rfl,h₃⟩
  | true=>
   exact Rg (Rg (RJ h₃ (fun x s₄ h₄=>Rg (RJ h₄ (fun _ s₅ h₅=>Ru (Ru ⟨rfl,h₅⟩)) fun _ _ h'=>h')) fun _ _ h'=>h'))
end
variable{scope:Scope}
theorem md{env:Env}{x:Str}{k:NameKind}(h:(relabel scope env).names.lookup x=some k):∃ k',scope.names.lookup x=some k'/\(k=k'\/(k'=.free/\k=.cell)):=by
 unfold relabel at h;dsimp only at h;generalize scope.names=names at h ⊢
 induction names with
 | nil=>cases h
 | cons p r ih=>
  obtain⟨n,k0⟩:=p;rw[Rc] at h;rw[Rw]
  cases hb:x==n with
  | true=>
   refine⟨k0,rfl,?_⟩;dsimp only at h
   split at h
   . rename_i hc
     rw[Rw,hb] at h;cases h;simp only[Rk,Sk] at hc;exact .inr ⟨hc.1.1,rfl⟩
   . rw[Rw,hb] at h;cases h;exact .inl rfl
  | false=>
   dsimp only at h;refine ih ?_
   split at h
   . rw[Rw,hb] at h;exact h
   . rw[Rw,hb] at h;exact h
def blkCx(X:Cx)(N:List Str)(scope:Scope)(cl:List (Str × Addr))(s:Shared)(H:Hp)(fp:List Addr):Cx where
 prog:=X.prog
 w:=X.w
 K:=X.K
 mg:=X.mg
 base:=X.base
 A:=X.A
 N:=N
 s₀:=s
 H₀:=H
 env:=Au scope cl (s.heap.objs.size+1) X.env
 outer:=X.stack
 stack:=X.stack
 ex:=fp
 fn:=fun x=>scope.names.lookup x==some .cell
 calm:=X.calm
 pn:=[]
 xe:=fun e₀ s₁=>(∃(Qi:List (Addr × Obj)) (σ:St),Inv X Qi σ H s/\∀ b∈fp,FpOk X Qi H b)->notedBy (model X.prog X.w) X.A (Au scope cl (s.heap.objs.size+1) X.env) (fun x s'=>∃ m,s'.heap.Ns (s.heap.objs.size+1) m/\∀ h',Heap.SameBut (s.heap.objs.size+1) s'.heap h'->∀ cenv:Env,cenv.locals=s.heap.objs.size+1->
  wpAny (model X.prog X.w) X.A (passOn "comprehension.variables-let-go" x cenv:Sem Value) (fun _ _=>False) X.xe {s' with heap:=h'}) e₀ s₁
def subσ(ix:List (Option Nat))(σ:St):St:=ix.map fun o=>match o with | none=>none | some i=>match σ[i]? with | some v=>v | none=>none
structure BlkOk(X:Cx)(N:List Str)(ix:List (Option Nat))(scope:Scope):Prop where
 kind:scope.kind=.function
 nd:N.Nodup
 len:ix.length=N.length
 names:(scope.names.map (·.1)).Nodup
 free:∀ x,(x,NameKind.free)∈scope.names->X.env.kindOf x=some .cell\/X.env.kindOf x=some .free
 at_:∀(j i:Nat) (x:Str),N[j]? =some x->ix[j]? =some (some i)->X.N[i]? =some x/\(x,NameKind.free)∈scope.names
theorem eQ{α:Type}:∀{l:List (Str × α)} {x:Str} {k:α},(l.map (·.1)).Nodup->(x,k)∈l->l.lookup x=some k
 | (y,k0)::r,x,k,nd,h=>by
  rw[Rc,RA] at nd;rw[Rw];rcases QV.mp h with e | e
  . cases e;simp
  . have:x≠y:=by
     rintro rfl;exact nd.1 (QS.mpr ⟨(x,k),e,rfl⟩)
    have hb:(x==y)=false:=by simpa using this
    rw[hb];exact eQ nd.2 e
theorem Aw {X:Cx} {Qi:List (Addr × Obj)} {σ:St} {H:Hp} {s:Shared} {N:List Str} {ix:List (Option Nat)} {cl:List (Str × Addr)} {fp:List Addr} (B:BlkOk X N ix scope)
  (I:Inv X Qi σ H s) (hcl:∀ x c,cl.lookup x=some c->X.env.cells.lookup x=some c) (hcf:∀ x,(x,NameKind.free)∈scope.names->∃ c,cl.lookup x=some c)
  (hfp:∀ b∈fp,FpOk X Qi H b) (hob:∀ b∈fp,∃ o,s.heap.get? b=some o/\∀ v,o.data≠.cell v):
  Inv (blkCx X N scope cl s H fp) [] (subσ ix σ) (upd H s.heap.objs.size (.lst []))
   {s with heap:=pushCells ((s.heap.push {cls:=.type "list",data:=.seq #[]}).push {cls:=.type "dict",data:=.dict #[]}) scope.names}:=by
 have hs2:(s.heap.push {cls:=.type "list",data:=.seq #[]}).objs.size=s.heap.objs.size+1:=Se ..;have hs3:((s.heap.push {cls:=.type "list",data:=.seq #[]}).push {cls:=.type "dict",data:=.dict #[]}).objs.size=s.heap.objs.size+2:=by rw[Se,hs2]
 have hk:∀ b o,s.heap.get? b=some o->(pushCells ((s.heap.push {cls:=.type "list",data:=.seq #[]}).push {cls:=.type "dict",data:=.dict #[]}) scope.names).get? b=some o:=
  fun b o e=>SV _ _ b o (QP _ (QP _ e))
 have hl:(pushCells ((s.heap.push {cls:=.type "list",data:=.seq #[]}).push {cls:=.type "dict",data:=.dict #[]}) scope.names).get? s.heap.objs.size=some {cls:=.type "list",data:=.seq #[]}:=
  SV _ _ _ _ (QP _ (Rm _ rfl))
 have ok0:=cellsFrom_ok scope.names ((s.heap.push {cls:=.type "list",data:=.seq #[]}).push {cls:=.type "dict",data:=.dict #[]}) (s.heap.objs.size+2) [] ⟨fun _ _ hm=>(nomatch hm),List.Pairwise.nil⟩ (by rw[hs3];exact QR _);rw[hs3] at ok0
 have hcells:(blkCx X N scope cl s H fp).env.cells=cellsFrom (s.heap.objs.size+2) scope.names []++cl:=by
  show cellsFrom (s.heap.objs.size+1+1) scope.names cl=_;rw[← List.nil_append cl,li];simp
 have cases_:∀ x c,(blkCx X N scope cl s H fp).env.cells.lookup x=some c->((x,c)∈cellsFrom (s.heap.objs.size+2) scope.names []/\(x,NameKind.cell)∈scope.names)\/((cellsFrom (s.heap.objs.size+2) scope.names []).lookup x=none/\cl.lookup x=some c):=fun x c e=>by
  rw[hcells,cN] at e
  cases q:(cellsFrom (s.heap.objs.size+2) scope.names []).lookup x with
  | none=>rw[q] at e;exact .inr ⟨rfl,e⟩
  | some c'=>
   rw[q] at e;cases e;have m:=RF q;refine .inl ⟨m,?_⟩;rcases il _ _ _ m with z | z
   . exact z
   . exact nomatch z
 have oldc:∀ x c,cl.lookup x=some c->c<s.heap.objs.size:=fun x c e=>by
  obtain⟨v,q⟩:=I.cell x c (hcl x c e);exact q.lt
 have hfree:H s.heap.objs.size=none:=I.hok.fresh (QR _)
 have hfix:∀ b,s.heap.objs.size<b->(upd H s.heap.objs.size (.lst [])) b=none:=fun b hb=>by
  rw[ao (S5 hb)];exact I.hok.fresh (Rf hb)
 have hlt:∀ b∈fp,b<s.heap.objs.size:=fun b hb=>by
  obtain⟨o,e,_⟩:=hob b hb;exact QY e
 have e0:=I.env0;have isnew:∀ x c,(x,c)∈cellsFrom (s.heap.objs.size+2) scope.names []->s.heap.objs.size+2<=c:=fun x c m=>(ok0.empty x c m).2
 refine⟨⟨I.ok.mod,B.kind,I.ok.glob,I.ok.blt,SS _,fun x y c e1 e2=>?_,fun x hx=>?_,fun x c hx e=>?_,I.ok.hd,I.ok.frames,.inl rfl,fun b hb=>⟨?_,fun x c e=>?_⟩,e0.bs,e0.bsz,fun b o e hb=>?_,fun b hb hb2=>?_,e0.funs,e0.frf⟩,
  rfl,I.bare,Un.laid hk (QR _) hfree,⟨fun _=>none,?_,fun j x v e1 e2 e3=>?_⟩,fun x c e=>?_,hfix _ (SH _),fun x c e=>?_,fun p hp=>absurd (show p∈([]:List (Addr × Obj)) from hp) (by simp),?_,?_⟩
 . rcases cases_ x c e1 with ⟨m1,k1⟩ | ⟨n1,q1⟩ <;> rcases cases_ y c e2 with ⟨m2,k2⟩ | ⟨n2,q2⟩
   . exact name_of_addr ok0.apart m1 m2
   . exact absurd (Q9 (oldc _ _ q2) (QG (SK _ _) (isnew _ _ m1))) (R4 _)
   . exact absurd (Q9 (oldc _ _ q1) (QG (SK _ _) (isnew _ _ m2))) (R4 _)
   . exact I.ok.inj x y c (hcl _ _ q1) (hcl _ _ q2)
 . have hx':(relabel scope X.env).names.lookup x=some .cell\/(relabel scope X.env).names.lookup x=some .free:=hx
   have key:scope.names.lookup x=some .cell\/scope.names.lookup x=some .free:=by
    rcases hx' with z | z
    . obtain⟨k',e,r | r⟩:=md z
      . rw[← r] at e;exact .inl e
      . rw[r.1] at e;exact .inr e
    . obtain⟨k',e,r | r⟩:=md z
      . rw[← r] at e;exact .inr e
      . cases r.2
   rw[hcells];rcases key with z | z
   . obtain⟨c,q⟩:=or (n:=s.heap.objs.size+2) z;exact⟨c,by rw[cN,q]⟩
   . obtain⟨c,q⟩:=hcf x (RF z)
     cases q2:(cellsFrom (s.heap.objs.size+2) scope.names []).lookup x with
     | none=>exact⟨c,by rw[cN,q2];exact q⟩
     | some c'=>exact⟨c',by rw[cN,q2]⟩
 . have hx':scope.names.lookup x=some .cell:=by simpa [blkCx] using hx
   rcases cases_ x c e with ⟨m1,k1⟩ | ⟨n1,q1⟩
   . exact QG (SK _ _) (isnew _ _ m1)
   . obtain⟨c',q⟩:=or (n:=s.heap.objs.size+2) hx';rw[q] at n1;cases n1
 . exact Rt (RY (hlt b hb))
 . rcases cases_ x c e with ⟨m1,k1⟩ | ⟨n1,q1⟩
   . exact S5 (Q9 (hlt b hb) (QG (SK _ _) (isnew _ _ m1)))
   . exact(hfp b hb).2.2.2.2.1 x c (hcl _ _ q1)
 . rcases(hfp b hb).2.2.2.1 with z | z
   . exact I.ok.noex b o e z
   . exact absurd (Q9 (QY e) (QG I.ok.bsz z)) (R4 _)
 . rcases QV.mp (I.stkSub b hb2) with z | z
   . exact(hfp b hb).2.1 z
   . exact(hfp b hb).2.2.1 z
 . show Heap.Ns _ (s.heap.objs.size+1) _;rw[← hs2];exact(Heap.Ns.new _ (.type "dict")).keeps (SV _ _)
 .
   unfold subσ at e2;rw[QD] at e2
   cases q:ix[j]? with
   | none=>rw[q] at e2;cases e2
   | some o=>
    rw[q] at e2
    cases o with
    | none=>cases e2
    | some i=>
     simp only[Option.map_some,Option.some.injEq] at e2;obtain⟨hN,hm⟩:=B.at_ j i x e1 q
     have hσ:σ[i]? =some (some v):=by
      cases q2:σ[i]? with
      | none=>rw[q2] at e2;cases e2
      | some z=>rw[q2] at e2;exact congrArg some e2
     obtain⟨m,hn,hl'⟩:=I.loc;have hkind:=B.free x hm;have hvis:Vis X.env.scope x:=hkind.elim (fun z=>.inr (.inl z)) fun z=>.inr (.inr z);obtain⟨u,ru,lk⟩:=hl' i x v hN hσ hvis;refine⟨u,ru,?_⟩;obtain⟨c,hc⟩:=hcf x hm
     have hnone:(cellsFrom (s.heap.objs.size+2) scope.names []).lookup x=none:=by
      cases q2:(cellsFrom (s.heap.objs.size+2) scope.names []).lookup x with
      | none=>rfl
      | some c'=>
       rcases il _ _ _ (RF q2) with z | z
       . have a1:=eQ B.names z;have a2:=eQ B.names hm;rw[a1] at a2;cases a2
       . exact nomatch z
     have hcell:(blkCx X N scope cl s H fp).env.cells.lookup x=some c:=by rw[hcells,cN,hnone];exact hc
     have hkk:(blkCx X N scope cl s H fp).env.kindOf x=some .cell\/(blkCx X N scope cl s H fp).env.kindOf x=some .free:=by
      rcases e3 with z | z | z
      . obtain⟨k',e,r | r⟩:=md (show(relabel scope X.env).names.lookup x=some .local from z)
        . rw[eQ B.names hm] at e;cases e;cases r
        . cases r.2
      . exact .inl z
      . exact .inr z
     refine .inr ⟨hkk,c,hcell,?_⟩;rcases lk with ⟨k1,_⟩ | ⟨_,c2,e4,z⟩
     . rcases hkind with z | z <;> rw[k1] at z <;> cases z
     . rw[hcl x c hc] at e4;cases e4;exact z.keeps hk
 . rcases cases_ x c e with ⟨m1,k1⟩ | ⟨n1,q1⟩
   . exact⟨none,(ok0.empty x c m1).1⟩
   . obtain⟨v,z⟩:=I.cell x c (hcl _ _ q1);exact⟨v,z.keeps hk⟩
 . rcases cases_ x c e with ⟨m1,k1⟩ | ⟨n1,q1⟩
   . exact hfix c (Q9 (Nat.lt_add_of_pos_right (by decide)) (isnew _ _ m1))
   . rw[ao (Rt (oldc _ _ q1))];exact I.freeC x c (hcl _ _ q1)
 . exact I.hok.laid hk (QR _) ⟨Rx _,[],0,.nil,hl⟩
 . show(subσ ix σ).length=N.length;unfold subσ;rw[Qu];exact B.len
def PTs(X:Cx)(ifs:List Expr)(t:TT):Prop:=
 ∀(Qi:List (Addr × Obj)) (s:Shared) (σ:St) (H:Hp) (Q:Bool->Hp->Prop),Inv X Qi σ H s->t σ H Q->
  wpAny (model X.prog X.w) X.A (forIn ifs true fun c r=>if r=true then do let ok ← isTrue c X.env (eval c X.env);pure (ForInStep.yield ok) else pure (ForInStep.yield r)) (TP X Qi σ Q) X.xe s
def tTrue:TT:=fun _ H Q=>Q true H
theorem ba{X:Cx}:PTs X [] tTrue:=fun _ _ _ H _ I h=>wpAny_tests_nil ⟨H,I,h⟩
theorem bi{X:Cx}{c:Expr}{t:TT}(h:PT X c t):PTs X [c] t:=fun Qi s σ H Q I q=>wpAny_tests_one (h Qi s σ H Q I q)
def wE(ix:List (Option Nat))(wi:TI)(g:TG)(tt:TT)(te:TE)(fin:Addr->Hp->Prop):St->Hp->Prop:=fun σ H=>wi σ H fun J H1=>∀ l,H1 l=none->
 ∃ W:Nat->Nat->St->Hp->Prop,(∃ m,W 0 m (subσ ix σ) (upd H1 l (.lst [])))/\∀ i m σ' H',W i m σ' H'->
  (J.stop i H'/\fin l H')\/(J.go i H'/\∃ N:St->Hp->Prop,(∀ σ'' H'',N σ'' H''->∃ m',m'<m/\W (i+1) m' σ'' H'')/\∀ x H2,J.yld i H' x H2->g x σ' H2 fun σ2 H3=>tt σ2 H3 fun b H4=>
   if b=true then te σ2 H4 fun y H5=>∃ ys,H5 l=some (.lst ys)/\ys.length<sizeLine/\N σ2 (upd H5 l (.lst (ys++[y]))) else N σ2 H4)
section
variable{X:Cx}{Qi:List (Addr × Obj)}{σ σ':St}{H H':Hp}{s s':Shared}{N:List Str}{scope:Scope}{cl:List (Str × Addr)}{fp:List Addr}
theorem yM{h':Heap}(I:Inv X Qi σ H s)(J:Inv (blkCx X N scope cl s H fp) [] σ' H' s')(hfp:∀ b∈fp,FpOk X Qi H b)(sb:Heap.SameBut (s.heap.objs.size+1) s'.heap h'):Inv X Qi σ H' {s' with heap:=h'}:=by
 have u:Un (frs X.stack) fp H H' s.heap s'.heap:=J.base;have hC:H' (s.heap.objs.size+1)=none:=J.free;have ne:∀ b o,s.heap.get? b=some o->b≠s.heap.objs.size+1:=fun b o e=>Rt (RY (QY e));refine I.call' (s':={s' with heap:=h'}) (ch:=fp) J.os ⟨fun b o e n hb hx=>?_,fun b o e n hb hx=>?_,u.free,fun b o e hx=>?_,u.tups,u.frzs,u.tbls⟩ (fun b ob e=>?_) J.bare fun b hb=>?_
 . exact(sb.2 b (ne b o e)).trans (u.keep b o e n hb hx)
 . obtain⟨sl,q⟩:=u.slot b o e n hb hx;exact⟨sl,(sb.2 b (ne b o e)).trans q⟩
 . obtain⟨o',q⟩:=u.there b o e hx;exact⟨o',(sb.2 b (ne b o e)).trans q⟩
 . refine(J.hok b ob e).stay (fun c w' hc q=>(sb.2 c ?_).trans q) (fun _ q=>q) fun _ _ q=>q;rintro rfl;rcases hc with rfl | hc
   . rw[hC] at e;cases e
   . rw[hC] at hc;cases hc
 . obtain⟨f0,f1,f2,f3,f4,f5⟩:=hfp b hb;exact⟨f3,f1,f4,f5⟩
theorem wF {tg iter elt:Expr} {ifs:List Expr} {pos:Pos} {ix:List (Option Nat)} {wi:TI} {g:TG} {tt:TT} {te:TE} {fin:Addr->Hp->Prop} {RR:Value->Addr->Result->Shared->Prop} (B:BlkOk X N ix scope) (hc:X.calm=true)
  (hi:PI X tg iter wi) (hg:∀ cl s H fp,PG (blkCx X N scope cl s H fp) tg g) (ht:∀ cl s H fp,PTs (blkCx X N scope cl s H fp) ifs tt) (he:∀ cl s H fp,PE (blkCx X N scope cl s H fp) elt te)
  (hcl:∀ x c,cl.lookup x=some c->X.env.cells.lookup x=some c) (hcf:∀ x,(x,NameKind.free)∈scope.names->∃ c,cl.lookup x=some c)
  (I:Inv X Qi σ H s) (h:wE ix wi g tt te fin σ H)
  (ok:∀(s2:Shared) (H2:Hp) (fp:List Addr) (σ3:St) (H3:Hp) (s3:Shared),Inv X Qi σ H2 s2->(∀ b∈fp,FpOk X Qi H2 b)->Inv (blkCx X N scope cl s2 H2 fp) [] σ3 H3 s3->fin s2.heap.objs.size H3->RR (.ref s2.heap.objs.size) (s2.heap.objs.size+1) (.ok .next) s3)
  (bad:∀(a C:Addr) (x:Value) (s':Shared),(∃ m,s'.heap.Ns C m/\∀ h',Heap.SameBut C s'.heap h'->∀ cenv:Env,cenv.locals=C->wpAny (model X.prog X.w) X.A (passOn "comprehension.variables-let-go" x cenv:Sem Value) (fun _ _=>False) X.xe {s' with heap:=h'})->RR (.ref a) C (.error x) s'):
  wpAny (model X.prog X.w) X.A (eval iter X.env) (fun x s₁=>wpAny (model X.prog X.w) X.A (pyIter x) (fun it s₂=>wpAny (model X.prog X.w) X.A (newList []) (fun acc s₃=>
   wpAny (model X.prog X.w) X.A (newFunctionEnv scope X.env.globals cl [] X.env.qual none .none (some X.env)) (fun cenv s₄=>
    codeAny (model X.prog X.w) X.A (.compStart (.ListComp elt [⟨tg,iter,ifs,0⟩] scope pos) 0 it acc {cenv with scope:=relabel scope X.env}) (RR acc cenv.locals) s₄) X.xe s₃) X.xe s₂) X.xe s₁) X.xe s:=by
 refine thn (hi Qi s σ H _ I h) fun v s1 h1=>thn h1 fun itv s2 h2=>?_;obtain⟨it,fp,tn,J,H2,e,I2,T,st2,f2,h2⟩:=h2;subst e;refine wpAny_newList (BH ?_) (Rx _);have hs2:(s2.heap.push {cls:=.type "list",data:=.seq (([]:List Value)).toArray}).objs.size=s2.heap.objs.size+1:=Se ..;dsimp only;rw[hs2];have I3:=Aw (fp:=fp) B I2 hcl hcf f2 (T.obj _ _ st2);obtain⟨W,⟨m0,w0⟩,turn⟩:=h2 s2.heap.objs.size I2.fresh
 have hk:∀ b o,s2.heap.get? b=some o->(pushCells ((s2.heap.push {cls:=.type "list",data:=.seq #[]}).push {cls:=.type "dict",data:=.dict #[]}) scope.names).get? b=some o:=
  fun b o e=>SV _ _ b o (QP _ (QP _ e))
 have st3:=T.keep _ _ _ st2 fun b _ o e=>hk b o e
 have fr3:∀ b∈fp,(upd H2 s2.heap.objs.size (.lst [])) b=none:=fun b hb=>by
  obtain⟨o,e,_⟩:=T.obj _ _ st2 b hb;rw[ao (Rt (QY e))];exact(f2 b hb).1
 have stat:∀{σ5:St} {H5:Hp} {s5:Shared},Inv (blkCx X N scope cl s2 H2 fp) [] σ5 H5 s5->(∀ b∈fp,H5 b=none)->∀ b∈fp,FpOk (blkCx X N scope cl s2 H2 fp) [] H5 b:=fun I5 hn b hb=>
  ⟨hn b hb,(I5.ok.exf b hb).1,I5.ok.exfs b hb,.inl hb,(I5.ok.exf b hb).2,fun p hp=>absurd (show p∈([]:List (Addr × Obj)) from hp) (by simp)⟩
 have loop:∀ s₃:Shared,s₃={s2 with heap:=pushCells ((s2.heap.push {cls:=.type "list",data:=.seq #[]}).push {cls:=.type "dict",data:=.dict #[]}) scope.names}->
   codeAny (model X.prog X.w) X.A (.compLoop (.ListComp elt [⟨tg,iter,ifs,0⟩] scope pos) 0 (.ref it) (.ref s2.heap.objs.size) (blkCx X N scope cl s2 H2 fp).env) (RR (.ref s2.heap.objs.size) (s2.heap.objs.size+1)) s₃:=by
  rintro s₃ rfl;refine Av (fun n s'=>∃ i σ' H',Inv (blkCx X N scope cl s2 H2 fp) [] σ' H' s'/\tn i s'.heap/\(∀ b∈fp,H' b=none)/\W i n σ' H') ?_ m0 ⟨0,_,_,I3,st3,fr3,w0⟩;rintro n s4 ⟨i,σ4,H4,I4,st4,fr4,w4⟩
  have xe_:∀ x s',(blkCx X N scope cl s2 H2 fp).xe x s'->notedBy (model X.prog X.w) X.A (blkCx X N scope cl s2 H2 fp).env (fun e s'=>RR (.ref s2.heap.objs.size) (s2.heap.objs.size+1) (.error e) s') x s':=fun x s' hx=>
   RJ (hx ⟨Qi,σ,I2,f2⟩) (fun _ s'' q=>bad _ _ _ _ q) fun e s'' q=>bad _ _ _ _ q
  rcases turn i n σ4 H4 w4 with ⟨stop,qn⟩ | ⟨go,Nx,hN,step⟩
  . refine RJ (T.done (blkCx X N scope cl s2 H2 fp) rfl rfl rfl hc i [] s4 σ4 H4 _ I4 (stat I4 fr4) st4 stop) (fun r s5 ⟨hr,I5⟩=>?_) xe_;subst hr;exact ok s2 H2 fp σ4 H4 s5 I2 f2 I5 qn
  . refine RJ (T.item (blkCx X N scope cl s2 H2 fp) rfl rfl rfl hc i [] s4 σ4 H4 _ I4 (stat I4 fr4) st4 go) (fun r s5 ⟨u,hr,h5⟩=>?_) xe_;subst hr;refine RJ h5 (fun _ s6 ⟨x,H6,I6,r6,y6,st6,fr6⟩=>?_) xe_;have I6':=I6.pinned (stat I6 fr6) (T.obj _ _ st6);refine RJ (hg cl s2 H2 fp _ s6 σ4 H6 x u _ I6' r6 (step x H6 y6)) (fun _ s7 ⟨σ7,H7,I7,q7⟩=>?_) xe_
    have again:∀{σ8:St} {H8:Hp} {s8:Shared},Inv (blkCx X N scope cl s2 H2 fp) ([]++pA fp s6.heap) σ8 H8 s8->Nx σ8 H8->∃ m,m<n/\∃ i σ' H',Inv (blkCx X N scope cl s2 H2 fp) [] σ' H' s8/\tn i s8.heap/\(∀ b∈fp,H' b=none)/\W i m σ' H':=fun{σ8 H8 s8} I8 n8=>by
     obtain⟨m',hm,w8⟩:=hN σ8 H8 n8;refine⟨m',hm,i+1,σ8,H8,I8.unpinned,T.keep _ _ _ st6 fun b hb o e=>(I8.pin (b,o) (Rv _ (Rv _ (lT hb e)))).1,fun b hb=>?_,w8⟩;obtain⟨o,e,d⟩:=T.obj _ _ st6 b hb;exact(I8.pin (b,o) (Rv _ (Rv _ (lT hb e)))).2.1
    refine RJ (ht cl s2 H2 fp _ s7 σ7 H7 _ I7 q7) (fun okb s8 ⟨H8,I8,q8⟩=>?_) xe_
    cases okb with
    | false=>exact again I8 q8
    | true=>
     refine RJ (he cl s2 H2 fp _ s8 σ7 H8 _ I8 q8) (fun y s9 ⟨yv,H9,I9,r9,ys,hl,hz,q9⟩=>?_) xe_;refine RJ (vq (X:=blkCx X N scope cl s2 H2 fp) _ s9 σ7 H9 (.ref s2.heap.objs.size) [yv] (.ref s2.heap.objs.size) [y] (fun _ H10=>Nx σ7 H10) I9 rfl (.cons r9 .nil) ⟨_,ys,yv,rfl,rfl,hl,hz,q9⟩) (fun _ s10 ⟨_,H10,I10,_,q10⟩=>?_) xe_;exact again I10 q10
 exact codeAny_compStart_list (loop _ rfl) (T.self _ 0 _ _ _ st3 (loop _ rfl))
def tComp(ix:List (Option Nat))(wi:TI)(g:TG)(tt:TT)(te:TE):TE:=fun σ H Q=>wE ix wi g tt te (fun l H'=>Q (.ref l) H') σ H
def sComp(k:Nat)(ix:List (Option Nat))(wi:TI)(g:TG)(tt:TT)(te:TE):TS:=fun D σ H=>wE ix wi g tt te (fun l H'=>D.nx (σ.set k (some (.ref l))) H') σ H
theorem yN(I:Inv X Qi σ H s){ix:List (Option Nat)}(B:BlkOk X N ix scope):∃ cl,closureFor scope X.env=pure cl/\(∀ x c,cl.lookup x=some c->X.env.cells.lookup x=some c)/\∀ x,(x,NameKind.free)∈scope.names->∃ c,cl.lookup x=some c:=
 zr fun x hx=>I.ok.has x (B.free x hx)
theorem rd{ix:List (Option Nat)}(B:BlkOk X N ix scope):∀ x∈scope.names,x.2=NameKind.local->scope.names.lookup x.1=some .local:=fun x hx e=>by
 obtain⟨n,k⟩:=x;cases e;exact eQ B.names hx
theorem aK {tg iter elt:Expr} {ifs:List Expr} {pos:Pos} {ix:List (Option Nat)} {wi:TI} {g:TG} {tt:TT} {te:TE} (N:List Str) (B:BlkOk X N ix scope) (hc:X.calm=true)
  (hi:PI X tg iter wi) (hg:∀ cl s H fp,PG (blkCx X N scope cl s H fp) tg g) (ht:∀ cl s H fp,PTs (blkCx X N scope cl s H fp) ifs tt) (he:∀ cl s H fp,PE (blkCx X N scope cl s H fp) elt te)
  (hs:∀ x,foldedSetIterable iter X.env x=pure x:=by intro _;rfl):PE X (.ListComp elt [⟨tg,iter,ifs,0⟩] scope pos) (tComp ix wi g tt te):=by
 intro Qi s σ H Q I h;obtain⟨cl,e1,e2,e3⟩:=yN I B;rw[eval_ListComp];refine Tn (use:=none) rfl hs e1 B.kind (rd B) ?_;refine wF (RR:=fun acc C=>compPost (model X.prog X.w) X.A X.xe none (EP X Qi σ Q) acc C) B hc hi hg ht he e2 e3 I h (fun s2 H2 fp σ3 H3 s3 I2 f2 J q=>?_) (fun a C x s' q=>q);obtain⟨m,hn,_⟩:=J.loc;exact⟨m,hn,fun h' sb=>⟨.ref _,H3,yM I2 J f2 sb,rfl,q⟩⟩
theorem l7 {y:Str} {py spos:Pos} {k:Nat} {tg iter elt:Expr} {ifs:List Expr} {pos:Pos} {ix:List (Option Nat)} {wi:TI} {g:TG} {tt:TT} {te:TE} (hN:X.N.Nodup) (hy:X.N[k]? =some y) (hx:Loc X.env.scope y)
  (hsw:swapsWith (.ListComp elt [⟨tg,iter,ifs,0⟩] scope pos) (some (.Name y py)) spos.line X.env=pure true) (N:List Str) (B:BlkOk X N ix scope) (hc:X.calm=true)
  (hi:PI X tg iter wi) (hg:∀ cl s H fp,PG (blkCx X N scope cl s H fp) tg g) (ht:∀ cl s H fp,PTs (blkCx X N scope cl s H fp) ifs tt) (he:∀ cl s H fp,PE (blkCx X N scope cl s H fp) elt te)
  (hs:∀ x,foldedSetIterable iter X.env x=pure x:=by intro _;rfl) (hf:X.fn y=true\/X.env.scope.names.lookup y=some .local:=by first | exact .inl rfl | exact .inr rfl | assumption):
  PS X (.Assign [.Name y py] (.ListComp elt [⟨tg,iter,ifs,0⟩] scope pos) spos) (sComp k ix wi g tt te):=by
 intro Qi s σ H D I h;obtain⟨cl,e1,e2,e3⟩:=yN I B;rw[exec_Assign_Name_used _ _ _ _ hsw];refine Rg (TY (Rg ?_));show wpAny _ X.A (do let _ ← comprehension (.ListComp elt [⟨tg,iter,ifs,0⟩] scope pos) scope X.env _ (newList []) false (eval iter X.env) (some (assign (.Name y py) X.env))) _ _ s;refine Rg (RJ (Tn (use:=some (assign (.Name y py) X.env)) (Q:=fun _ s'=>SP X Qi D .next s') rfl hs e1 B.kind (rd B) ?_) (fun _ s' hq=>Ru (Ru hq)) fun _ _ e=>e);refine wF (RR:=fun acc C=>compPost (model X.prog X.w) X.A X.xe (some (assign (.Name y py) X.env)) (fun _ s'=>SP X Qi D .next s') acc C) B hc hi hg ht he e2 e3 I h (fun s2 H2 fp σ3 H3 s3 I2 f2 J q=>?_) (fun a C x s' q=>q);obtain⟨m,hn,_⟩:=J.loc;have I3:Inv X Qi σ H3 {s3 with heap:=s3.heap}:=yM I2 J f2 (Heap.SameBut.refl _ _);show wpAny _ X.A (assign (.Name y py) X.env (.ref _)) _ _ _;refine wpAny_assign_Name (vg (v:=.ref _) I3 hN hy hx rfl (fun s4 I4 ⟨a,sb4,ha⟩=>?_) hf)
 have hlt:a<s2.heap.objs.size:=by
  rcases ha with rfl | ha
  . exact I2.lt
  . obtain⟨v,z⟩:=I2.cell _ _ ha;exact z.lt
 have hCa:s2.heap.objs.size+1≠a:=S5 (RY hlt);refine⟨m,hn.sameBut sb4 hCa,fun h' sb=>?_⟩;refine⟨_,H3,I4.turned (t':=s4.toks) (it:=s2.heap.objs.size+1) (fun b o hb e=>(sb.2 b hb).trans e) J.free (S5 (RY I2.lt)) (.inr (QG I2.sz (SS _))) (fun x c e=>?_) (fun p hp=>?_),q⟩
 . obtain⟨v,z⟩:=I2.cell x c e;exact Rt (RY z.lt)
 . exact Rt (RY (QY (I2.pin p hp).1))
end
def bnd{α:Type}:Option α->(α->Prop)->Prop
 | some a,k=>k a
 | none,_=>False
theorem be{α:Type}{o:Option α}{a:α}{k:α->Prop}(h:o=some a)(q:k a):bnd o k:=by subst h;exact q
theorem bc{α:Type}{o:Option α}{k:α->Prop}(h:bnd o k):∃ a,o=some a/\k a:=by
 cases o with
 | none=>exact h.elim
 | some a=>exact⟨a,rfl,h⟩
theorem ce{α:Type}{a:α}{k:α->Prop}:bnd (some a) k=k a:=rfl
def unM:Option HO->Option (List V)
 | some (.lst xs)=>some xs
 | _=>none
def unL:Option HO->Option (List V)
 | some (.lst xs)=>some xs
 | some (.frz _ (.lst xs))=>some xs
 | _=>none
def unS:Option HO->Option (List V)
 | some (.lst xs)=>some xs
 | some (.frz _ (.lst xs))=>some xs
 | some (.tup xs)=>some xs
 | _=>none
variable{o:Option HO}{xs:List V}
theorem gf(h:unM o=some xs):o=some (.lst xs):=by
 unfold unM at h;split at h
 . cases h;rfl
 . cases h
theorem pJ{K:Frag}{H:Hp}{p:Addr}(h:unL (H p)=some xs):SqL K H p xs:=by
 unfold unL at h;split at h
 . rename_i e;cases h;exact .inl (.inl e)
 . rename_i o _ e;cases h;exact .inl (.inr ⟨_,e⟩)
 . cases h
theorem oj{K:Frag}{H:Hp}{p:Addr}(h:unS (H p)=some xs):SqL K H p xs\/SqT K H p xs:=by
 unfold unS at h;split at h
 . rename_i e;cases h;exact .inl (.inl (.inl e))
 . rename_i o _ e;cases h;exact .inl (.inl (.inr ⟨_,e⟩))
 . rename_i e;cases h;exact .inr (.inl (.inl e))
 . cases h
mutual
inductive DV(K:Frag)(H:Hp):V->PyData->Prop
 | non:DV K H .non .none
 | bl (b:Bool):DV K H (.bl b) (.bool b)
 | int (i:Int):DV K H (.int i) (.int i)
 | str (x:Str):DV K H (.str x) (.str x)
 | lst {a:Addr} {xs:List V} {ds:List PyData}:SqL K H a xs->DVs K H xs ds->DV K H (.ref a) (.list ds)
 | tup {a:Addr} {xs:List V} {ds:List PyData}:SqT K H a xs->DVs K H xs ds->DV K H (.ref a) (.tuple ds)
inductive DVs(K:Frag)(H:Hp):List V->List PyData->Prop
 | nil:DVs K H [] []
 | cons {x:V} {d:PyData} {xs:List V} {ds:List PyData}:DV K H x d->DVs K H xs ds->DVs K H (x::xs) (d::ds)
end
section
variable{X:Cx}{Qi:List (Addr × Obj)}{σ:St}{H:Hp}{s:Shared}
mutual
theorem DV.reads(I:Inv X Qi σ H s):∀{x:V} {d:PyData} {v:Value},DV X.K H x d->RelV x v->∃ as,Reads s.heap v d as
 | _,_,_,.non,r=>by cases r;exact⟨_,.none⟩
 | _,_,_,.bl b,r=>by cases r;exact⟨_,.bool b⟩
 | _,_,_,.int i,r=>by obtain⟨t,rfl⟩:=r;exact⟨_,.int i t⟩
 | _,_,_,.str x,r=>by obtain⟨t,rfl⟩:=r;exact⟨_,.str x t⟩
 | _,_,_,.lst (a:=a) h hs,r=>by
  cases r;obtain⟨Qm,rv,p,_⟩:=I.list h;obtain⟨as,q⟩:=DVs.reads I hs rv;obtain⟨o,h1,h2,n,h3⟩:=p.isList;exact⟨_,.list h1 h2 h3 q⟩
 | _,_,_,.tup (a:=a) h hs,r=>by
  cases r;obtain⟨Qm,rv,p,_⟩:=I.tuple h;obtain⟨as,q⟩:=DVs.reads I hs rv;obtain⟨o,h1,h2,n,h3⟩:=p;exact⟨_,.tuple h1 h2 h3 q⟩
theorem DVs.reads(I:Inv X Qi σ H s):∀{xs:List V} {ds:List PyData} {us:List Value},DVs X.K H xs ds->Vals xs us->∃ as,ReadsAll s.heap us ds as
 | _,_,_,.nil,.nil=>⟨_,.nil⟩
 | _,_,_,.cons h hs,.cons r rs=>by
  obtain⟨as,q⟩:=DV.reads I h r;obtain⟨bs,q2⟩:=DVs.reads I hs rs;exact⟨_,.cons q q2⟩
end
end
theorem DVs.ints{K:Frag}{H:Hp}:∀ ns:List Int,DVs K H (ns.map V.int) (ns.map PyData.int)
 | []=>.nil
 | n::r=>.cons (.int n) (DVs.ints r)
theorem wG:∀ ns ms:List Int,PyData.eqvAll (ns.map PyData.int) (ms.map PyData.int)=decide (ns=ms):=PySem.W.ked_eqvAll
theorem ou:∀ ns:List Int,PyData.canLayAll0 (ns.map PyData.int)=true
 | []=>rfl
 | n::r=>by rw[Rc,PyData.canLayAll0,ou r];rfl
theorem lU:∀ ns:List Int,PyData.depthAll (ns.map PyData.int)=0
 | []=>rfl
 | n::r=>by rw[Rc,PyData.depthAll,lU r];rfl
theorem kW(ns:List Int):SeqAt.shaped (.list (ns.map PyData.int))=true:=by
 simp[SeqAt.shaped,PyData.canLay0,ou,PyData.depth,lU]
def cAdd:R2
 | .int i,.int j,H,Q=>Q (.int (i+j)) H
 | .str i,.str j,H,Q=>i.length+j.length<=sizeLine/\Q (.str (i++j)) H
 | .ref l,.ref b,H,Q=>bnd (unM (H l)) fun xs=>bnd (unM (H b)) fun zs=>xs.length+zs.length<=sizeLine/\∀ p,H p=none->Q (.ref p) (upd H p (.lst (xs++zs)))
 | _,_,_,_=>False
def cSub:R2
 | .int i,.int j,H,Q=>Q (.int (i-j)) H
 | _,_,_,_=>False
def cMul:R2
 | .int i,.int j,H,Q=>CMul i j/\Q (.int (i*j)) H
 | _,_,_,_=>False
def cDiv:R2
 | .int i,.int j,H,Q=>CDiv i j/\Q (.int (i/j)) H
 | _,_,_,_=>False
def cMod:R2
 | .int i,.int j,H,Q=>0<j/\Q (.int (i%j)) H
 | _,_,_,_=>False
def cPow:R2
 | .int i,.int j,H,Q=>CPow i j/\Q (.int (i^j.toNat)) H
 | _,_,_,_=>False
def cCmp(g:Int->Int->Bool):R2
 | .int i,.int j,H,Q=>Q (.bl (g i j)) H
 | _,_,_,_=>False
def rEqD(K:Frag):R2:=fun x y H Q=>∃ d e,DV K H x d/\DV K H y e/\SeqAt.shaped d=true/\SeqAt.shaped e=true/\Q (.bl (PyData.eqv d e)) H
def rNeD(K:Frag):R2:=fun x y H Q=>∃ d e,DV K H x d/\DV K H y e/\SeqAt.shaped d=true/\SeqAt.shaped e=true/\Q (.bl (!PyData.eqv d e)) H
def cEq(K:Frag):R2
 | .int i,.int j,H,Q=>Q (.bl (decide (i=j))) H
 | .bl i,.bl j,H,Q=>Q (.bl (decide (i=j))) H
 | .str i,.str j,H,Q=>Q (.bl (decide (i=j))) H
 | x,y,H,Q=>rEqD K x y H Q
def cNe(K:Frag):R2
 | .int i,.int j,H,Q=>Q (.bl (!decide (i=j))) H
 | .bl i,.bl j,H,Q=>Q (.bl (!decide (i=j))) H
 | .str i,.str j,H,Q=>Q (.bl (!decide (i=j))) H
 | x,y,H,Q=>rNeD K x y H Q
def rInD(K:Frag)(neg:Bool):R2:=fun x y H Q=>∃ d ds,DV K H x d/\(DV K H y (.list ds)\/DV K H y (.tuple ds))/\PyData.canLayAll0 ds=true/\PyData.canLay0 d=true/\min (PyData.depthAll ds) d.depth<=62/\
 Q (.bl (if neg then !ds.any (fun y=>PyData.eqv y d) else ds.any fun y=>PyData.eqv y d)) H
def keyOf:V->Option Key
 | .int i=>some (.inl i)
 | .str x=>some (.inr x)
 | _=>none
def unD:Option HO->Option (List (Key × V))
 | some (.dK Ql)=>some Ql
 | _=>none
def cIn(K:Frag)(neg:Bool):R2
 | .ref a,y,H,Q=>rInD K neg (.ref a) y H Q
 | x,.ref p,H,Q=>(match unD (H p) with
  | some Ql=>bnd (keyOf x) fun k=>Q (.bl (if neg then !(valV Ql k).isSome else(valV Ql k).isSome)) H
  | none=>bnd (unS (H p)) fun xs=>flatV x=true/\xs.all flatV=true/\Q (.bl (if neg then !inV x xs else inV x xs)) H)
 | .str i,.str j,H,Q=>Q (.bl (if neg then !(!(Builtin.Str.occurrences j i 0 j.length 1).isEmpty) else !(Builtin.Str.occurrences j i 0 j.length 1).isEmpty)) H
 | _,_,_,_=>False
def cIx:R2
 | .ref p,y,H,Q=>(match unD (H p) with
  | some Ql=>bnd (keyOf y) fun k=>bnd (valV Ql k) fun v=>Q v H
  | none=>match y with
   | .int i=>bnd (unS (H p)) fun xs=>bnd (atI xs i) fun v=>Q v H
   | _=>False)
 | .str z,.int i,H,Q=>z.length<=sizeLine/\bnd (atI z.cps.toList i) fun c=>Q (.str ⟨#[c]⟩) H
 | _,_,_,_=>False
theorem sL{Ql:List (Key × V)}(h:unD o=some Ql):o=some (.dK Ql):=by
 unfold unD at h;split at h
 . cases h;rfl
 . cases h
theorem rq{x:V}{k:Key}(h:keyOf x=some k):x=kV k:=by
 unfold keyOf at h;split at h
 . cases h;rfl
 . cases h;rfl
 . cases h
section
variable{X:Cx}{a b c:Expr}{ta tb tc:TE}{pos:Pos}
theorem aM:OpR X (binaryOp .Add) cAdd:=by
 intro Qi s σ H x y v u Q I rx ry h;unfold cAdd at h
 split at h
 . exact Dt Qi s σ H _ _ v u Q I rx ry ⟨_,_,rfl,rfl,h⟩
 . exact zk Qi s σ H _ _ v u Q I rx ry ⟨_,_,rfl,rfl,h.1,h.2⟩
 . obtain⟨xs,e1,h⟩:=bc h;obtain⟨zs,e2,h⟩:=bc h;exact DD Qi s σ H _ _ v u Q I rx ry ⟨_,_,xs,zs,rfl,rfl,gf e1,gf e2,h.1,h.2⟩
 . exact h.elim
theorem cf:OpR X (binaryOp .Sub) cSub:=by
 intro Qi s σ H x y v u Q I rx ry h;unfold cSub at h
 split at h
 . exact Du Qi s σ H _ _ v u Q I rx ry ⟨_,_,rfl,rfl,h⟩
 . exact h.elim
theorem bI:OpR X (binaryOp .Mult) cMul:=by
 intro Qi s σ H x y v u Q I rx ry h;unfold cMul at h
 split at h
 . exact Dv Qi s σ H _ _ v u Q I rx ry ⟨_,_,rfl,rfl,h.1,h.2⟩
 . exact h.elim
theorem b6:OpR X (binaryOp .FloorDiv) cDiv:=by
 intro Qi s σ H x y v u Q I rx ry h;unfold cDiv at h
 split at h
 . exact Cq Qi s σ H _ _ v u Q I rx ry ⟨_,_,rfl,rfl,h.1,h.2⟩
 . exact h.elim
theorem aX:OpR X (binaryOp .Mod) cMod:=by
 intro Qi s σ H x y v u Q I rx ry h;unfold cMod at h
 split at h
 . exact Dw Qi s σ H _ _ v u Q I rx ry ⟨_,_,rfl,rfl,h.1,h.2⟩
 . exact h.elim
theorem qB{op:CmpOp}{g:Int->Int->Bool}(o:OpR X (compareOp op) (rI0 fun i j=>.bl (g i j))):OpR X (compareOp op) (cCmp g):=by
 intro Qi s σ H x y v u Q I rx ry h;unfold cCmp at h
 split at h
 . exact o Qi s σ H _ _ v u Q I rx ry ⟨_,_,rfl,rfl,h⟩
 . exact h.elim
theorem cC:OpR X (compareOp .Lt) (cCmp fun i j=>decide (i<j)):=qB Ev
theorem h9:OpR X (compareOp .LtE) (cCmp fun i j=>decide (i<=j)):=qB Ew
theorem eX:OpR X (compareOp .Gt) (cCmp fun i j=>decide (j<i)):=qB Ex
theorem sM:OpR X (compareOp .GtE) (cCmp fun i j=>decide (j<=i)):=qB Ey
theorem DH(hu:X.A.units+64<cLine):OpR X (compareOp .Eq) (rEqD X.K):=by
 intro Qi s σ H x y v u Q I rx ry h;obtain⟨d,e,h1,h2,h3,h4,q⟩:=h;obtain⟨as,r1⟩:=h1.reads I rx;obtain⟨bs,r2⟩:=h2.reads I ry;exact eq_dataH r1 r2 h3 h4 hu ⟨.bl _,H,I,rfl,q⟩
theorem DI(hu:X.A.units+64<cLine):OpR X (compareOp .NotEq) (rNeD X.K):=by
 intro Qi s σ H x y v u Q I rx ry h;obtain⟨d,e,h1,h2,h3,h4,q⟩:=h;obtain⟨as,r1⟩:=h1.reads I rx;obtain⟨bs,r2⟩:=h2.reads I ry;exact ne_dataH r1 r2 h3 h4 hu ⟨.bl _,H,I,rfl,q⟩
theorem az(hu:X.A.units+64<cLine):OpR X (compareOp .Eq) (cEq X.K):=by
 intro Qi s σ H x y v u Q I rx ry h;unfold cEq at h
 split at h
 . refine zi Qi s σ H _ _ v u Q I rx ry ⟨rfl,?_⟩
   simpa using h
 . refine zi Qi s σ H _ _ v u Q I rx ry ⟨rfl,?_⟩
   simpa using h
 . refine zi Qi s σ H _ _ v u Q I rx ry ⟨rfl,?_⟩
   simpa using h
 . exact DH hu Qi s σ H _ _ v u Q I rx ry h
theorem aW(hu:X.A.units+64<cLine):OpR X (compareOp .NotEq) (cNe X.K):=by
 intro Qi s σ H x y v u Q I rx ry h;unfold cNe at h
 split at h
 . refine zj Qi s σ H _ _ v u Q I rx ry ⟨rfl,?_⟩
   simpa using h
 . refine zj Qi s σ H _ _ v u Q I rx ry ⟨rfl,?_⟩
   simpa using h
 . refine zj Qi s σ H _ _ v u Q I rx ry ⟨rfl,?_⟩
   simpa using h
 . exact DI hu Qi s σ H _ _ v u Q I rx ry h
theorem DJ(hu:X.A.units+64<cLine):OpR X (compareOp .In) (rInD X.K false):=by
 intro Qi s σ H x y v u Q I rx ry h;obtain⟨d,ds,h1,h2,h3,h4,h5,q⟩:=h;obtain⟨as,r1⟩:=h1.reads I rx;rcases h2 with h2 | h2
 . obtain⟨bs,r2⟩:=h2.reads I ry;exact SeqAt.in_list_reads r2 r1 h3 h4 (by omega) ⟨.bl _,H,I,rfl,q⟩
 . obtain⟨bs,r2⟩:=h2.reads I ry;exact SeqAt.in_tuple_reads r2 r1 h3 h4 (by omega) ⟨.bl _,H,I,rfl,q⟩
theorem Ax(hu:X.A.units+64<cLine):OpR X (compareOp .NotIn) (rInD X.K true):=by
 intro Qi s σ H x y v u Q I rx ry h;obtain⟨d,ds,h1,h2,h3,h4,h5,q⟩:=h;obtain⟨as,r1⟩:=h1.reads I rx;rcases h2 with h2 | h2
 . obtain⟨bs,r2⟩:=h2.reads I ry;exact SeqAt.notIn_list_reads r2 r1 h3 h4 (by omega) ⟨.bl _,H,I,rfl,q⟩
 . obtain⟨bs,r2⟩:=h2.reads I ry;exact SeqAt.notIn_tuple_reads r2 r1 h3 h4 (by omega) ⟨.bl _,H,I,rfl,q⟩
theorem cQ(hu:X.A.units+64<cLine):OpR X (compareOp .In) (cIn X.K false):=by
 intro Qi s σ H x y v u Q I rx ry h;unfold cIn at h
 split at h
 . exact DJ hu Qi s σ H _ _ v u Q I rx ry h
 . rename_i p hx
   split at h
   . rename_i Ql e
     obtain⟨k,ek,q⟩:=bc h;cases (show u=Value.ref p from ry);have g:DGet H p x (valV Ql k):=by rw[rq ek];exact DGet.k (sL e)
     exact EY (RL (Sr (by decide:1<=64) _) hu) I g rx fun s' I'=>⟨.bl _,H,I',rfl,q⟩
   . obtain⟨xs,e,f1,f2,q⟩:=bc h;exact pE Qi s σ H _ _ v u Q I rx ry ⟨p,xs,rfl,oj e,f1,f2,q⟩
 . exact Ah Qi s σ H _ _ v u Q I rx ry ⟨_,_,rfl,rfl,h⟩
 . exact h.elim
theorem cJ(hu:X.A.units+64<cLine):OpR X (compareOp .NotIn) (cIn X.K true):=by
 intro Qi s σ H x y v u Q I rx ry h;unfold cIn at h
 split at h
 . exact Ax hu Qi s σ H _ _ v u Q I rx ry h
 . rename_i p hx
   split at h
   . rename_i Ql e
     obtain⟨k,ek,q⟩:=bc h;cases (show u=Value.ref p from ry);have g:DGet H p x (valV Ql k):=by rw[rq ek];exact DGet.k (sL e)
     exact CG (RL (Sr (by decide:1<=64) _) hu) I g rx fun s' I'=>⟨.bl _,H,I',rfl,q⟩
   . obtain⟨xs,e,f1,f2,q⟩:=bc h;exact pF Qi s σ H _ _ v u Q I rx ry ⟨p,xs,rfl,oj e,f1,f2,q⟩
 . exact wz Qi s σ H _ _ v u Q I rx ry ⟨_,_,rfl,rfl,h⟩
 . exact h.elim
end
section
variable{X:Cx}{a b c:Expr}{ta tb tc:TE}{pos:Pos}
theorem DK(hu:X.A.units+64<cLine):IxR X cIx:=by
 intro value slice Qi s σ H x y v u Q I rx ry h hs
 cases x with
 | ref p=>
  unfold cIx at h;dsimp only at h
  split at h
  . rename_i Ql e
    obtain⟨k,ek,h⟩:=bc h;obtain⟨z,ez,q⟩:=bc h;cases (show v=Value.ref p from rx);have g:DGet H p y (some z):=by rw[rq ek,← ez];exact DGet.k (sL e)
    exact tail_any (x9 I g) Tg.lookup (Ar (RL (Sr (by decide:1<=64) _) hu) I g ry fun w' s3 I3 rw'=>⟨z,H,I3,rw',q⟩) hs
  . split at h
    . obtain⟨xs,e,h⟩:=bc h;obtain⟨z,ez,q⟩:=bc h;rcases oj (K:=X.K) e with r | r
      . exact yK value slice Qi s σ H _ _ v u Q I rx ry ⟨p,xs,_,z,rfl,rfl,r,ez,q⟩ hs
      . exact An value slice Qi s σ H _ _ v u Q I rx ry ⟨p,xs,_,z,rfl,rfl,r,ez,q⟩ hs
    . exact h.elim
 | str zz=>
  cases y with
  | int i=>
   obtain⟨hz,h⟩:=(show zz.length<=sizeLine/\bnd (atI zz.cps.toList i) fun c=>Q (.str ⟨#[c]⟩) H from h);obtain⟨z,ez,q⟩:=bc h;exact Dz value slice Qi s σ H _ _ v u Q I rx ry ⟨_,_,z,rfl,rfl,hz,ez,q⟩ hs
  | _=>exact False.elim h
 | _=>exact False.elim h
def kLen:List V->Hp->VK->Prop
 | [.ref p],H,Q=>(match unD (H p) with
  | some Ql=>Q (.int Ql.length) H
  | none=>bnd (unS (H p)) fun xs=>Q (.int xs.length) H)
 | [.str z],H,Q=>z.length<=sizeLine/\Q (.int z.length) H
 | _,_,_=>False
theorem aG:CallR X (.builtin "len") kLen:=by
 intro Qi s σ H xs us Q I r h;unfold kLen at h
 split at h
 . split at h
   . rename_i Ql e
     exact At Qi s σ H _ us Q I r ⟨_,Ql,rfl,sL e,h⟩
   . obtain⟨ys,e,q⟩:=bc h;exact pG Qi s σ H _ us Q I r ⟨_,ys,rfl,oj e,q⟩
 . exact wA Qi s σ H _ us Q I r ⟨_,rfl,h.1,h.2⟩
 . exact h.elim
def kAbs:List V->Hp->VK->Prop
 | [.int i],H,Q=>Q (.int (if i<0 then -i else i)) H
 | _,_,_=>False
def kMin:List V->Hp->VK->Prop
 | [.int i,.int j],H,Q=>Q (.int (if j<i then j else i)) H
 | _,_,_=>False
def kMax:List V->Hp->VK->Prop
 | [.int i,.int j],H,Q=>Q (.int (if j>i then j else i)) H
 | _,_,_=>False
def kList:List V->Hp->VK->Prop
 | [.ref p],H,Q=>bnd (unS (H p)) fun ys=>∀ l,H l=none->Q (.ref l) (upd H l (.lst ys))
 | _,_,_=>False
theorem cG:CallR X (.type "list") kList:=by
 intro Qi s σ H xs us Q I r h;unfold kList at h
 split at h
 . obtain⟨ys,e,q⟩:=bc h;exact wB Qi s σ H _ us Q I r ⟨_,ys,rfl,oj e,q⟩
 . exact h.elim
def fI:List V->Hp->VK->Prop
 | [.ref p],H,Q=>bnd (unL (H p)) fun ys=>∃ ns:List Int,ys=ns.map V.int/\ns.length<64/\∀(ns':List Int) l,H l=none->ns'.Perm ns->ns'.Pairwise (· <=·)->Q (.ref l) (upd H l (.lst (ns'.map V.int)))
 | _,_,_=>False
theorem jk:CallR X (.builtin "sorted") fI:=by
 intro Qi s σ H xs us Q I r h;unfold fI at h
 split at h
 . rename_i p
   obtain⟨ys,e,ns,rfl,Qq,q⟩:=bc h;obtain⟨u,rfl,ru⟩:=dc r;cases ru;obtain⟨Qm,rv,pl,hz⟩:=I.list (pJ e);have hI:IntsAre Qm ns:=sG rv;have hl:=rv.length;rw[Qu] at hl;refine sorted_ints pl.isList hI (by omega) fun out ns' hI' hp hs=>?_;have old:∀ b o,s.heap.get? b=some o->(sortedAll s.heap Qm out).get? b=some o:=fun b o e=>sortedAll_old e;obtain⟨n,at_⟩:=sortedAll_at s.heap Qm out;have hfresh:H (s.heap.objs.size+1)=none:=I.hok.fresh (SS _)
   have hlen':(ns'.map V.int).length<=sizeLine:=by
    rw[Qu,hp.length_eq];exact Rf (Nat.lt_trans Qq (by decide))
   refine⟨.ref (s.heap.objs.size+1),_,I.laid (t':=s.toks) (a:=s.heap.objs.size+1) (o:=.lst (ns'.map V.int)) old (SS _) ⟨hlen',out.toList,n,pH hI',?_⟩,rfl,q ns' _ hfresh hp hs⟩;rw[at_]
 . exact h.elim
def me(H:Hp):V->Option String
 | .non=>some "NoneType"
 | .bl _=>some "bool"
 | .int _=>some "int"
 | .str _=>some "str"
 | .ref p=>match H p with
  | some (.lst _)=>some "list"
  | some (.frz _ (.lst _))=>some "list"
  | some (.tup _)=>some "tuple"
  | some (.dK _)=>some "dict"
  | _=>none
 | _=>none
def isTy(t n:String):Bool:=t==n||(t=="bool"&&n=="int")
def qC(n:String):Bool:=["int","bool","str","list","tuple","dict"].contains n
theorem Ay{K:Frag}{H:Hp}{x:V}{t:String}(h:me H x=some t):TyOf K H x (.type t)/\["NoneType","int","bool","str","list","tuple","dict"].contains t=true:=by
 cases x with
 | non=>cases h;exact⟨.non,by decide⟩
 | bl b=>cases h;exact⟨.bl b,by decide⟩
 | int i=>cases h;exact⟨.int i,by decide⟩
 | str i=>cases h;exact⟨.str i,by decide⟩
 | byt _=>cases h
 | flt _=>cases h
 | ty _=>cases h
 | ref p=>
  unfold me at h;dsimp only at h
  split at h
  . rename_i e;cases h;exact⟨.lst e,by decide⟩
  . rename_i e;cases h;exact⟨.frz e,by decide⟩
  . rename_i e;cases h;exact⟨.tup e,by decide⟩
  . rename_i e;cases h;exact⟨.dK e,by decide⟩
  . cases h
theorem DL(K:Frag):∀ t∈["NoneType","int","bool","str","list","tuple","dict"],∀ n∈["int","bool","str","list","tuple","dict"],PySem.W.kitOne K (.type t) (.type n)=some (isTy t n):=by
 intro t ht n hn;simp only[QV,R6,Tq] at ht hn;rcases ht with rfl | rfl | rfl | rfl | rfl | rfl | rfl <;> rcases hn with rfl | rfl | rfl | rfl | rfl | rfl <;> rfl
def kIsi:List V->Hp->VK->Prop
 | [x,.ty n],H,Q=>qC n=true/\bnd (me H x) fun t=>Q (.bl (isTy t n)) H
 | _,_,_=>False
theorem bS:CallR X (.builtin "isinstance") kIsi:=by
 intro Qi s σ H xs us Q I r h;unfold kIsi at h
 split at h
 . obtain⟨hn,h⟩:=h;obtain⟨t,et,q⟩:=bc h;obtain⟨u,w,rfl,ru,rw'⟩:=Ez r;cases rw';obtain⟨ty,ht⟩:=Ay (K:=X.K) et;exact Al I ru ty (DL X.K t (by simpa using ht) _ (by simpa [qC] using hn)) fun tk=>⟨.bl _,H,I.tok tk,rfl,q⟩
 . exact h.elim
def b7:V->List V->Hp->VK->Prop
 | .ref l,[y],H,Q=>bnd (unM (H l)) fun xs=>xs.length<sizeLine/\Q .non (upd H l (.lst (xs++[y])))
 | _,_,_,_=>False
theorem bX:MtR X "list.append" b7:=by
 intro Qi s σ H x vs v us Q I rx rv h;unfold b7 at h
 split at h
 . obtain⟨xs,e,h1,q⟩:=bc h;exact vq Qi s σ H _ _ v us Q I rx rv ⟨_,xs,_,rfl,rfl,gf e,h1,q⟩
 . exact h.elim
def l8:V->List V->Hp->VK->Prop
 | .ref l,[.ref b],H,Q=>bnd (unM (H l)) fun xs=>bnd (unM (H b)) fun zs=>xs.length+zs.length<=sizeLine/\Q .non (upd H l (.lst (xs++zs)))
 | _,_,_,_=>False
theorem sN:MtR X "list.extend" l8:=by
 intro Qi s σ H x vs v us Q I rx rv h;unfold l8 at h
 split at h
 . obtain⟨xs,e,h⟩:=bc h;obtain⟨zs,e2,h1,q⟩:=bc h;exact Aq Qi s σ H _ _ v us Q I rx rv ⟨_,_,xs,zs,rfl,rfl,gf e,gf e2,h1,q⟩
 . exact h.elim
def pK:V->List V->Hp->VK->Prop
 | .ref l,[],H,Q=>bnd (unM (H l)) fun _=>Q .non (upd H l (.lst []))
 | _,_,_,_=>False
theorem vv:MtR X "list.clear" pK:=by
 intro Qi s σ H x vs v us Q I rx rv h;unfold pK at h
 split at h
 . obtain⟨xs,e,q⟩:=bc h;exact BF Qi s σ H _ _ v us Q I rx rv ⟨_,xs,rfl,rfl,gf e,q⟩
 . exact h.elim
theorem bj{K:Frag}{H:Hp}{p:Addr}{xs:List V}(h:H p=some (.lst xs)):tyV K "list" (.ref p) H:=.inl ⟨rfl,_,QI h⟩
def cSl:V->Option Int->Option Int->Hp->VK->Prop
 | .ref p,lo,hi,H,Q=>bnd (unL (H p)) fun xs=>∀ l,H l=none->Q (.ref l) (upd H l (.lst (cutV xs lo hi)))
 | _,_,_,_,_=>False
theorem EZ:SlR X cSl:=by
 intro Qi s σ H x v vl vu lo hi sl Q I rx hs pl pu h;unfold cSl at h
 split at h
 . obtain⟨xs,e,q⟩:=bc h;exact CA Qi s σ H _ v vl vu lo hi sl Q I rx hs pl pu ⟨_,xs,rfl,pJ e,q⟩
 . exact h.elim
end
structure Cal(P:Program)(w:World)(K:Frag)(mg:Str->Option Value)(base:Heap)(k:Nat)(x:Str)(ps:List Str)(sp:Sp):Prop where
 ex:∃(f:Addr) (fd:FuncData),FnOk P w K mg base CX0 k f fd ps sp/\mg x=some (.ref f)/\keepIn K (.ref f)=true/\Binds K fd ps []
theorem DM {X:Cx} {k n:Nat} {x:Str} {ps:List Str} {sp:Sp} {p pos:Pos} {e:Expr} {es:List Expr} {t:TA} (C:Cal X.prog X.w X.K X.mg X.base k x ps sp) (hr:Room n X.A) (hk:k<=n) (hg:Gl X x) (ha:PA X (e::es) t)
  (hdb:(x==("__debug__":Str))=false:=by decide) (he:starEach (e::es) X.env=(false,eval e X.env)::starEach es X.env:=by rfl) (hpl:(backTo pos (starEach es X.env)).any (·.1)=false:=by rfl):
  PE X (.Call (.Name x p) (e::es) [] pos) (tCall sp [] E0 t):=by
 obtain⟨f,fd,F,hm,hkp,hb⟩:=C.ex;exact Cv F (hr.mono hk) hg hm hkp hb .nil wn ha hdb he hpl
theorem aR:bootBuiltins "len"=some (.builtin "len"):=by decide+kernel
theorem m5:bootBuiltins "sorted"=some (.builtin "sorted"):=by decide+kernel
theorem wH:bootBuiltins "any"=some (.builtin "any"):=by decide+kernel
theorem bb:bootBuiltins "isinstance"=some (.builtin "isinstance"):=by decide+kernel
theorem cm:bootBuiltins "list"=some (.type "list"):=by decide+kernel
theorem wI:bootBuiltins "int"=some (.type "int"):=by decide+kernel
theorem yO:bootBuiltins "bool"=some (.type "bool"):=by decide+kernel
theorem wJ:bootBuiltins "str"=some (.type "str"):=by decide+kernel
theorem ke:bootBuiltins "tuple"=some (.type "tuple"):=by decide+kernel
def compN(scope:Scope):List Str:=(scope.names.filter fun p=>p.2==.local||p.2==.cell||p.2==.free).map (·.1)
def sO(N:List Str)(scope:Scope):List (Option Nat):=(compN scope).map fun x=>if scope.names.lookup x==some .free then N.findIdx? (· ==x) else none
def isCF:Option NameKind->Bool
 | some .cell=>true
 | some .free=>true
 | _=>false
theorem DN{X:Cx}{scope:Scope}(h1:scope.kind=.function)(h2:(scope.names.map (·.1)).Nodup)(h3:(scope.names.all fun p=>p.2 != .free||isCF (X.env.kindOf p.1))=true):BlkOk X (compN scope) (sO X.N scope) scope where
 kind:=h1
 nd:=h2.sublist (List.Sublist.map _ (List.filter_sublist ..))
 len:=by unfold sO;rw[Qu]
 names:=h2
 free:=fun x hx=>by
  have:=QO.mp h3 (x,.free) hx;simp only[bne_self_eq_false,RQ] at this;unfold isCF at this
  split at this
  . rename_i e;exact .inl e
  . rename_i e;exact .inr e
  . cases this
 at_:=fun j i x e1 e2=>by
  unfold sO at e2;rw[QD,e1] at e2;simp only[Option.map_some,Option.some.injEq] at e2
  split at e2
  . rename_i hf
    obtain⟨hlt,hp,_⟩:=List.findIdx?_eq_some_iff_getElem.mp e2
    have hx:X.N[i]? =some x:=by
     rw[Qv hlt];have:X.N[i]=x:=by simpa using hp
     rw[this]
    refine⟨hx,RF (by simpa using hf)⟩
  . cases e2
section
variable{t u:TS}{D:Ends}{σ:St}{H:Hp}{Q:VK}{ta tb:TE}{R:Bool->Hp->Prop}{c d:TT}
theorem aL:tSeq t u D σ H=t {D with nx:=u D} σ H:=rfl
theorem dJ:tNext D σ H=D.nx σ H:=rfl
theorem cp{g:TG}:tAsg ta g D σ H=ta σ H fun x H1=>g x σ H1 D.nx:=rfl
theorem bo{i:Nat}{v:V}{k:St->Hp->Prop}:gName i v σ H k=k (σ.set i (some v)) H:=rfl
theorem gI{i:Nat}:tVar i σ H Q=∃ v,σ[i]? =some (some v)/\Q v H:=rfl
theorem w_c{v:V}:tC v σ H Q=Q v H:=rfl
theorem iN{r:R2}:tOp r ta tb σ H Q=ta σ H fun x H1=>tb σ H1 fun y H2=>r x y H2 Q:=rfl
theorem dG:tRet ta D σ H=ta σ H D.rt:=rfl
theorem e7:tRetN D σ H=D.rt .non H:=rfl
theorem dL:tDrop ta D σ H=ta σ H fun _ H1=>D.nx σ H1:=rfl
theorem aA:tIfS c t u D σ H=c σ H fun b H1=>if b=true then t D σ H1 else u D σ H1:=rfl
theorem e8:tTest ta σ H R=ta σ H fun x H'=>∃ k,x=.bl k/\R k H':=rfl
theorem w_b:tB ta σ H R=ta σ H fun x H'=>∃ k,x=.bl k/\R k H':=rfl
theorem w_not:tNot c σ H R=c σ H fun k H1=>R (!k) H1:=rfl
theorem im:tAnd c d σ H R=c σ H fun k H1=>if k=true then d σ H1 R else R false H1:=rfl
theorem lj:tOr c d σ H R=c σ H fun k H1=>if k=true then R true H1 else d σ H1 R:=rfl
theorem fc:tNotV ta σ H Q=ta σ H fun x H1=>∃ c,x=.bl c/\Q (.bl (!c)) H1:=rfl
theorem fe:tAndV ta tb σ H Q=ta σ H fun x H1=>∃ c,x=.bl c/\if c=true then tb σ H1 Q else Q (.bl false) H1:=rfl
theorem io:tOrV ta tb σ H Q=ta σ H fun x H1=>∃ c,x=.bl c/\if c=true then Q (.bl true) H1 else tb σ H1 Q:=rfl
theorem gJ{k:List V->Hp->Prop}:tNil σ H k=k [] H:=rfl
theorem dM{tr:TA}{k:List V->Hp->Prop}:tCons ta tr σ H k=ta σ H fun x H1=>tr σ H1 fun xs H2=>k (x::xs) H2:=rfl
theorem lm{r:List V->Hp->VK->Prop}{tr:TA}:tCB r tr σ H Q=tr σ H fun vs H1=>r vs H1 Q:=rfl
theorem ff{sp:Sp}{dvs:List V}{E:XK}{tr:TA}:tCall sp dvs E tr σ H Q=tr σ H fun vs H1=>sp (vs++dvs) H1 Q E:=rfl
theorem ip{tr:TA}:tTup tr σ H Q=tr σ H fun xs H1=>xs.length<=sizeLine/\∀ p,H1 p=none->Q (.ref p) (upd H1 p (.tup xs)):=rfl
theorem gK{tr:TA}:tLst tr σ H Q=tr σ H fun xs H1=>xs.length<=sizeLine/\∀ p,H1 p=none->Q (.ref p) (upd H1 p (.lst xs)):=rfl
theorem kf{K:Frag}{T:String}{r:V->List V->Hp->VK->Prop}{tr:TA}:tBM K T r ta tr σ H Q=ta σ H fun x H1=>tyV K T x H1/\tr σ H1 fun xs H2=>r x xs H2 Q:=rfl
theorem iq{K:Frag}{T:String}{r:V->List V->Hp->VK->Prop}:uz K T r ta σ H Q=ta σ H fun x H1=>tyV K T x H1/\r x [] H1 Q:=rfl
theorem dN:tTrue σ H R=R true H:=rfl
theorem fg:DG σ H Q=∀ p,H p=none->Q (.ref p) (upd H p (.dK [])):=rfl
theorem fh{td ty tv:TE}:sDPut td ty tv D σ H=tv σ H fun v H1=>td σ H1 fun x H2=>ty σ H2 fun y H3=>∃ a H4,x=.ref a/\DPut H3 a y v H4/\D.nx σ H4:=rfl
theorem iu{i j:Int}:cAdd (.int i) (.int j) H Q=Q (.int (i+j)) H:=rfl
theorem iw{i j:Int}:cSub (.int i) (.int j) H Q=Q (.int (i-j)) H:=rfl
theorem iy{i j:Int}:cMul (.int i) (.int j) H Q=(CMul i j/\Q (.int (i*j)) H):=rfl
theorem iz{i j:Int}:cDiv (.int i) (.int j) H Q=(CDiv i j/\Q (.int (i/j)) H):=rfl
theorem iA{i j:Int}:cMod (.int i) (.int j) H Q=(0<j/\Q (.int (i%j)) H):=rfl
theorem iB{g:Int->Int->Bool}{i j:Int}:cCmp g (.int i) (.int j) H Q=Q (.bl (g i j)) H:=rfl
theorem iC{K:Frag}{i j:Int}:cEq K (.int i) (.int j) H Q=Q (.bl (decide (i=j))) H:=rfl
theorem iD{K:Frag}{i j:Int}:cNe K (.int i) (.int j) H Q=Q (.bl (!decide (i=j))) H:=rfl
theorem iE{K:Frag}{i j:Bool}:cEq K (.bl i) (.bl j) H Q=Q (.bl (decide (i=j))) H:=rfl
theorem iF{K:Frag}{i j:Bool}:cNe K (.bl i) (.bl j) H Q=Q (.bl (!decide (i=j))) H:=rfl
theorem iO{p:Addr}{i:Int}{xs:List V}(h:H p=some (.tup xs)):cIx (.ref p) (.int i) H Q=bnd (atI xs i) fun v=>Q v H:=by
 unfold cIx;dsimp only;rw[h];rfl
theorem Ca{p:Addr}{i:Int}{xs:List V}(h:H p=some (.lst xs)):cIx (.ref p) (.int i) H Q=bnd (atI xs i) fun v=>Q v H:=by
 unfold cIx;dsimp only;rw[h];rfl
theorem iG{i:Int}:kAbs [.int i] H Q=Q (.int (if i<0 then -i else i)) H:=rfl
theorem iH{i j:Int}:kMin [.int i,.int j] H Q=Q (.int (if j<i then j else i)) H:=rfl
theorem bt{p:Addr}{xs:List V}(h:H p=some (.lst xs)):kLen [.ref p] H Q=Q (.int xs.length) H:=by
 unfold kLen;dsimp only;rw[h];rfl
theorem sP{p:Addr}{xs:List V}(h:H p=some (.tup xs)):kLen [.ref p] H Q=Q (.int xs.length) H:=by
 unfold kLen;dsimp only;rw[h];rfl
theorem gg{p:Addr}{xs:List V}{y:V}(h:H p=some (.lst xs)):b7 (.ref p) [y] H Q=(xs.length<sizeLine/\Q .non (upd H p (.lst (xs++[y])))):=by
 unfold b7;dsimp only;rw[h];rfl
theorem pL:∀ ns:List Int,(ns.map V.int).all flatV=true
 | []=>rfl
 | n::r=>by rw[Rc,SO,pL r];rfl
theorem rz(i:Int):∀ ns:List Int,inV (.int i) (ns.map V.int)=decide (i∈ns)
 | []=>by simp[inV]
 | n::r=>by
  have ih:=rz i r;unfold inV at ih ⊢;rw[Rc,Si,ih];show((n==i)||decide (i∈r))=decide (i∈n::r);rw[Q0,TL,Sk,QB,QB,QV];exact⟨fun h=>h.elim (fun e=>.inl e.symm) .inr,fun h=>h.elim (fun e=>.inl e.symm) .inr⟩
theorem mf{K:Frag}{p:Addr}{i:Int}{ns:List Int}(h:H p=some (.lst (ns.map V.int))):cIn K false (.int i) (.ref p) H Q=Q (.bl (decide (i∈ns))) H:=by
 unfold cIn;dsimp only;rw[h];dsimp only[unD,unS,bnd];rw[rz,pL];simp[flatV]
theorem m6{K:Frag}{p:Addr}{i:Int}{ns:List Int}(h:H p=some (.lst (ns.map V.int))):cIn K true (.int i) (.ref p) H Q=Q (.bl (!decide (i∈ns))) H:=by
 unfold cIn;dsimp only;rw[h];dsimp only[unD,unS,bnd];rw[rz,pL];simp[flatV]
end
def LoopR(J:It)(g:TG)(tb:TS)(D:Ends)(σ:St)(H1:Hp):Prop:=∃ W:Nat->Nat->St->Hp->Prop,(∃ m,W 0 m σ H1)/\∀ i m σ H,W i m σ H->
 (J.stop i H/\D.nx σ H)\/(J.go i H/\∃ N:St->Hp->Prop,(∀ σ' H',N σ' H'->∃ m',m'<m/\W (i+1) m' σ' H')/\∀ x H',J.yld i H x H'->g x σ H' fun σ2 H2=>tb {D with nx:=N,ct:=N,bk:=D.nx} σ2 H2)
def CompR(J:It)(g:TG)(tt:TT)(te:TE)(fin:Addr->Hp->Prop)(σ0:St)(H1:Hp):Prop:=∀ l,H1 l=none->
 ∃ W:Nat->Nat->St->Hp->Prop,(∃ m,W 0 m σ0 (upd H1 l (.lst [])))/\∀ i m σ' H',W i m σ' H'->
  (J.stop i H'/\fin l H')\/(J.go i H'/\∃ N:St->Hp->Prop,(∀ σ'' H'',N σ'' H''->∃ m',m'<m/\W (i+1) m' σ'' H'')/\∀ x H2,J.yld i H' x H2->g x σ' H2 fun σ2 H3=>tt σ2 H3 fun b H4=>
   if b=true then te σ2 H4 fun y H5=>∃ ys,H5 l=some (.lst ys)/\ys.length<sizeLine/\N σ2 (upd H5 l (.lst (ys++[y]))) else N σ2 H4)
section
variable{K:Frag}{g:TG}{tb:TS}{D:Ends}{σ:St}{H:Hp}{tl:TE}{ta:TA}{ix:List (Option Nat)}{tt:TT}{te:TE}{k:Nat}{Q:VK}
theorem fj:tFor (iList K tl) g tb D σ H=tl σ H fun x H1=>∃ a,x=.ref a/\(∃ xs,SqL K H1 a xs)/\LoopR (Itl K a) g tb D σ H1:=rfl
theorem c9:tFor (jj ta) g tb D σ H=ta σ H fun vs H1=>∃ j:Int,vs=[.int j]/\ -(2^62)<=j/\j<2^62/\LoopR (Itr 0 j.toNat) g tb D σ H1:=rfl
theorem da:tFor (qy ta) g tb D σ H=ta σ H fun vs H1=>∃ i j:Int,vs=[.int i,.int j]/\(-(2^62)<=i/\i<2^62/\ -(2^62)<=j/\j<2^62)/\LoopR (Itr i (j-i).toNat) g tb D σ H1:=rfl
theorem cq:tComp ix (iList K tl) g tt te σ H Q=tl σ H fun x H1=>∃ a,x=.ref a/\(∃ xs,SqL K H1 a xs)/\CompR (Itl K a) g tt te (fun l H'=>Q (.ref l) H') (subσ ix σ) H1:=rfl
theorem cr:tComp ix (jj ta) g tt te σ H Q=ta σ H fun vs H1=>∃ j:Int,vs=[.int j]/\ -(2^62)<=j/\j<2^62/\CompR (Itr 0 j.toNat) g tt te (fun l H'=>Q (.ref l) H') (subσ ix σ) H1:=rfl
theorem cu:sComp k ix (iList K tl) g tt te D σ H=tl σ H fun x H1=>∃ a,x=.ref a/\(∃ xs,SqL K H1 a xs)/\CompR (Itl K a) g tt te (fun l H'=>D.nx (σ.set k (some (.ref l))) H') (subσ ix σ) H1:=rfl
theorem b8:sComp k ix (jj ta) g tt te D σ H=ta σ H fun vs H1=>∃ j:Int,vs=[.int j]/\ -(2^62)<=j/\j<2^62/\CompR (Itr 0 j.toNat) g tt te (fun l H'=>D.nx (σ.set k (some (.ref l))) H') (subσ ix σ) H1:=rfl
theorem ow {lo:Int} {n:Nat} {fin:Addr->Hp->Prop} {σ0:St} {H1:Hp} (Pv:Addr->Nat->St->Hp->Prop) (h0:∀ l,H1 l=none->Pv l 0 σ0 (upd H1 l (.lst [])))
  (hs:∀ l i σ H,H1 l=none->i<n->Pv l i σ H->g (.int (lo+i)) σ H fun σ2 H3=>tt σ2 H3 fun b H4=>if b=true then te σ2 H4 fun y H5=>∃ ys,H5 l=some (.lst ys)/\ys.length<sizeLine/\Pv l (i+1) σ2 (upd H5 l (.lst (ys++[y]))) else Pv l (i+1) σ2 H4)
  (hd:∀ l σ H,H1 l=none->Pv l n σ H->fin l H):CompR (Itr lo n) g tt te fin σ0 H1:=by
 intro l hl0;refine⟨fun i m σ H=>m=n-i/\i<=n/\Pv l i σ H,⟨n,by simp,Rx _,h0 l hl0⟩,?_⟩;rintro i m σ H ⟨rfl,hi,p⟩;by_cases hlt:i<n
 . refine .inr ⟨hlt,Pv l (i+1),fun σ' H' p'=>⟨n - (i+1),by omega,rfl,hlt,p'⟩,fun x H' y=>?_⟩;obtain⟨e,y⟩:=y;subst e y;exact hs l i σ _ hl0 hlt p
 . have e:i=n:=by omega
   subst e;exact .inl ⟨QR _,hd l σ H hl0 p⟩
theorem pM {a:Addr} {xs:List V} {fin:Addr->Hp->Prop} {σ0:St} {H1:Hp} (Pv:Addr->Nat->St->Hp->Prop) (h0:∀ l,H1 l=none->Pv l 0 σ0 (upd H1 l (.lst []))) (hq:∀ l i σ H,H1 l=none->i<=xs.length->Pv l i σ H->SqL K H a xs)
  (hs:∀ l i x σ H,H1 l=none->xs[i]? =some x->Pv l i σ H->g x σ H fun σ2 H3=>tt σ2 H3 fun b H4=>if b=true then te σ2 H4 fun y H5=>∃ ys,H5 l=some (.lst ys)/\ys.length<sizeLine/\Pv l (i+1) σ2 (upd H5 l (.lst (ys++[y]))) else Pv l (i+1) σ2 H4)
  (hd:∀ l σ H,H1 l=none->Pv l xs.length σ H->fin l H):CompR (Itl K a) g tt te fin σ0 H1:=by
 intro l hl0;refine⟨fun i m σ H=>m=xs.length-i/\i<=xs.length/\Pv l i σ H,⟨xs.length,by simp,Rx _,h0 l hl0⟩,?_⟩;rintro i m σ H ⟨rfl,hi,p⟩;have q:=hq l i σ H hl0 hi p;by_cases hlt:i<xs.length
 . refine .inr ⟨⟨xs,xs[i],q,by simp[hlt]⟩,Pv l (i+1),fun σ' H' p'=>⟨xs.length - (i+1),by omega,rfl,hlt,p'⟩,fun x H' y=>?_⟩;obtain⟨e,y⟩:=y;subst e;exact hs l i x σ _ hl0 (y xs q) p
 . have e:i=xs.length:=by omega
   subst e;exact .inl ⟨⟨xs,q,QR _⟩,hd l σ H hl0 p⟩
theorem qD{p q:Addr}{xs ys:List Int}(hp:H p=some (.lst (xs.map V.int)))(hq:H q=some (.lst (ys.map V.int)))(h:Q (.bl (decide (xs=ys))) H):cEq K (.ref p) (.ref q) H Q:=by
 show rEqD K (.ref p) (.ref q) H Q;refine⟨.list (xs.map PyData.int),.list (ys.map PyData.int),.lst (QI hp) (.ints xs),.lst (QI hq) (.ints ys),kW xs,kW ys,?_⟩;rw[PyData.eqv,wG];exact h
theorem ox{p q:Addr}{xs ys:List Int}(hp:H p=some (.lst (xs.map V.int)))(hq:H q=some (.lst (ys.map V.int)))(h:Q (.bl (!decide (xs=ys))) H):cNe K (.ref p) (.ref q) H Q:=by
 show rNeD K (.ref p) (.ref q) H Q;refine⟨.list (xs.map PyData.int),.list (ys.map PyData.int),.lst (QI hp) (.ints xs),.lst (QI hq) (.ints ys),kW xs,kW ys,?_⟩;rw[PyData.eqv,wG];exact h
theorem BK{p:Addr}{ns:List Int}(hp:H p=some (.lst (ns.map V.int)))(hn:ns.length<64)(h:∀(ns':List Int) l,H l=none->ns'.Perm ns->ns'.Pairwise (· <=·)->Q (.ref l) (upd H l (.lst (ns'.map V.int)))):fI [.ref p] H Q:=by
 unfold fI;dsimp only;rw[hp];exact⟨ns,rfl,hn,h⟩
theorem kZ{p:Addr}{xs:List V}(hp:H p=some (.lst xs))(h:∀ l,H l=none->Q (.ref l) (upd H l (.lst xs))):kList [.ref p] H Q:=by
 unfold kList;dsimp only;rw[hp];exact h
end
theorem aF{X:Cx}{N:List Str}{ix:List (Option Nat)}{scope:Scope}(h1:scope.kind=.function)(h2:(scope.names.map (·.1)).Nodup)(h3:(scope.names.all fun p=>p.2 != .free||isCF (X.env.kindOf p.1))=true)(h4:N=compN scope)(h5:ix=sO X.N scope):BlkOk X N ix scope:=by
 subst h4 h5;exact DN h1 h2 h3
def kLenS(K:Frag):List V->Hp->VK->Prop:=fun xs H Q=>∃ p ys,xs=[.ref p]/\(SqL K H p ys\/SqT K H p ys)/\Q (.int ys.length) H
structure Bt(mg:Str->Option Value):Prop where
 len_:mg "len"=none
 abs_:mg "abs"=none
 min_:mg "min"=none
 max_:mg "max"=none
 sorted_:mg "sorted"=none
 any_:mg "any"=none
 isinstance_:mg "isinstance"=none
 list_:mg "list"=none
 int_:mg "int"=none
 bool_:mg "bool"=none
 str_:mg "str"=none
 tuple_:mg "tuple"=none
 reversed_:mg "reversed"=none
 set_:mg "set"=none
 range_:mg "range"=none
 zip_:mg "zip"=none
theorem Vals.get':∀{xs:List V} {us:List Value} {i:Nat} {u:Value},Vals xs us->us[i]? =some u->∃ x,xs[i]? =some x/\RelV x u
 | _,_,_,_,.nil,h=>by simp at h
 | _,_,0,_,.cons r _,h=>by simp at h;subst h;exact⟨_,rfl,r⟩
 | _,_,i+1,_,.cons _ t,h=>by
  obtain⟨x,hx,r⟩:=Vals.get' (i:=i) t (by simpa using h);exact⟨x,by simpa using hx,r⟩
section
variable{X:Cx}{Qi:List (Addr × Obj)}{σ:St}{H:Hp}{s s':Shared}
theorem Inv.kept'(I:Inv X Qi σ H s)(k:∀ b u,s.heap.get? b=some u->s'.heap.get? b=some u)(ho:s'.os=s.os)(hg:AllBare s'.gens):Inv X Qi σ H s':=
 I.call' (ch:=[]) ho (Un.kept k) (I.hok.kept k) hg fun b z=>absurd z (by simp)
theorem Inv.walked{l:Addr}{o:Obj}(I:Inv X Qi σ H s)(hm:Moved [s.heap.objs.size] (fun a b=>b=a) {s with heap:=s.heap.push o} s'):Inv X Qi σ H s':=by
 refine I.kept' (fun b u e=>hm.heap b u (fun z=>?_) (QP _ e)) hm.os (by rw[show s'.gens=s.gens from hm.gens];exact I.bare);have:b=s.heap.objs.size:=by simpa using z
 exact absurd (QY e) (by rw[this];exact R4 _)
def kAny:List V->Hp->VK->Prop
 | [.ref p],H,Q=>bnd (unL (H p)) fun ys=>∃ bs:List Bool,ys=bs.map V.bl/\Q (.bl (bs.any id)) H
 | _,_,_=>False
theorem Az(bs:List Bool):(List.range bs.length).any (fun i=>bs.getD i false)=bs.any id:=by
 rw[Q0,Sn,Sn];constructor
 . rintro⟨i,hi,h⟩;have hi':i<bs.length:=QQ.mp hi;exact⟨bs[i],QX hi',by simpa [List.getD,hi'] using h⟩
 . rintro⟨b,hb,h⟩;obtain⟨i,hi,e⟩:=RW.mp hb;refine⟨i,QQ.mpr hi,?_⟩;have h':b=true:=h;rw[List.getD,Qv hi,e];exact h'
theorem pN(hc:X.calm=true):CallR X (.builtin "any") kAny:=by
 intro Qi s σ H xs us Q I r h;unfold kAny at h
 split at h
 . rename_i p
   obtain⟨ys,e,bs,rfl,q⟩:=bc h;obtain⟨u,rfl,ru⟩:=dc r;cases ru;obtain⟨Qm,rv,pl,hz⟩:=I.list (pJ e);have hl:=rv.length;rw[Qu] at hl
   have hlt:p<s.heap.objs.size:=by
    obtain⟨o,h1,_⟩:=pl.isList;exact QY h1
   refine call_any_walkS (Sv pl.isList ?_);refine⟨s.heap.objs.size,_,_,_,Qm.toArray.size,_,_,fun i=>bs.getD i false,rfl,(Walks.list (A:=X.A.in1) (I.ok.hd hc) s.heap.objs.size p (Rt hlt) Qm.toArray).toS,⟨⟨_,Rm _ rfl,rfl,rfl⟩,pl.isList.push _⟩,?_,fun s' hm=>?_⟩
   . intro i v s1 Q1 E1 hP hQ;have hv:Qm[i]? =some v:=by simpa using hP
     obtain⟨x,hx,rx⟩:=rv.get' hv;obtain⟨b,hb,rfl⟩:∃ b,bs[i]? =some b/\V.bl b=x:=by simpa using hx
     cases rx;refine RX ?_;have e3:bs.getD i false=b:=by simp[List.getD,hb]
     rw[← e3];exact hQ
   . refine⟨.bl _,H,I.walked (l:=p) hm,?_,q⟩;have e2:Qm.toArray.size=bs.length:=by rw[QN];exact hl.symm
     rw[e2,Az];rfl
 . exact h.elim
def jl(K:Frag):V->List V->Hp->VK->Prop
 | .ref p,[y],H,Q=>∃(ds:List PyData) (d:PyData) (j:Nat),DV K H (.ref p) (.list ds)/\DV K H y d/\PyData.canLayAll0 ds=true/\PyData.canLay0 d=true/\min (PyData.depthAll ds) d.depth<=62/\
   j<=1000/\(∃ e,ds[j]? =some e/\PyData.eqv e d=true)/\(∀ m e,m<j->ds[m]? =some e->PyData.eqv e d=false)/\Q (.int j) H
 | _,_,_,_=>False
theorem jf(hu:X.A.units+64<cLine):MtR X "list.index" (jl X.K):=by
 intro Qi s σ H x vs v us Q I rx rv h;unfold jl at h
 split at h
 . rename_i p y
   obtain⟨ds,d,j,hp,hy,hl,hd,hdep,hj,⟨e,ej,et⟩,hno,q⟩:=h;cases rx;obtain⟨u,rfl,ru⟩:=dc rv;obtain⟨as,rc⟩:=hp.reads I rfl;obtain⟨bs,rx⟩:=hy.reads I ru
   cases rc with
   | @list _ o Qm n _ _ h1 h2 h3 h4=>
    obtain⟨oc,od,oda,osl⟩:=o;dsimp only at h2 h3;subst h2 h3;have hmap:=SeqAt.readsAll_map ds _ _ hl h4
    have at_:∀(m:Nat) (hm:m<Qm.size),ds[m]? =some (SeqAt.readOf s.heap Qm[m]):=fun m hm=>by
     rw[← hmap,QD,TU,Ti hm];rfl
    have hjs:j<Qm.size:=by
     have:=(Qz.mp ej).1;rw[← hmap,Qu,Sq] at this;exact this
    refine Sb F.slot_list_index ⟨_,h1,rfl⟩ F.entry_list_index (F.args_list_index_2 _ _) (SeqAt.list_indexAt p Qm n od osl u (fun y=>PyData.eqv (SeqAt.readOf s.heap y) d) j hjs (by omega) ?_ ?_) ⟨h1,SeqAt.items_eqAt h4 rx hl hd ?_,⟨.int j,H,I.tok _,⟨_,rfl⟩,q⟩⟩
    . have:=at_ j hjs;rw[ej] at this;cases this;exact et
    . intro m hm hlt;exact hno m _ hlt (at_ m hm)
    . omega
 . exact h.elim
theorem DO{h:Heap}{a b:Addr}{o u:Obj}{c d:String}(ha:h.get? a=some o)(hb:h.get? b=some u)(hc:o.cls=.type c)(hd:u.cls=.type d)(ne:c≠d):a≠b:=by
 rintro rfl;rw[ha] at hb;cases hb;rw[hc] at hd;cases hd;exact ne rfl
end
open Builtin Builtin.Str
theorem uA:∀{ts:List Str} {us:List Value},Vals (ts.map V.str) us->∃ l:List (Str × Tok),us=strValues l/\l.map (·.1)=ts
 | [],_,.nil=>⟨[],rfl,rfl⟩
 | t::ts,_,.cons r rs=>by
  obtain⟨l,rfl,e⟩:=uA (ts:=ts) rs;obtain⟨u,rfl⟩:=r;exact⟨(t,u)::l,rfl,by rw[Rc,e]⟩
theorem vw:∀(l:List (Str × Tok)),Vals ((l.map (·.1)).map V.str) (strValues l)
 | []=>.nil
 | (t,u)::l=>.cons ⟨u,rfl⟩ (vw l)
section
variable{X:Cx}
def kFind:V->List V->Hp->VK->Prop
 | .str x,[.str y],H,Q=>Q (.int (Txt.find x y)) H
 | _,_,_,_=>False
def sQ:V->List V->Hp->VK->Prop
 | .str x,[.str y],H,Q=>(y.length==0)=false/\x.length<=sizeLine/\(Txt.split x y).length<=sizeLine/\∀ l,H l=none->Q (.ref l) (upd H l (.lst ((Txt.split x y).map V.str)))
 | _,_,_,_=>False
theorem AA:MtR X "str.split" sQ:=by
 intro Qi s σ H x vs v us Q I rx rv h;unfold sQ at h
 split at h
 . rename_i x y
   obtain⟨t,rfl⟩:=rx;obtain⟨u,rfl,ru⟩:=dc rv;obtain⟨t2,rfl⟩:=ru;obtain⟨hy,hx,hn,q⟩:=h
   have fin:∀(l:List (Str × Tok)) (k:Nat),l.map (·.1)=Txt.split x y->EP X Qi σ Q (.ref s.heap.objs.size) {s with heap:=s.heap.push {cls:=.type "list",data:=.seq (strValues l).toArray},toks:=k}:=fun l k e=>by
    refine⟨.ref s.heap.objs.size,_,I.lnew (t':=k) (ys:=(Txt.split x y).map V.str) (Qm:=strValues l) ?_ (by rw[Qu];exact hn),rfl,q _ I.fresh⟩;rw[← e];exact vw l
   cases h1:(decide (x.length<y.length)||decide (strKind x<strKind y))
   . cases hf:(occurrences x y 0 x.length (x.length+1)).isEmpty
     . have e3:Txt.split x y=partsBetween x (occurrences x y 0 x.length (x.length+1)) y.length:=(QT (S0 h1)).trans (QT (S0 hf));refine Sb Tr (SJ _ _ _) Tl (Tb _ _) (meets_str_split_sep x y t t2 h1 hy hf hx (by rw[← e3];exact hn)) ?_;show wants _ _ _ {s with toks:=_,heap:=s.heap.push {cls:=.type "list",data:=.seq (strsFrom s.toks (partsBetween x (occurrences x y 0 x.length (x.length+1)) y.length)).toArray}};rw[strsFrom_eq];exact fin (numbered s.toks _) _ ((numbered_texts _ _).trans e3.symm)
     . exact Sb Tr (SJ _ _ _) Tl (Tb _ _) (meets_str_split_not_found x y t t2 h1 hy hf)
        (fin [(x,t)] s.toks ((QT (S0 h1)).trans (Q6 hf)).symm)
   . exact Sb Tr (SJ _ _ _) Tl (Tb _ _) (meets_str_split_cannot_occur x y t t2 h1)
      (fin [(x,t)] s.toks (Q6 h1).symm)
 . exact h.elim
def ln:V->Option Int->Option Int->Hp->VK->Prop
 | .ref p,lo,hi,H,Q=>cSl (.ref p) lo hi H Q
 | .str z,lo,hi,H,Q=>z.length<=sizeLine/\Q (.str (Txt.slice z lo hi)) H
 | _,_,_,_,_=>False
theorem m7:SlR X ln:=by
 intro Qi s σ H x v vl vu lo hi sl Q I rx hs pl pu h
 cases x with
 | ref p=>exact EZ Qi s σ H _ v vl vu lo hi sl Q I rx hs pl pu h
 | str z=>
  obtain⟨hz,q⟩:=(show z.length<=sizeLine/\Q (.str (Txt.slice z lo hi)) H from h);obtain⟨t,rfl⟩:=rx;have fin:∀ t' k,EP X Qi σ Q (.str (Txt.slice z lo hi) t') {s with toks:=k}:=fun t' k=>⟨.str _,H,I.tok k,⟨t',rfl⟩,q⟩;refine⟨"str",_,F.slot_str_getitem.lookup,SJ _ _ _,?_⟩
  cases pl with
  | none=>
   cases pu with
   | none=>exact Sf (l:=none) (u:=none) (st:=none) hs rfl (SW ⟨QG (TB z _ _) hz,fin⟩)
   | int j tj=>exact Sf (l:=none) (u:=some (j,tj)) (st:=none) hs rfl (SW ⟨QG (TB z _ _) hz,fin⟩)
  | int i ti=>
   cases pu with
   | none=>exact Sf (l:=some (i,ti)) (u:=none) (st:=none) hs rfl (SW ⟨QG (TB z _ _) hz,fin⟩)
   | int j tj=>exact Sf (l:=some (i,ti)) (u:=some (j,tj)) (st:=none) hs rfl (SW ⟨QG (TB z _ _) hz,fin⟩)
 | _=>exact False.elim h
def Its(x:Str):It:=⟨fun i _=>i<x.cps.size,fun i H v H'=>H'=H/\∃ c,x.cps[i]? =some c/\v=.str ⟨#[c]⟩,fun i _=>x.cps.size<=i⟩
theorem wK {P:Program} {w:World} {K:Frag} {tg:Expr} {x:Str} {t:Tok} (it:Addr) (ty:String) (hty:["enumerate","zip","dict_itemiterator","dict_reverseitemiterator","odict_iterator","itertools.zip_longest","itertools.pairwise"].contains ty=false)
  (W:∀ A:Around,A.handled=none->Walks P w A it [it] [it] x.cps.size (SignAt x) (fun i h=>h.IsStrIter it ty x t i))
  (slf:∀(A:Around) (i:Nat) (s:Shared) (Q:Value->Shared->Prop) (E:Value->Shared->Prop),s.heap.IsStrIter it ty x t i->Q (.ref it) s->wpAny (model P w) A (pyIter (.ref it)) Q E s):
  Turn P w K tg (Its x) [it] it (fun i h=>i<=x.cps.size/\h.IsStrIter it ty x t i) where
 mem:=by simp
 obj:=fun i h st b hb=>by
  have e:b=it:=by simpa using hb
  subst e;obtain⟨_,o,e,c,d⟩:=st;exact⟨o,e,fun v z=>by rw[d] at z;cases z⟩
 keep:=fun i h h' st k=>by
  obtain⟨hi,o,e,c,d⟩:=st;exact⟨hi,o,k it (by simp) o e,c,d⟩
 item:=by
  intro X hP hw hK hc i Qi s σ H E I hf st hg;subst hP hw hK;obtain⟨f0,f1,f2,f3,f4,f5⟩:=hf it (by simp);have hlt:i<x.cps.size:=hg;refine(W X.A (I.ok.hd hc)).item i s _ _ hlt st.2 fun v h' tk hv st' kk=>?_;obtain⟨c,u,hcu,rfl⟩:=hv;have I1:Inv X Qi σ H {s with heap:=h',toks:=tk}:=I.turned (fun b o hb e=>kk b o (by simpa using hb) e) f0 f1 f3 f4 f5;obtain⟨o,e,c',d⟩:=id st';exact⟨_,rfl,wm (s:={s with heap:=h',toks:=tk}) e c' d hty ⟨.str ⟨#[c]⟩,H,I1,⟨u,rfl⟩,⟨rfl,c,hcu,rfl⟩,⟨hlt,st'⟩,fun b hb=>(hf b hb).1⟩⟩
 done:=by
  intro X hP hw hK hc i Qi s σ H E I hf st hg;subst hP hw hK;obtain⟨f0,f1,f2,f3,f4,f5⟩:=hf it (by simp);have hle:x.cps.size<=i:=hg;have e:i=x.cps.size:=Nat.le_antisymm st.1 hle;subst e;exact(W X.A (I.ok.hd hc)).done s _ _ st.2 fun h' tk kk=>⟨rfl,I.turned (fun b o hb e=>kk b o (by simpa using hb) e) f0 f1 f3 f4 f5⟩
 self:=fun A i s Q E st h=>slf A i s Q E st.2 h
def iStr(tl:TE):TI:=fun σ H R=>tl σ H fun x H1=>∃ z,x=.str z/\R (Its z) H1
theorem DP{tg l:Expr}{tl:TE}(hl:PE X l tl):PI X tg l (iStr tl):=by
 intro Qi s σ H R I h;refine thn (hl Qi s σ H _ I h) fun v s1 ⟨x,H1,I1,r1,q1⟩=>?_;obtain⟨z,rfl,q⟩:=q1;obtain⟨t,rfl⟩:=r1
 have fin:∀ b∈[s1.heap.objs.size],FpOk X Qi H1 b:=fun b hb=>by
  have e:b=s1.heap.objs.size:=by simpa using hb
  subst e;exact I1.fpOk (QR _) (I1.hok.fresh (QR _))
 cases ha:z.cps.all (· < 128)
 . refine wpAny_pyIter_wide ha ⟨s1.heap.objs.size,[s1.heap.objs.size],_,Its z,H1,rfl,I1.kept (t':=s1.toks) fun b o e=>QP _ e,wK (t:=t) _ "str_iterator" (by decide) (fun A' hA=>Walks.strWide hA _ z t) (fun A i s Q E st hq=>wpAny_pyIter_striter_wide st hq),⟨Rx _,_,Rm _ rfl,rfl,rfl⟩,fin,q⟩
 . refine wpAny_pyIter_ascii ha ⟨s1.heap.objs.size,[s1.heap.objs.size],_,Its z,H1,rfl,I1.kept (t':=s1.toks) fun b o e=>QP _ e,wK (t:=t) _ "str_ascii_iterator" (by decide) (fun A' hA=>Walks.strAscii hA _ z t) (fun A i s Q E st hq=>wpAny_pyIter_striter_ascii st hq),⟨Rx _,_,Rm _ rfl,rfl,rfl⟩,fin,q⟩
theorem ya {prog:Program} {w:World} {A:Around} {E:Value->Shared->Prop} {s:Shared} {l:Addr} {items:Array Value} {k:Int} {t:Tok} {v:Value} {Q:Unit->Shared->Prop} (hl:s.heap.IsList l items)
  (h0:0<=k) (hfit:k<2^63) (hn:k<items.size)
  (hQ:Q () {s with heap:=s.heap.update l (Obj.mapSeq (·.setIfInBounds k.toNat v))}):
  wpAny (model prog w) A (setItem (.ref l) (.int k t) v) Q E s:=by
 obtain⟨o,ho,hc,ne,hd⟩:=id hl;unfold setItem
 try with_reducible refine Tm ?_
 first | refine Rg (Ru ?_) | skip
 refine Rg (wpAny_sequenceKey hl.typeIs (by decide) ?_)
 refine Rg (wpAny_callSpecial?_slot (name:=Str.ofString "__setitem__") hl.typeIs slot_list_setitem
  (wpAny_call_entry slot_list_setitem hl.typeIs entry_list_setitem ?_ (args_list_setitem _ _ _)))
 show wpAny _ _ (Builtin.List.listSubscript? (.int k t) >>= _) _ _ s;refine Rg (wpAny_listSubscript_int (fitsIndex_of h0 hfit) ?_)
 clear hfit
 obtain⟨j,rfl⟩:=Sg h0;have hj:j<items.size:=by omega
 have hx':items[j]? =some items[j]:=Ti hj;show wpAny _ _ ((seqItemAt l j >>= fun r=>pure (r.map (j,·))) >>= _) _ _ s;refine Rg (Rg (wpAny_seqItemAt ho hd (Ru ?_)));rw[hx'];show wpAny _ _ (setSeqItemAt l j v >>= _) _ _ s;refine Rg (wpAny_setSeqItemAt ho hd ?_)
 first
  | exact Rg (Ru (Ru ⟨.none,rfl,Ru hQ⟩))
  | exact Ru ⟨.none,rfl,Ru hQ⟩
theorem wL:∀{xs:List V} {us:List Value} {x:V} {u:Value} (i:Nat),Vals xs us->RelV x u->Vals (xs.set i x) (us.set i u)
 | _,_,_,_,_,.nil,_=>.nil
 | _,_,_,_,0,.cons _ t,r=>.cons r t
 | _,_,_,_,i+1,.cons q t,r=>.cons q (wL i t r)
def cPut:TSet
 | .ref p,y,v,H,Q=>(match unD (H p) with
  | some _=>∃ H',DPut H p y v H'/\Q H'
  | none=>match y with
   | .int i=>bnd (unM (H p)) fun xs=>0<=i/\i<xs.length/\Q (upd H p (.lst (xs.set i.toNat v)))
   | _=>False)
 | _,_,_,_,_=>False
theorem Cb(hu:X.A.units+64<cLine):PSet X cPut:=by
 intro Qi s σ H o i v ov iv u Q I ro ri rv h
 cases o with
 | ref p=>
  cases ro;unfold cPut at h;dsimp only at h
  split at h
  . obtain⟨H',g,q⟩:=h;exact As (RL (Sr (by decide:1<=64) _) hu) I g ri rv fun s' I'=>⟨H',I',q⟩
  . split at h
    . rename_i i
      obtain⟨xs,e,h0,h1,q⟩:=bc h;obtain⟨t,rfl⟩:=ri;have hH:=gf e;obtain⟨z,Qm,n,r,hl,eo⟩:=I.lstM hH;have hs:s.heap.IsList p Qm.toArray:=⟨_,eo,rfl,n,rfl⟩;have hz:Qm.length<=sizeLine:=by rw[← hl];exact z
      refine ya hs h0 ?_ (by rw[QN,← hl];exact h1) ⟨_,I.lset (t':=s.toks) (ys:=xs.set i.toNat v) (its':=Qm.set i.toNat u) hH eo (by simp) (wL _ r rv) (by rw[List.length_set];exact z),q⟩;have:(sizeLine:Int)<2^63:=by decide
      omega
    . exact h.elim
 | _=>exact False.elim h
end
section
variable{K:Frag}{g:TG}{tb:TS}{D:Ends}{σ:St}{H:Hp}{tl:TE}{ix:List (Option Nat)}{tt:TT}{te ta:TE}{k:Nat}{Q:VK}
theorem lp{r:V->Option Int->Option Int->Hp->VK->Prop}{a b:TO}:tSl r te a b σ H Q=te σ H fun x H1=>a σ H1 fun l H2=>b σ H2 fun u H3=>r x l u H3 Q:=rfl
theorem fk{R:Option Int->Hp->Prop}:tPart te σ H R=te σ H fun x H1=>∃ i,x=.int i/\R (some i) H1:=rfl
theorem cw{R:Option Int->Hp->Prop}:gH σ H R=R none H:=rfl
theorem fm{to ti:TE}{t:TSet}{v:V}{R:St->Hp->Prop}:gSub to ti t v σ H R=to σ H fun o H1=>ti σ H1 fun i H2=>t o i v H2 fun H3=>R σ H3:=rfl
theorem lq{r:V->Hp->VK->Prop}:tUn r te σ H Q=te σ H fun x H1=>r x H1 Q:=rfl
theorem fq:tFor (iStr tl) g tb D σ H=tl σ H fun x H1=>∃ z,x=.str z/\LoopR (Its z) g tb D σ H1:=rfl
theorem db:tComp ix (iStr tl) g tt te σ H Q=tl σ H fun x H1=>∃ z,x=.str z/\CompR (Its z) g tt te (fun l H'=>Q (.ref l) H') (subσ ix σ) H1:=rfl
theorem cy:sComp k ix (iStr tl) g tt te D σ H=tl σ H fun x H1=>∃ z,x=.str z/\CompR (Its z) g tt te (fun l H'=>D.nx (σ.set k (some (.ref l))) H') (subσ ix σ) H1:=rfl
theorem Cc{x:Str}:tyV K "str" (.str x) H:=rfl
theorem iI{i j:Str}:cEq K (.str i) (.str j) H Q=Q (.bl (decide (i=j))) H:=rfl
theorem iJ{i j:Str}:cNe K (.str i) (.str j) H Q=Q (.bl (!decide (i=j))) H:=rfl
theorem ft{z:Str}:kLen [.str z] H Q=(z.length<=sizeLine/\Q (.int z.length) H):=rfl
theorem fu{i j:Str}:cAdd (.str i) (.str j) H Q=(i.length+j.length<=sizeLine/\Q (.str (i++j)) H):=rfl
theorem EE{z:Str}{i:Int}:cIx (.str z) (.int i) H Q=(z.length<=sizeLine/\bnd (atI z.cps.toList i) fun c=>Q (.str ⟨#[c]⟩) H):=rfl
theorem fv{x y:Str}:kFind (.str x) [.str y] H Q=Q (.int (Txt.find x y)) H:=rfl
theorem CH{x y:Str}:sQ (.str x) [.str y] H Q=((y.length==0)=false/\x.length<=sizeLine/\(Txt.split x y).length<=sizeLine/\∀ l,H l=none->Q (.ref l) (upd H l (.lst ((Txt.split x y).map V.str)))):=rfl
theorem Cd{p:Addr}{i:Int}{v:V}{xs:List V}{R:Hp->Prop}(hp:H p=some (.lst xs))(h0:0<=i)(h1:i<xs.length)(h:R (upd H p (.lst (xs.set i.toNat v)))):cPut (.ref p) (.int i) v H R:=by
 unfold cPut;dsimp only;rw[hp];exact⟨h0,h1,h⟩
theorem qE{p:Addr}{lo hi:Option Int}{xs:List V}(hp:H p=some (.lst xs))(h:∀ l,H l=none->Q (.ref l) (upd H l (.lst (cutV xs lo hi)))):ln (.ref p) lo hi H Q:=by
 show bnd (unL (H p)) _;rw[hp];exact h
end
def cBitI(g:Int->Int->Int):R2
 | .int i,.int j,H,Q=>Q (.int (g i j)) H
 | _,_,_,_=>False
def cShr:R2
 | .int i,.int j,H,Q=>0<=j/\Q (.int (i/2^j.toNat)) H
 | _,_,_,_=>False
abbrev cOr:R2:=cBitI Builtin.bitOr
section
variable{X:Cx}
theorem BL{o:Operator}{g:Int->Int->Int}(h0:OpR X (binaryOp o) (rI0 fun i j=>.int (g i j))):OpR X (binaryOp o) (cBitI g):=by
 intro Qi s σ H x y v u Q I rx ry h;unfold cBitI at h
 split at h
 . exact h0 Qi s σ H _ _ v u Q I rx ry ⟨_,_,rfl,rfl,h⟩
 . exact h.elim
theorem DQ:OpR X (binaryOp .BitOr) cOr:=BL Eu
theorem CI:OpR X (binaryOp .RShift) cShr:=by
 intro Qi s σ H x y v u Q I rx ry h;unfold cShr at h
 split at h
 . exact Dx Qi s σ H _ _ v u Q I rx ry ⟨_,_,rfl,rfl,h.1,h.2⟩
 . exact h.elim
end
section
variable{H:Hp}{Q:VK}{i j:Int}
theorem jm{g:Int->Int->Int}:cBitI g (.int i) (.int j) H Q=Q (.int (g i j)) H:=rfl
theorem lV:cShr (.int i) (.int j) H Q=(0<=j/\Q (.int (i/2^j.toNat)) H):=rfl
end
section
variable{X:Cx}
def kInt:List V->Hp->VK->Prop
 | [.int i],H,Q=>Q (.int i) H
 | [.bl k],H,Q=>Q (.int (if k then 1 else 0)) H
 | _,_,_=>False
def oo:V->List V->Hp->VK->Prop
 | .int i,[],H,Q=>Q (.int (Builtin.Int.intBits i:Nat)) H
 | _,_,_,_=>False
theorem sR:MtR X "int.bit_length" oo:=by
 intro Qi s σ H x vs v us Q I rx rv h;unfold oo at h
 split at h
 . obtain⟨t,rfl⟩:=rx;cases rv;exact call_int_bit_length ⟨.int _,H,I.tok _,⟨_,rfl⟩,h⟩
 . exact h.elim
def cRepL:R2
 | .ref l,.int k,H,Q=>bnd (unM (H l)) fun xs=> -(2^63)<=k/\k<2^63/\xs.length*k.toNat<=sizeLine/\∀ p,H p=none->Q (.ref p) (upd H p (.lst (List.replicate k.toNat xs).flatten))
 | _,_,_,_=>False
theorem BM:OpR X (binaryOp .Mult) cRepL:=by
 intro Qi s σ H x y v u Q I rx ry h;unfold cRepL at h
 split at h
 . obtain⟨xs,e,h1,h2,h3,q⟩:=bc h;exact DE Qi s σ H _ _ v u Q I rx ry ⟨_,_,xs,rfl,rfl,gf e,h1,h2,h3,q⟩
 . exact h.elim
def kAll:List V->Hp->VK->Prop
 | [.ref p],H,Q=>bnd (unL (H p)) fun ys=>∃ bs:List Bool,ys=bs.map V.bl/\Q (.bl (bs.all id)) H
 | _,_,_=>False
theorem AB(bs:List Bool):(List.range bs.length).all (fun i=>bs.getD i false)=bs.all id:=by
 rw[Q0,QO,QO];constructor
 . intro h b hb;obtain⟨i,hi,e⟩:=RW.mp hb;have:=h i (QQ.mpr hi);rw[List.getD,Qv hi,e] at this;exact this
 . intro h i hi;have hi':i<bs.length:=QQ.mp hi;have:=h bs[i] (QX hi')
   simpa [List.getD,hi'] using this
theorem jn:bootBuiltins "all"=some (.builtin "all"):=by decide+kernel
theorem wM:bootBuiltins "sum"=some (.builtin "sum"):=by decide+kernel
theorem df(hc:X.calm=true):CallR X (.builtin "all") kAll:=by
 intro Qi s σ H xs us Q I r h;unfold kAll at h
 split at h
 . rename_i p
   obtain⟨ys,e,bs,rfl,q⟩:=bc h;obtain⟨u,rfl,ru⟩:=dc r;cases ru;obtain⟨Qm,rv,pl,hz⟩:=I.list (pJ e);have hl:=rv.length;rw[Qu] at hl
   have hlt:p<s.heap.objs.size:=by
    obtain⟨o,h1,_⟩:=pl.isList;exact QY h1
   refine call_all_walkS (Sv pl.isList ?_);refine⟨s.heap.objs.size,_,_,_,Qm.toArray.size,_,_,fun i=>bs.getD i false,rfl,(Walks.list (A:=X.A.in1) (I.ok.hd hc) s.heap.objs.size p (Rt hlt) Qm.toArray).toS,⟨⟨_,Rm _ rfl,rfl,rfl⟩,pl.isList.push _⟩,?_,fun s' hm=>?_⟩
   . intro i v s1 Q1 E1 hP hQ;have hv:Qm[i]? =some v:=by simpa using hP
     obtain⟨x,hx,rx⟩:=rv.get' hv;obtain⟨b,hb,rfl⟩:∃ b,bs[i]? =some b/\V.bl b=x:=by simpa using hx
     cases rx;refine RX ?_;have e3:bs.getD i false=b:=by simp[List.getD,hb]
     rw[← e3];exact hQ
   . refine⟨.bl _,H,I.walked (l:=p) hm,?_,q⟩;have e2:Qm.toArray.size=bs.length:=by rw[QN];exact hl.symm
     rw[e2,AB];rfl
 . exact h.elim
def kSum:List V->Hp->VK->Prop
 | [.ref p],H,Q=>bnd (unL (H p)) fun ys=>∃ ns:List Int,ys=ns.map V.int/\(∀ x∈ns,0<=x/\x<=1000000)/\ns.length<=1000000/\Q (.int ns.sum) H
 | _,_,_=>False
theorem AC:∀(ns:List Int),(∀ x∈ns,0<=x/\x<=1000000)->0<=ns.sum/\ns.sum<=1000000*ns.length
 | [],_=>by simp
 | n::r,h=>by
  have ih:=AC r fun x hx=>h x (QH _ hx);have h1:=h n QK;rw[TZ,Rj];omega
theorem pO(hc:X.calm=true):CallR X (.builtin "sum") kSum:=by
 intro Qi s σ H xs us Q I r h;unfold kSum at h
 split at h
 . rename_i p
   obtain⟨ys,e,ns,rfl,hb,hn,q⟩:=bc h;obtain⟨u,rfl,ru⟩:=dc r;cases ru;obtain⟨Qm,rv,pl,hz⟩:=I.list (pJ e);have hl:=rv.length;rw[Qu] at hl
   have hlt:p<s.heap.objs.size:=by
    obtain⟨o,h1,_⟩:=pl.isList;exact QY h1
   have e2:Qm.toArray.size=ns.length:=by rw[QN];exact hl.symm
   refine call_sum_walkS (Sv pl.isList ?_);refine⟨s.heap.objs.size,_,_,_,Qm.toArray.size,_,_,fun i=>ns.getD i 0,rfl,(Walks.list (A:=X.A.in1) (I.ok.hd hc) s.heap.objs.size p (Rt hlt) Qm.toArray).toS,⟨⟨_,Rm _ rfl,rfl,rfl⟩,pl.isList.push _⟩,?_,?_,?_,fun s' t' hm=>?_⟩
   . intro b hb';show b < (s.heap.push _).objs.size;rw[Se];simp only[QV,R6,Tq] at hb';rcases hb' with rfl | rfl
     . exact SH _
     . exact RY hlt
   . intro i v hP;have hv:Qm[i]? =some v:=by simpa using hP
     obtain⟨x,hx,rx⟩:=rv.get' hv;obtain⟨b,hb',rfl⟩:∃ b,ns[i]? =some b/\V.int b=x:=by simpa using hx
     obtain⟨t,rfl⟩:=rx;exact⟨t,by simp[List.getD,hb']⟩
   . intro j hj;rw[e2] at hj;refine⟨?_,?_⟩
     . have:=hb ns[j] (QX hj);have e3:ns.getD j 0=ns[j]:=by simp[List.getD,hj]
       show InLong (ns.getD j 0);rw[e3];exact⟨by omega,by omega⟩
     . rw[preSum_getD];have h1:=AC (ns.take (j+1)) fun x hx=>hb x (List.mem_of_mem_take hx);have h2:(ns.take (j+1)).length<=ns.length:=by rw[RE];omega
       exact⟨by omega,by omega⟩
   . refine⟨.int ns.sum,H,I.walked (l:=p) hm,⟨t',?_⟩,q⟩;rw[e2,preSum_getD,RB]
 . exact h.elim
def Itd(hi:Int)(n:Nat):It:=⟨fun i _=>i<n,fun i H x H'=>H'=H/\x=.int (hi-i),fun i _=>n<=i⟩
def iRngD(ta:TA):TI:=fun σ H R=>ta σ H fun vs H1=>∃ i j:Int,vs=[.int i,.int j,.int (-1)]/\(-(2^60)<=i/\i<2^60/\ -(2^60)<=j/\j<2^60)/\R (Itd i (i-j).toNat) H1
end
section
variable{K:Frag}{g:TG}{tb:TS}{D:Ends}{σ:St}{H:Hp}{ta:TA}{Q:VK}
theorem jo{k:Bool}:kInt [.bl k] H Q=Q (.int (if k then 1 else 0)) H:=rfl
theorem jp{i:Int}:kInt [.int i] H Q=Q (.int i) H:=rfl
theorem dW{i:Int}:oo (.int i) [] H Q=Q (.int (Builtin.Int.intBits i:Nat)) H:=rfl
theorem lW{p:Addr}{bs:List Bool}(hp:H p=some (.lst (bs.map V.bl)))(h:Q (.bl (bs.all id)) H):kAll [.ref p] H Q:=by
 show bnd (unL (H p)) _;rw[hp];exact be (a:=bs.map V.bl) rfl ⟨bs,rfl,h⟩
theorem zt{p:Addr}{ns:List Int}(hp:H p=some (.lst (ns.map V.int)))(hb:∀ x∈ns,0<=x/\x<=1000000)(hn:ns.length<=1000000)(h:Q (.int ns.sum) H):kSum [.ref p] H Q:=by
 show bnd (unL (H p)) _;rw[hp];exact be (a:=ns.map V.int) rfl ⟨ns,rfl,hb,hn,h⟩
theorem DR{p:Addr}{xs:List V}{k:Int}(hp:H p=some (.lst xs))(h0:0<=k)(h1:k<=1000)(hn:xs.length<=1)(h:∀ l,H l=none->Q (.ref l) (upd H l (.lst (List.replicate k.toNat xs).flatten))):cRepL (.ref p) (.int k) H Q:=by
 show bnd (unM (H p)) _;rw[hp];refine be (a:=xs) rfl ⟨by omega,by omega,?_,h⟩;refine Rf (aD (QG (ST _ hn) ?_));omega
theorem gL:tFor (iRngD ta) g tb D σ H=ta σ H fun vs H1=>∃ i j:Int,vs=[.int i,.int j,.int (-1)]/\(-(2^60)<=i/\i<2^60/\ -(2^60)<=j/\j<2^60)/\LoopR (Itd i (i-j).toNat) g tb D σ H1:=rfl
end
section
variable{X:Cx}
def Ite(K:Frag)(a:Addr):It:=
 ⟨fun i H=>∃ xs x,SqL K H a xs/\xs[i]? =some x,
  fun i H v H'=>∃ T x,v=.ref T/\H T=none/\H'=upd H T (.tup [.int i,x])/\∀ xs,SqL K H a xs->xs[i]? =some x,
  fun i H=>∃ xs,SqL K H a xs/\xs.length<=i⟩
def ESt(a e it:Addr)(i:Nat)(h:Heap):Prop:=(∃ old,IsEnum h e it i old)/\h.IsListIter it a i
theorem AD{P:Program}{w:World}{K:Frag}{es:List Expr}{x1:Nat}{pos:Pos}(a e it:Addr):
  Turn P w K (.Tuple es x1 pos) (Ite K a) [e,it] e (ESt a e it) where
 mem:=by simp
 obj:=fun i h st c hc=>by
  obtain⟨⟨old,he⟩,⟨o1,e1,c1,f1⟩⟩:=st;simp only[QV,R6,Tq] at hc;rcases hc with rfl | rfl
  . exact⟨_,he,fun v z=>by have z':Data.fields _=Data.cell v:=z;cases z'⟩
  . exact⟨_,e1,fun v z=>by rw[f1] at z;cases z⟩
 keep:=fun i h h' st k=>by
  obtain⟨⟨old,he⟩,h1⟩:=st;exact⟨⟨old,k e (by simp) _ he⟩,h1.at fun o q=>k it (by simp) o q⟩
 item:=by
  intro X hP hw hK hc i Qi s σ H E I hf st hg;subst hP hw hK;obtain⟨xs,x,hq1,hx⟩:=hg;obtain⟨its1,rv1,p1,hz1⟩:=I.list hq1;obtain⟨u1,hu1,ru1⟩:=rv1.get hx;obtain⟨⟨old,he⟩,⟨o1,e1,c1,f1⟩⟩:=id st;have hne:e≠it:=DO he e1 rfl c1 (by decide);refine wpAny_pyNext_enum_item he ⟨o1,e1,c1,f1⟩ p1.isList (x:=u1) (by simpa using hu1) hne fun h' a1 a2 a3 a4 hk=>?_;refine⟨_,rfl,wpAny_letOwnedTupleGo_enum a1 fun h2 hz2 sb=>?_⟩;have hT:H s.heap.objs.size=none:=I.fresh;have lt:∀{c o},s.heap.get? c=some o->c≠s.heap.objs.size:=fun e=>Rt (QY e)
  have kp:∀ c o,c∉[e,it]->s.heap.get? c=some o->h2.get? c=some o:=fun c o hc q=>by
   simp only[QV,R6,Tq,not_or] at hc;exact sb.extBut _ _ hc.1 (hk c o hc.1 hc.2 q)
  have hTe:s.heap.objs.size≠e:=(lt he).symm;have gT:h2.get? s.heap.objs.size=some {cls:=.type "tuple",data:=.seq #[.int i s.toks,u1]}:=sb.extBut _ _ hTe a3;have nH:∀ c∈[e,it],H c=none:=fun c hc=>(hf c hc).1;refine⟨.ref s.heap.objs.size,upd H s.heap.objs.size (.tup [.int i,x]),I.call' (s':={s with heap:=h2,toks:=s.toks+1}) (ch:=[e,it]) rfl ⟨fun c o e n _ hx=>kp c o hx e,fun c o e n _ hx=>⟨o.slots,kp c o hx e⟩,fun c o e n _=>by rw[ao (lt e)];exact n,fun c o e hx=>⟨o,kp c o hx e⟩,fun c xs e=>by rw[ao (aC e hT)];exact e,fun c o u e=>by rw[ao (aC e hT)];exact e,fun c ps e=>⟨#[],by rw[ao (aC e hT),e];simp⟩⟩ ?_ I.bare ?_,rfl,⟨_,x,rfl,hT,rfl,fun zs hz'=>by rw[I.list_inj hz' hq1];exact hx⟩,?_,?_⟩
  . intro c ob e;by_cases hb:c=s.heap.objs.size
    . subst hb;rw[ah] at e;cases e;exact⟨by show(2:Nat)<=sizeLine;exact Rf (aD (by decide)),[.int i s.toks,u1],.cons ⟨_,rfl⟩ (.cons ru1 .nil),⟨_,gT,rfl,_,rfl⟩⟩
    . rw[ao hb] at e;refine(I.hok c ob e).stay (fun d w' hd g=>kp d w' ?_ g) (fun d g=>by rw[ao (aC g hT)];exact g) fun d xs g=>by rw[ao (aC g hT)];exact g
      intro hm;rcases hd with rfl | hd
      . rw[nH _ hm] at e;cases e
      . rw[nH _ hm] at hd;cases hd
  . intro c hc;obtain⟨f0,f1,f2,f3,f4,f5⟩:=hf c hc;exact⟨f3,f1,f4,f5⟩
  . exact⟨⟨_,hz2⟩,a2.extBut sb.extBut hne.symm⟩
  . intro c hc
    obtain⟨o,q⟩:∃ o,s.heap.get? c=some o:=by
     simp only[QV,R6,Tq] at hc;rcases hc with rfl | rfl
     . exact⟨_,he⟩
     . exact⟨_,e1⟩
    rw[ao (lt q)];exact(hf c hc).1
 done:=by
  intro X hP hw hK hc i Qi s σ H E I hf st hg;subst hP hw hK;obtain⟨xs,hq1,hx⟩:=hg;obtain⟨its1,rv1,p1,hz1⟩:=I.list hq1;have hl1:=rv1.length;obtain⟨⟨old,he⟩,⟨o1,e1,c1,f1⟩⟩:=id st;have hend:its1.toArray[i]? =none:=by simp;omega
  obtain⟨f0,f1',f2,f3,f4,f5⟩:=hf it (by simp);exact wpAny_pyNext_enum_end (I.ok.hd hc) he ⟨o1,e1,c1,f1⟩ p1.isList hend fun h' eb=>⟨rfl,I.turned (t':=s.toks) (fun b o hb e=>eb b o hb e) f0 f1' f3 f4 f5⟩
 self:=fun _ _ _ _ _ st h=>by
  obtain⟨⟨old,he⟩,_⟩:=st;exact wpAny_pyIter_enum he h
def iEnum(K:Frag)(ta:TA):TI:=fun σ H R=>ta σ H fun vs H1=>∃ a,vs=[.ref a]/\(∃ xs,SqL K H1 a xs)/\R (Ite K a) H1
theorem wN:bootBuiltins "enumerate"=some (.type "enumerate"):=by decide+kernel
theorem uB{es:List Expr}{x1:Nat}{tpos:Pos}{e1:Expr}{ta:TA}{p pos:Pos}(hg:Gl X "enumerate")(hm:X.mg "enumerate"=none)(ha:PA X [e1] ta)(hs:starEach [e1] X.env=[(false,eval e1 X.env)]:=by rfl):
  PI X (.Tuple es x1 tpos) (.Call (.Name "enumerate" p) [e1] [] pos) (iEnum X.K ta):=by
 intro Qi s σ H R I h;refine Call_ (hX I hg hm wN (Rz (thn (ha pos Qi s σ H _ I h) fun us s1 ⟨vs,H1,I1,r1,q1⟩=>?_) hs rfl));obtain⟨a,rfl,⟨xs,hq1⟩,q⟩:=q1;obtain⟨u1,rfl,ru1⟩:=dc r1;cases ru1;obtain⟨its1,rv1,p1,hz1⟩:=I1.list hq1;refine call_enumerate_list p1.isList fun h' a1 a2 a3 hk=>?_;refine wpAny_pyIter_enum a1 ?_;have I2:Inv X Qi σ H1 {s1 with heap:=h',toks:=s1.toks}:=I1.kept hk;refine⟨s1.heap.objs.size+1,[s1.heap.objs.size+1,s1.heap.objs.size],ESt a (s1.heap.objs.size+1) s1.heap.objs.size,Ite X.K a,H1,rfl,I2,AD a (s1.heap.objs.size+1) s1.heap.objs.size,⟨⟨_,a1⟩,a2⟩,fun c hc=>?_,q⟩
 have hge:s1.heap.objs.size<=c:=by
  simp only[QV,R6,Tq] at hc;rcases hc with rfl | rfl <;> omega
 exact I1.fpOk hge (I1.hok.fresh hge)
end
section
variable{K:Frag}{g:TG}{tb:TS}{D:Ends}{σ:St}{H:Hp}{ta:TA}{Q:VK}{ix:List (Option Nat)}{tt:TT}{te:TE}{k:Nat}
theorem jq:tFor (iEnum K ta) g tb D σ H=ta σ H fun vs H1=>∃ a,vs=[.ref a]/\(∃ xs,SqL K H1 a xs)/\LoopR (Ite K a) g tb D σ H1:=rfl
theorem gM:tComp ix (iEnum K ta) g tt te σ H Q=ta σ H fun vs H1=>∃ a,vs=[.ref a]/\(∃ xs,SqL K H1 a xs)/\CompR (Ite K a) g tt te (fun l H'=>Q (.ref l) H') (subσ ix σ) H1:=rfl
theorem dX:sComp k ix (iEnum K ta) g tt te D σ H=ta σ H fun vs H1=>∃ a,vs=[.ref a]/\(∃ xs,SqL K H1 a xs)/\CompR (Ite K a) g tt te (fun l H'=>D.nx (σ.set k (some (.ref l))) H') (subσ ix σ) H1:=rfl
theorem AE {a:Addr} {xs:List V} {fin:Addr->Hp->Prop} {σ0:St} {H1:Hp} (Pv:Addr->Nat->St->Hp->Prop) (h0:∀ l,H1 l=none->Pv l 0 σ0 (upd H1 l (.lst []))) (hq:∀ l i σ H,H1 l=none->i<=xs.length->Pv l i σ H->SqL K H a xs)
  (hs:∀ l i x T σ H,H1 l=none->xs[i]? =some x->Pv l i σ H->H T=none->g (.ref T) σ (upd H T (.tup [.int i,x])) fun σ2 H3=>tt σ2 H3 fun b H4=>if b=true then te σ2 H4 fun y H5=>∃ ys,H5 l=some (.lst ys)/\ys.length<sizeLine/\Pv l (i+1) σ2 (upd H5 l (.lst (ys++[y]))) else Pv l (i+1) σ2 H4)
  (hd:∀ l σ H,H1 l=none->Pv l xs.length σ H->fin l H):CompR (Ite K a) g tt te fin σ0 H1:=by
 intro l hl0;refine⟨fun i m σ H=>m=xs.length-i/\i<=xs.length/\Pv l i σ H,⟨xs.length,by simp,Rx _,h0 l hl0⟩,?_⟩;rintro i m σ H ⟨rfl,hi,p⟩;have q:=hq l i σ H hl0 hi p;by_cases hlt:i<xs.length
 . refine .inr ⟨⟨xs,xs[i],q,by simp[hlt]⟩,Pv l (i+1),fun σ' H' p'=>⟨xs.length - (i+1),by omega,rfl,hlt,p'⟩,fun v H' y=>?_⟩;obtain⟨T,x,rfl,hT,rfl,e⟩:=y;exact hs l i x T σ _ hl0 (e xs q) p hT
 . have e:i=xs.length:=by omega
   subst e;exact .inl ⟨⟨xs,q,QR _⟩,hd l σ H hl0 p⟩
theorem oy {a:Addr} {xs:List V} {fin:Addr->Hp->Prop} {σ0:St} {H1:Hp} {k1 k2:Nat} (b:Nat->Bool) (f:Nat->V) (hn:xs.length<=900) (hne:k1≠k2) (hq:SqL K H1 a xs)
  (ht:∀(i:Nat) x H R,xs[i]? =some x->Same H1 H->(∀ H',Same H H'->R (b i) H')->tt ((σ0.set k1 (some (.int (i:Int)))).set k2 (some x)) H R)
  (he:∀(i:Nat) x H Q,xs[i]? =some x->b i=true->Same H1 H->(∀ H',Same H H'->Q (f i) H')->te ((σ0.set k1 (some (.int (i:Int)))).set k2 (some x)) H Q)
  (hd:∀ l H,H1 l=none->Same H1 H->H l=some (.lst (((List.range xs.length).filter b).map f))->fin l H):
  CompR (Ite K a) (gTup K 2 (gCons (gName k1) (gCons (gName k2) gNil))) tt te fin σ0 H1:=by
 refine AE (xs:=xs) (fun l i σ H=>(σ=σ0\/∃ c1 c2,σ=(σ0.set k1 c1).set k2 c2)/\Same H1 H/\H l=some (.lst (((List.range i).filter b).map f))) (fun l hl=>⟨.inl rfl,fun b u e=>by rw[ao (aC e hl)];exact e,by rw[ah];rfl⟩) (fun l i σ H _ _ p=>p.2.1.seq hq) ?_ (fun l σ H hl p=>hd l H hl p.2.1 p.2.2);rintro l i x T σ H hl hx ⟨hσ,s1,el⟩ hT;have hi:i<xs.length:=(Qz.mp hx).1;have sT:Same H (upd H T (.tup [.int i,x])):=fun b u e=>by rw[ao (aC e hT)];exact e
 refine⟨T,_,rfl,T7 ah,rfl,_,_,rfl,_,_,rfl,rfl,?_⟩
 have e:(σ.set k1 (some (.int i))).set k2 (some x)=(σ0.set k1 (some (.int i))).set k2 (some x):=by
  rcases hσ with rfl | ⟨c1,c2,rfl⟩
  . rfl
  . rw[List.set_comm _ _ (Tj hne),R1,R1,List.set_comm _ _ hne]
 show tt ((σ.set k1 (some (.int i))).set k2 (some x)) _ _;rw[e];refine ht i x _ _ hx (s1.trans sT) fun H2 s2=>?_;have el2:=s2 _ _ (sT _ _ el);have s12:=(s1.trans sT).trans s2;have own:∀{H3:Hp} {o:HO},Same H1 H3->Same H1 (upd H3 l o):=fun s b u e=>by rw[ao (aC e hl)];exact s b u e
 have Qq:∀ i,i<=900->(((List.range i).filter b).map f).length<sizeLine:=fun i hi=>by
  rw[Qu];refine aD (QG (QE b _) ?_);rw[RH];omega
 cases hb:b i with
 | false=>
  rw[QT Qt];refine⟨.inr ⟨_,_,rfl⟩,s12,?_⟩;rw[RD,Rl,Rr,hb]
  simpa using el2
 | true=>
  rw[Q6 rfl];refine he i x H2 _ hx hb s12 fun H3 s3=>⟨_,s3 _ _ el2,Qq i (by omega),.inr ⟨_,_,rfl⟩,own (s12.trans s3),?_⟩;rw[ah,RD,Rl,Rr,hb];simp
end
def rngL(i j:Int):List Int:=(List.range (j-i).toNat).map fun(k:Nat)=>i+(k:Int)
theorem kg(i j:Int):(rngL i j).length=(j-i).toNat:=by unfold rngL;simp
theorem re:∀{xs:List V} {us:List Value},xs.length=us.length->(∀(i:Nat) x u,xs[i]? =some x->us[i]? =some u->RelV x u)->Vals xs us
 | [],[],_,_=>.nil
 | [],_::_,h,_=>by simp at h
 | _::_,[],h,_=>by simp at h
 | x::xs,u::us,h,f=>.cons (f 0 x u rfl rfl) (re (by simpa using h) fun i y e h1 h2=>f (i+1) y e (by simpa using h1) (by simpa using h2))
theorem BN{i j:Int}{acc:Array Value}(h:ItemsOf (fun k v=>∃ t,v=.int (i+k*1) t) acc (j-i).toNat):Vals ((rngL i j).map V.int) acc.toList:=by
 refine re (by rw[Qu,kg,Sq];exact h.1.symm) fun k x u hx hu=>?_;obtain⟨t,rfl⟩:=h.2 k u (by simpa using hu);unfold rngL at hx;rw[Re,QD] at hx;by_cases hk:k < (j-i).toNat
 . rw[RG hk] at hx;cases hx;exact⟨t,by rw[Int.mul_one]⟩
 . rw[Q7 (by simpa using hk)] at hx;cases hx
section
variable{X:Cx}
def k6(ta:TA):TE:=fun σ H Q=>ta σ H fun vs H1=>∃ j:Int,vs=[.int j]/\ -(2^60)<=j/\j<=1000/\∀ l,H1 l=none->Q (.ref l) (upd H1 l (.lst ((rngL 0 j).map V.int)))
def AF(ta:TA):TE:=fun σ H Q=>ta σ H fun vs H1=>∃ i j:Int,vs=[.int i,.int j]/\(0<=i/\i<=1000/\ -(2^60)<=j/\j<=1000)/\∀ l,H1 l=none->Q (.ref l) (upd H1 l (.lst ((rngL i j).map V.int)))
theorem BO {Qi:List (Addr × Obj)} {σ:St} {H1:Hp} {s1:Shared} {Q:VK} {i j:Int} {t u v:Tok} {tk:Nat} {A:Around} {E:Value->Shared->Prop} (hh:A.handled=none) (I1:Inv X Qi σ H1 s1) (h1:0<=i) (h2:i<=1000) (h3: -(2^60)<=j) (h4:j<=1000)
  (q:∀ l,H1 l=none->Q (.ref l) (upd H1 l (.lst ((rngL i j).map V.int)))):
  wpAny (model X.prog X.w) A (call (.type "list") [.ref s1.heap.objs.size]) (EP X Qi σ Q) E {s1 with heap:=s1.heap.push {cls:=.type "range",data:=.fields #[.int i t,.int j u,.int 1 v]},toks:=tk}:=by
 have I2:Inv X Qi σ H1 {s1 with heap:=s1.heap.push {cls:=.type "range",data:=.fields #[.int i t,.int j u,.int 1 v]},toks:=tk}:=I1.kept fun b o e=>QP _ e;refine call_list_range (n:=(j-i).toNat) hh (IsRange.new ..) (small_one (by omega) (by omega) (by omega) (by omega)) (by rw[rangeSize_one];split <;> omega) (by omega) fun h' tk' acc' c' old hS' hacc=>?_;have Qq:((rngL i j).map V.int).length<=sizeLine:=by rw[Qu,kg];exact Rf (aD (by omega))
 exact⟨.ref _,_,I2.laid (t':=tk') (o:=.lst ((rngL i j).map V.int)) old (QR _) ⟨Qq,acc'.toList,c',BN hacc,hS'⟩,rfl,q _ (I2.hok.fresh (QR _))⟩
theorem nq {a:Expr} {ta:TA} {p p2 pos pos2:Pos} (hc:X.calm=true) (hgl:Gl X "list") (hgr:Gl X "range") (hl:X.mg "list"=none) (hr:X.mg "range"=none) (ha:PA X [a] ta)
  (hs1:starEach [.Call (.Name "range" p2) [a] [] pos2] X.env=[(false,eval (.Call (.Name "range" p2) [a] [] pos2) X.env)]:=by rfl) (hs:starEach [a] X.env=[(false,eval a X.env)]:=by rfl):
  PE X (.Call (.Name "list" p) [.Call (.Name "range" p2) [a] [] pos2] [] pos) (k6 ta):=by
 intro Qi s σ H Q I h;refine RV (hX I hgl hl cm ?_ (by decide) (by decide));refine Rz ?_ hs1 rfl;rw[hs1];show wpAny _ _ (spliced [(false,eval (.Call (.Name "range" p2) [a] [] pos2) X.env)]) _ _ s;refine Ss ?_;refine Call_ (hX I hgr hr boot_range (Rz (thn (ha pos2 Qi s σ H _ I h) fun us s1 ⟨vs,H1,I1,r1,q1⟩=>?_) hs rfl));obtain⟨j,e,q1,q2,q⟩:=q1;subst e
 cases r1 with
 | cons r rr=>
  cases rr;obtain⟨t,rfl⟩:=r;refine call_range_1 ?_;refine Sw ?_;exact BO (I.ok.hd hc) I1 (by omega) (by omega) q1 q2 q
end
section
variable{σ:St}{H:Hp}{Q:VK}{ta:TA}
theorem gN:k6 ta σ H Q=ta σ H fun vs H1=>∃ j:Int,vs=[.int j]/\ -(2^60)<=j/\j<=1000/\∀ l,H1 l=none->Q (.ref l) (upd H1 l (.lst ((rngL 0 j).map V.int))):=rfl
theorem gO:AF ta σ H Q=ta σ H fun vs H1=>∃ i j:Int,vs=[.int i,.int j]/\(0<=i/\i<=1000/\ -(2^60)<=j/\j<=1000)/\∀ l,H1 l=none->Q (.ref l) (upd H1 l (.lst ((rngL i j).map V.int))):=rfl
end
end L2
namespace L2
def besL(h w c:Int):List Int:=(if 0<c/w then [c-w] else [])++(if 0<c%w then [c-1] else [])++(if c%w<w-1 then [c+1] else [])++(if c/w<h-1 then [c+w] else [])
inductive RC(h w:Int)(cs:List Int)(st:Int):Int->Prop
 | start:st∈cs->RC h w cs st st
 | step {x y:Int}:RC h w cs st x->y∈besL h w x->y∈cs->RC h w cs st y
variable{h w x:Int}{cs:List Int}
theorem RC.mem{st:Int}(r:RC h w cs st x):x∈cs:=by cases r <;> assumption
theorem RC.st{st:Int}(r:RC h w cs st x):st∈cs:=by
 induction r with
 | start h=>exact h
 | step _ _ _ ih=>exact ih
theorem oz:∀{xs ys:List Int},xs.Nodup->(∀ x∈xs,x∈ys)->xs.length<=ys.length
 | [],_,_,_=>Rx _
 | x::xs,ys,nd,h=>by
  have hx:=h x QK;have nd':=RA.mp nd
  have ih:=oz (xs:=xs) (ys:=ys.erase x) nd'.2 fun y hy=>by
   have ne:y≠x:=fun e=>nd'.1 (e ▸ hy);exact(List.mem_erase_of_ne ne).mpr (h y (QH _ hy))
  rw[List.length_erase_of_mem hx] at ih;have:0<ys.length:=TC hx;simp only[Rj];omega
structure BI(h w:Int)(cs:List Int)(st:Int)(fs:List Int)(pl:Nat):Prop where
 nd:fs.Nodup
 rc:∀ x∈fs,RC h w cs st x
 hst:st∈fs
 le:pl<=fs.length
 cl:∀(i:Nat) (x y:Int),i<pl->fs[i]? =some x->y∈besL h w x->y∈cs->y∈fs
variable{pl:Nat}
theorem BI.len{st:Int}{fs:List Int}(b:BI h w cs st fs pl):fs.length<=cs.length:=oz b.nd fun x hx=>(b.rc x hx).mem
theorem BI.start{st:Int}(hs:st∈cs):BI h w cs st [st] 0:=
 ⟨by simp,fun x hx=>by rw[QF.mp hx];exact .start hs,by simp,Rx _,fun i x y hi=>absurd hi (Nat.not_lt_zero _)⟩
theorem BI.done{st:Int}{fs:List Int}(b:BI h w cs st fs pl)(e:¬ pl<fs.length)(x:Int):x∈fs↔RC h w cs st x:=by
 refine⟨b.rc x,fun r=>?_⟩
 induction r with
 | start _=>exact b.hst
 | step r hy hc ih=>
  obtain⟨i,hi⟩:=List.getElem?_of_mem ih;have hlt:i<fs.length:=(Qz.mp hi).1;exact b.cl i _ _ (by omega) hi hy hc
def addC(cs fs:List Int)(y:Int):List Int:=if y∈cs/\¬ y∈fs then fs++[y] else fs
structure BJ(h w:Int)(cs:List Int)(st:Int)(f0:List Int)(pl:Nat)(bs:List Int)(fs:List Int):Prop where
 nd:fs.Nodup
 rc:∀ x∈fs,RC h w cs st x
 pre:f0 <+:fs
 al:∀ y∈bs,y∈cs->y∈fs
theorem BJ.zero{st:Int}{fs:List Int}(b:BI h w cs st fs pl):BJ h w cs st fs pl [] fs:=⟨b.nd,b.rc,List.prefix_refl _,fun y hy=>nomatch hy⟩
theorem BJ.more{st:Int}{f0 fs bs:List Int}{y:Int}(j:BJ h w cs st f0 pl bs fs)(hx:RC h w cs st x)(hy:y∈besL h w x):BJ h w cs st f0 pl (bs++[y]) (addC cs fs y):=by
 unfold addC
 split
 . rename_i hc
   refine⟨?_,fun z hz=>?_,j.pre.trans (List.prefix_append _ _),fun z hz hzc=>?_⟩
   . refine Sj.mpr ⟨j.nd,by simp,fun a ha b hb=>?_⟩;rw[QF.mp hb];intro e;exact hc.2 (e ▸ ha)
   . rcases QZ.mp hz with hz | hz
     . exact j.rc z hz
     . rw[QF.mp hz];exact .step hx hy hc.1
   . rcases QZ.mp hz with hz | hz
     . exact SR _ (j.al z hz hzc)
     . rw[QF.mp hz];simp
 . rename_i hc
   refine⟨j.nd,j.rc,j.pre,fun z hz hzc=>?_⟩;rcases QZ.mp hz with hz | hz
   . exact j.al z hz hzc
   . rw[QF.mp hz] at hzc ⊢;exact Decidable.byContradiction fun n=>hc ⟨hzc,n⟩
theorem BJ.done{st:Int}{f0 fs:List Int}(b:BI h w cs st f0 pl)(hx:f0[pl]? =some x)(j:BJ h w cs st f0 pl (besL h w x) fs):BI h w cs st fs (pl+1):=by
 have hlt:pl<f0.length:=(Qz.mp hx).1;have hle:=j.pre.length_le
 have get:∀ i,i<f0.length->fs[i]? =f0[i]? :=fun i hi=>by
  obtain⟨t,e⟩:=j.pre;rw[← e,Rh hi]
 refine⟨j.nd,j.rc,j.pre.subset b.hst,by omega,fun i z y hi hz hy hc=>?_⟩;rw[get i (by omega)] at hz;by_cases e:i<pl
 . exact j.pre.subset (b.cl i z y e hz hy hc)
 . have:i=pl:=by omega
   subst this;rw[hx] at hz;cases hz;exact j.al y hy hc
theorem AG{rs fs:List Int}(p:rs.Perm fs)(s:rs.Pairwise (· <=·))(nd:fs.Nodup):rs.Pairwise (· < ·):=by
 have nd':rs.Nodup:=p.nodup_iff.mpr nd;refine(s.and nd').imp ?_;intro a b h;have:=h.1;have:=h.2;omega
theorem sS:∀{xs ys:List Int},xs.Pairwise (· < ·)->ys.Pairwise (· < ·)->(∀ z,z∈xs↔z∈ys)->xs=ys
 | [],[],_,_,_=>rfl
 | [],y::ys,_,_,h=>absurd ((h y).mpr QK) (fun q=>nomatch q)
 | x::xs,[],_,_,h=>absurd ((h x).mp QK) (fun q=>nomatch q)
 | x::xs,y::ys,hx,hy,h=>by
  have hx':=Tc.mp hx;have hy':=Tc.mp hy
  have e:x=y:=by
   rcases QV.mp ((h x).mp QK) with e | m1
   . exact e
   . rcases QV.mp ((h y).mpr QK) with e | m2
     . exact e.symm
     . have:=hy'.1 x m1;have:=hx'.1 y m2;omega
  subst e;refine congrArg (x::·) (sS hx'.2 hy'.2 fun z=>⟨fun m=>?_,fun m=>?_⟩)
  . rcases QV.mp ((h z).mp (QH _ m)) with e | q
    . have:=hx'.1 z m;omega
    . exact q
  . rcases QV.mp ((h z).mpr (QH _ m)) with e | q
    . have:=hy'.1 z m;omega
    . exact q
end L2
namespace L2
open PySem PySem.Spec PyProof.Rows
local macro_rules | `(tactic| walk_at "w")=>`(tactic| (first | simp only [aL,dJ,cp,bo,gI,w_c,iN,dG,e7,dL,e8,w_b,w_not,im,lj,fc,fe,io,gJ,dM,lm,ff,ip,gK,kf,iq,dN,fg,fh,fj,c9,da,cq,cr,cu,b8,iu,iw,iy,iz,iA,iB,iC,iD,iE,iF,iG,iH,lp,fk,cw,fm,lq,fq,db,cy,iI,iJ,ft,fu,fv,
 List.getElem?_cons_zero,List.getElem?_cons_succ,Option.some.injEq,exists_eq_left',exists_eq_left,List.set_cons_zero,List.set_cons_succ,ce,V.int.injEq,V.bl.injEq,V.ref.injEq,V.str.injEq,List.append_nil,List.nil_append,List.cons_append] | dsimp only | skip))
local macro_rules|`(tactic|symm)=>`(tactic|walk_at "w")
theorem aT{n:Nat}(h:n<=1000):n<=sizeLine:=Rf (aD h)
theorem lnR{n:Nat}(h:Nat.ble n 1000=true):n<=sizeLine:=aT (Nat.le_of_ble_eq_true h)
def IsFl(H:Hp)(a:Addr)(h w g:Int):Prop:=H a=some (.tup [.int h,.int w,.int g])
variable{H:Hp}{p:Addr}
theorem Same.laid{H':Hp}{o:HO}(s:Same H H')(h:H' p=none):Same H (upd H' p o):=fun b u e=>by
 rw[ao (aC (s b u e) h)];exact s b u e
theorem aY{U:Addr}(O:HO)(h:H U=none):∃ z,upd H U O=z/\Same H z/\z U=some O:=⟨_,rfl,(Qy H).laid h,ah⟩
theorem Same.own{H':Hp}{o:HO}(s:Same H H')(h:H p=none):Same H (upd H' p o):=fun b u e=>by
 rw[ao (aC e h)];exact s b u e
variable{l:List Int}{i:Nat}
theorem fJ{x:Int}(h:l[i]? =some x):l.getD i 0=x:=by
 rw[List.getD,h];rfl
variable{ns:List Int}
theorem rA{k:Int}(h0:0<=k)(h1:k<ns.length):atI (ns.map V.int) k=some (.int (ns.getD k.toNat 0)):=by
 have e:((k.toNat:Nat):Int)=k:=Int.toNat_of_nonneg h0;have hlt:k.toNat<ns.length:=by omega
 have:(ns.map V.int)[k.toNat]? =some (.int (ns.getD k.toNat 0)):=by
  rw[QD,Qv hlt];simp[List.getD,hlt]
 have q:=dI this;rw[e] at q;exact q
theorem bf{α:Type}(l:List α):l.filter (fun _=>true)=l:=List.filter_eq_self.mpr fun _ _=>rfl
theorem aS{y:V}(h:(l.map V.int)[i]? =some y):∃ z,l[i]? =some z/\y=.int z:=by
 rw[QD] at h
 cases e:l[i]? with
 | none=>rw[e] at h;cases h
 | some z=>rw[e] at h;cases h;exact⟨z,rfl,rfl⟩
theorem bA{l:List Addr}{y:V}(h:(l.map V.ref)[i]? =some y):∃ z,l[i]? =some z/\y=.ref z:=by
 rw[QD] at h
 cases e:l[i]? with
 | none=>rw[e] at h;cases h
 | some z=>rw[e] at h;cases h;exact⟨z,rfl,rfl⟩
theorem m8{h w:Int}(h0:1<=h)(h1:h<=6):CMul h w:=.inl ⟨by omega,by omega⟩
theorem gh{ps:List Addr}{k:Int}(h0:0<=k)(h:ps[k.toNat]? =some p):atI (ps.map V.ref) k=some (.ref p):=by
 have e:((k.toNat:Nat):Int)=k:=Int.toNat_of_nonneg h0;have q0:(ps.map V.ref)[k.toNat]? =some (.ref p):=by rw[QD,h];rfl
 have q:=dI q0;rw[e] at q;exact q
section
variable{k:Nat}{lo:Int}{n:Nat}{tt:TT}{te:TE}{fin:Addr->Hp->Prop}{σ0:St}{H1:Hp}{K:Frag}{a:Addr}
theorem mh{n i:Nat}(b:Nat->Bool)(h:i<n)(hn:n<=900):((List.range i).filter b).length<=900:=by
 have:=QE b (List.range i);rw[RH] at this;omega
theorem rf (b:Nat->Bool) (f:Nat->V) (hn:n<=900)
  (ht:∀ i H R,i<n->Same H1 H->(∀ H',Same H H'->R (b i) H')->tt (σ0.set k (some (.int (lo+i)))) H R)
  (he:∀ i H Q,i<n->b i=true->Same H1 H->(∀ H',Same H H'->Q (f i) H')->te (σ0.set k (some (.int (lo+i)))) H Q)
  (hd:∀ l H,H1 l=none->Same H1 H->H l=some (.lst (((List.range n).filter b).map f))->fin l H):
  CompR (Itr lo n) (gName k) tt te fin σ0 H1:=by
 refine ow (fun l i σ H=>(σ=σ0\/∃ cv,σ=σ0.set k cv)/\Same H1 H/\H l=some (.lst (((List.range i).filter b).map f))) (fun l hl=>⟨.inl rfl,(Qy H1).laid hl,by rw[ah];rfl⟩) ?_ (fun l σ H hl p=>hd l H hl p.2.1 p.2.2);rintro l i σ H hl hi ⟨hσ,s1,el⟩;rw[bo]
 have e:σ.set k (some (.int (lo+i)))=σ0.set k (some (.int (lo+i))):=by
  rcases hσ with rfl | ⟨cv,rfl⟩
  . rfl
  . exact R1 ..
 rw[e];refine ht i H _ hi s1 fun H2 s2=>?_;have el2:=s2 _ _ el
 cases hb:b i with
 | false=>
  rw[QT Qt];refine⟨.inr ⟨_,rfl⟩,s1.trans s2,?_⟩;rw[RD,Rl,Rr,hb]
  simpa using el2
 | true=>
  rw[Q6 rfl];refine he i H2 _ hi hb (s1.trans s2) fun H3 s3=>⟨_,s3 _ _ el2,by rw[Qu];exact aD (QG (mh b hi hn) (by decide)),.inr ⟨_,rfl⟩,((s1.trans s2).trans s3).own hl,?_⟩;rw[ah,RD,Rl,Rr,hb];simp
theorem bY {xs:List V} (b:Nat->Bool) (f:Nat->V) (hn:xs.length<=900) (hq:SqL K H1 a xs)
  (ht:∀ i x H R,xs[i]? =some x->Same H1 H->(∀ H',Same H H'->R (b i) H')->tt (σ0.set k (some x)) H R)
  (he:∀ i x H Q,xs[i]? =some x->b i=true->Same H1 H->(∀ H',Same H H'->Q (f i) H')->te (σ0.set k (some x)) H Q)
  (hd:∀ l H,H1 l=none->Same H1 H->H l=some (.lst (((List.range xs.length).filter b).map f))->fin l H):
  CompR (Itl K a) (gName k) tt te fin σ0 H1:=by
 refine pM (xs:=xs) (fun l i σ H=>(σ=σ0\/∃ cv,σ=σ0.set k cv)/\Same H1 H/\H l=some (.lst (((List.range i).filter b).map f))) (fun l hl=>⟨.inl rfl,(Qy H1).laid hl,by rw[ah];rfl⟩) (fun l i σ H _ _ p=>p.2.1.seq hq) ?_ (fun l σ H hl p=>hd l H hl p.2.1 p.2.2);rintro l i x σ H hl hx ⟨hσ,s1,el⟩;have hi:i<xs.length:=(Qz.mp hx).1;rw[bo]
 have e:σ.set k (some x)=σ0.set k (some x):=by
  rcases hσ with rfl | ⟨cv,rfl⟩
  . rfl
  . exact R1 ..
 rw[e];refine ht i x H _ hx s1 fun H2 s2=>?_;have el2:=s2 _ _ el
 cases hb:b i with
 | false=>
  rw[QT Qt];refine⟨.inr ⟨_,rfl⟩,s1.trans s2,?_⟩;rw[RD,Rl,Rr,hb]
  simpa using el2
 | true=>
  rw[Q6 rfl];refine he i x H2 _ hx hb (s1.trans s2) fun H3 s3=>⟨_,s3 _ _ el2,by rw[Qu];exact aD (QG (mh b hi hn) (by decide)),.inr ⟨_,rfl⟩,((s1.trans s2).trans s3).own hl,?_⟩;rw[ah,RD,Rl,Rr,hb];simp
theorem yb (b:Nat->Bool) (f:Nat->Int) (hn:n<=900)
  (ht:∀ i H R,i<n->Same H1 H->(∀ H',Same H H'->R (b i) H')->tt (σ0.set k (some (.int (lo+i)))) H R)
  (he:∀ i H Q,i<n->b i=true->Same H1 H->(∀ H',Same H H'->Q (.int (f i)) H')->te (σ0.set k (some (.int (lo+i)))) H Q)
  (hd:∀ l H,H1 l=none->Same H1 H->H l=some (.lst ((((List.range n).filter b).map f).map V.int))->fin l H):
  CompR (Itr lo n) (gName k) tt te fin σ0 H1:=
 rf b (fun i=>.int (f i)) hn ht he fun l H hl s1 el=>hd l H hl s1 (by rw[Re];exact el)
theorem AH(b:Int->Bool)(f:Int->Int)(xs:List Int):((List.range xs.length).filter fun i=>b (xs.getD i 0)).map (fun i=>V.int (f (xs.getD i 0)))=((xs.filter b).map f).map V.int:=by
 have e:xs=(List.range xs.length).map fun i=>xs.getD i 0:=by
  refine RZ fun i=>?_;rw[QD];by_cases h:i<xs.length
  . rw[RG h,Qv h];simp[List.getD,h]
  . rw[Q7 (by omega),Q7 (by simpa using h)];rfl
 conv=>rhs;rw[e]
 rw[SX,Re,Re];rfl
theorem bu {xs:List Int} (b:Int->Bool) (f:Int->Int) (hn:xs.length<=900) (hq:SqL K H1 a (xs.map V.int))
  (ht:∀ x H R,x∈xs->Same H1 H->(∀ H',Same H H'->R (b x) H')->tt (σ0.set k (some (.int x))) H R)
  (he:∀ x H Q,x∈xs->b x=true->Same H1 H->(∀ H',Same H H'->Q (.int (f x)) H')->te (σ0.set k (some (.int x))) H Q)
  (hd:∀ l H,H1 l=none->Same H1 H->H l=some (.lst (((xs.filter b).map f).map V.int))->fin l H):
  CompR (Itl K a) (gName k) tt te fin σ0 H1:=by
 refine bY (xs:=xs.map V.int) (fun i=>b (xs.getD i 0)) (fun i=>.int (f (xs.getD i 0))) (by rw[Qu];exact hn) hq ?_ ?_ ?_
 . intro i x H R hx s1 h;obtain⟨z,hz,rfl⟩:=aS hx;rw[fJ hz] at h;exact ht z H R (QC hz) s1 h
 . intro i x H Q hx hb s1 h;obtain⟨z,hz,rfl⟩:=aS hx;rw[fJ hz] at h hb;exact he z H Q (QC hz) hb s1 h
 . intro l H hl s1 el;refine hd l H hl s1 ?_;rw[Qu] at el;rw[el,AH]
structure NewAt(H1 H:Hp)(l:Addr)(as:List Addr)(os:List HO):Prop where
 len:as.length=os.length
 nd:as.Nodup
 nl:l∉as
 fr:∀ a∈as,H1 a=none
 at_:∀(j:Nat) (a:Addr) (o:HO),as[j]? =some a->os[j]? =some o->H a=some o
theorem NewAt.nil{H1 H:Hp}{l:Addr}:NewAt H1 H l [] [] where
 len:=rfl
 nd:=SA
 nl:=by simp
 fr:=fun a h=>nomatch h
 at_:=fun j a o h=>by simp at h
theorem NewAt.same{H1 H H':Hp}{l:Addr}{as:List Addr}{os:List HO}(x:NewAt H1 H l as os)(s:Same H H'):NewAt H1 H' l as os:=
 ⟨x.len,x.nd,x.nl,x.fr,fun j a o h1 h2=>s _ _ (x.at_ j a o h1 h2)⟩
theorem NewAt.mem{H1 H:Hp}{l:Addr}{as:List Addr}{os:List HO}(x:NewAt H1 H l as os){a:Addr}(h:a∈as):∃ o,H a=some o:=by
 obtain⟨j,hj,e⟩:=RW.mp h;have hj2:j<os.length:=by rw[← x.len];exact hj
 exact⟨os[j],x.at_ j a os[j] (by rw[Qv hj,e]) (Qv hj2)⟩
theorem NewAt.more{H1 H H2:Hp}{l p:Addr}{as:List Addr}{os:List HO}{o u:HO}(x:NewAt H1 H l as os)(s1:Same H1 H)(s:Same H H2)(hp:H p=none)(e:H2 p=some o)(hl:H l=some u)(o':HO):NewAt H1 (upd H2 l o') l (as++[p]) (os++[o]):=by
 have npl:p≠l:=fun z=>by rw[z,hl] at hp;cases hp
 refine⟨by simp[x.len],?_,?_,?_,?_⟩
 . refine Sj.mpr ⟨x.nd,by simp,fun a ha b hb z=>?_⟩;rw[QF.mp hb] at z;obtain⟨o2,e2⟩:=x.mem ha;rw[z,hp] at e2;cases e2
 . intro hm;rcases QZ.mp hm with hm | hm
   . exact x.nl hm
   . exact npl (QF.mp hm).symm
 . intro a ha;rcases QZ.mp ha with ha | ha
   . exact x.fr a ha
   . rw[QF.mp ha]
     cases q:H1 p with
     | none=>rfl
     | some v=>rw[s1 _ _ q] at hp;cases hp
 . intro j a o2 h1 h2;have Qq:=x.len;by_cases hj:j<as.length
   . rw[Rh hj] at h1;rw[Rh (by omega)] at h2;have nal:a≠l:=fun z=>x.nl (z ▸ QC h1);rw[ao nal];exact s _ _ (x.at_ j a o2 h1 h2)
   . rw[Rs (by omega)] at h1;rw[Rs (by omega)] at h2
     have e0:j-as.length=0:=by
      have:=(Qz.mp h1).1;simp at this;omega
     rw[e0] at h1;rw[show j-os.length=0 by omega] at h2;simp at h1 h2;subst h1 h2;rw[ao npl];exact e
theorem rg (b:Nat->Bool) (o:Nat->HO) (hn:n<=900)
  (ht:∀ i H R,i<n->Same H1 H->(∀ H',Same H H'->R (b i) H')->tt (σ0.set k (some (.int (lo+i)))) H R)
  (he:∀ i H Q,i<n->b i=true->Same H1 H->(∀ a H',Same H H'->H a=none->H' a=some (o i)->Q (.ref a) H')->te (σ0.set k (some (.int (lo+i)))) H Q)
  (hd:∀ l as H,H1 l=none->Same H1 H->H l=some (.lst (as.map V.ref))->NewAt H1 H l as (((List.range n).filter b).map o)->fin l H):
  CompR (Itr lo n) (gName k) tt te fin σ0 H1:=by
 refine ow (fun l i σ H=>(σ=σ0\/∃ cv,σ=σ0.set k cv)/\Same H1 H/\∃ as:List Addr,H l=some (.lst (as.map V.ref))/\NewAt H1 H l as (((List.range i).filter b).map o)) (fun l hl=>⟨.inl rfl,(Qy H1).laid hl,[],by rw[ah];rfl,NewAt.nil⟩) ?_ (fun l σ H hl ⟨_,s1,as,el,x⟩=>hd l as H hl s1 el x);rintro l i σ H hl hi ⟨hσ,s1,as,el,x⟩;rw[bo]
 have e:σ.set k (some (.int (lo+i)))=σ0.set k (some (.int (lo+i))):=by
  rcases hσ with rfl | ⟨cv,rfl⟩
  . rfl
  . exact R1 ..
 rw[e];refine ht i H _ hi s1 fun H2 s2=>?_;have el2:=s2 _ _ el;have x2:=x.same s2;have s12:=s1.trans s2
 cases hb:b i with
 | false=>
  rw[QT Qt];refine⟨.inr ⟨_,rfl⟩,s12,as,el2,?_⟩;rw[RD,Rl,Rr,hb]
  simpa using x2
 | true=>
  rw[Q6 rfl];refine he i H2 _ hi hb s12 fun p H3 s3 hp ep=>⟨_,s3 _ _ el2,?_,.inr ⟨_,rfl⟩,(s12.trans s3).own hl,as++[p],?_,?_⟩
  . rw[Qu,x2.len,Qu];exact aD (QG (mh b hi hn) (by decide))
  . rw[ah];simp
  . have y:=x2.more s12 s3 hp ep el2 (.lst (as.map V.ref++[V.ref p]));rw[RD,Rl,Rr,hb]
    simpa using y
theorem oA {xs:List V} (b:Nat->Bool) (o:Nat->HO) (hn:xs.length<=900) (hq:SqL K H1 a xs)
  (ht:∀ i x H R,xs[i]? =some x->Same H1 H->(∀ H',Same H H'->R (b i) H')->tt (σ0.set k (some x)) H R)
  (he:∀ i x H Q,xs[i]? =some x->b i=true->Same H1 H->(∀ a H',Same H H'->H a=none->H' a=some (o i)->Q (.ref a) H')->te (σ0.set k (some x)) H Q)
  (hd:∀ l as H,H1 l=none->Same H1 H->H l=some (.lst (as.map V.ref))->NewAt H1 H l as (((List.range xs.length).filter b).map o)->fin l H):
  CompR (Itl K a) (gName k) tt te fin σ0 H1:=by
 refine pM (xs:=xs) (fun l i σ H=>(σ=σ0\/∃ cv,σ=σ0.set k cv)/\Same H1 H/\∃ as:List Addr,H l=some (.lst (as.map V.ref))/\NewAt H1 H l as (((List.range i).filter b).map o)) (fun l hl=>⟨.inl rfl,(Qy H1).laid hl,[],by rw[ah];rfl,NewAt.nil⟩) (fun l i σ H _ _ p=>p.2.1.seq hq) ?_ (fun l σ H hl ⟨_,s1,as,el,x⟩=>hd l as H hl s1 el x);rintro l i y σ H hl hy ⟨hσ,s1,as,el,x⟩;have hi:i<xs.length:=(Qz.mp hy).1;rw[bo]
 have e:σ.set k (some y)=σ0.set k (some y):=by
  rcases hσ with rfl | ⟨cv,rfl⟩
  . rfl
  . exact R1 ..
 rw[e];refine ht i y H _ hy s1 fun H2 s2=>?_;have el2:=s2 _ _ el;have x2:=x.same s2;have s12:=s1.trans s2
 cases hb:b i with
 | false=>
  rw[QT Qt];refine⟨.inr ⟨_,rfl⟩,s12,as,el2,?_⟩;rw[RD,Rl,Rr,hb]
  simpa using x2
 | true=>
  rw[Q6 rfl];refine he i y H2 _ hy hb s12 fun p H3 s3 hp ep=>⟨_,s3 _ _ el2,?_,.inr ⟨_,rfl⟩,(s12.trans s3).own hl,as++[p],?_,?_⟩
  . rw[Qu,x2.len,Qu];exact aD (QG (mh b hi hn) (by decide))
  . rw[ah];simp
  . have z:=x2.more s12 s3 hp ep el2 (.lst (as.map V.ref++[V.ref p]));rw[RD,Rl,Rr,hb]
    simpa using z
end
theorem DVs.of_get{K:Frag}{H:Hp}:∀{xs:List V} {ds:List PyData},xs.length=ds.length->(∀(i:Nat) x d,xs[i]? =some x->ds[i]? =some d->DV K H x d)->DVs K H xs ds
 | [],[],_,_=>.nil
 | [],_::_,h,_=>by simp at h
 | _::_,[],h,_=>by simp at h
 | x::xs,d::ds,h,f=>.cons (f 0 x d rfl rfl) (DVs.of_get (by simpa using h) fun i y e h1 h2=>f (i+1) y e (by simpa using h1) (by simpa using h2))
theorem uC:∀{ds:List PyData},(∀ d∈ds,PyData.canLay0 d=true)->PyData.canLayAll0 ds=true
 | [],_=>rfl
 | d::r,h=>by rw[PyData.canLayAll0,h d QK,uC fun e he=>h e (QH _ he)];rfl
theorem pP{n:Nat}:∀{ds:List PyData},(∀ d∈ds,PyData.depth d<=n)->PyData.depthAll ds<=n
 | [],_=>Rx _
 | d::r,h=>by rw[PyData.depthAll];exact Nat.max_le.mpr ⟨h d QK,pP fun e he=>h e (QH _ he)⟩
theorem uD{α:Type}[DecidableEq α](g:α->PyData)(hg:∀ a b,PyData.eqv (g a) (g b)=decide (a=b)):∀ xs ys:List α,PyData.eqvAll (xs.map g) (ys.map g)=decide (xs=ys)
 | [],[]=>rfl
 | [],_::_=>rfl
 | _::_,[]=>rfl
 | x::xs,y::ys=>by
  rw[Rc,Rc,PyData.eqvAll,hg,uD g hg xs ys,Q0];simp
structure IsLL(H:Hp)(l:Addr)(as:List Addr)(Qo:List (List Int)):Prop where
 top:H l=some (.lst (as.map V.ref))
 len:as.length=Qo.length
 at_:∀(j:Nat) (a:Addr) (xs:List Int),as[j]? =some a->Qo[j]? =some xs->H a=some (.lst (xs.map V.int))
theorem IsLL.same{H':Hp}{l:Addr}{as:List Addr}{Qo:List (List Int)}(x:IsLL H l as Qo)(s:Same H H'):IsLL H' l as Qo:=
 ⟨s _ _ x.top,x.len,fun j a xs h1 h2=>s _ _ (x.at_ j a xs h1 h2)⟩
def dY(K:Frag):Sp:=fun vs H Q _=>∃(a:Addr) (h w g c:Int),vs=[.ref a,.int c]/\IsFl H a h w g/\0<w/\w<100/\∀ p,H p=none->Q (.ref p) (upd H p (.tup [.int (c/w),.int (c%w)]))
def oB(K:Frag):TS:=
 (tSeq (tAsg (tOp cIx (tVar 0) (tC (.int 1))) (gName 2))
  (tRet (tTup (tCons (tOp cDiv (tVar 1) (tVar 2)) (tCons (tOp cMod (tVar 1) (tVar 2)) tNil)))))
abbrev eD9(Q:VK):Ends:={nx:=fun _ H'=>Q .non H',rt:=Q}
variable{K:Frag}{vs:List V}
theorem zu{Q:VK}{E:XK}(h:dY K vs H Q E):oB K (eD9 Q) (start ["floor","cell","wide"] vs) H:=by
 obtain⟨a,h,w,g,c,rfl,ha,w0,w1,k⟩:=h;show oB K _ [some (.ref a),some (.int c),none] H;unfold oB;symm;rw[iO ha];refine be (a:=V.int w) rfl ?_;symm;refine⟨⟨w0,by omega⟩,w0,lnR rfl,k⟩
theorem rB(h w c:Int):(besL h w c).length<=4:=by
 unfold besL;simp only[Q8]
 split <;> split <;> split <;> split <;> simp
def bH(K:Frag):Sp:=fun vs H Q _=>∃(a:Addr) (h w g c:Int),vs=[.ref a,.int c]/\IsFl H a h w g/\0<w/\w<100/\∀ l H',Same H H'->H l=none->H' l=some (.lst ((besL h w c).map V.int))->Q (.ref l) H'
def pQ(K:Frag):TS:=
 (tSeq (tAsg (tOp cIx (tVar 0) (tC (.int 0))) (gName 2))
  (tSeq (tAsg (tOp cIx (tVar 0) (tC (.int 1))) (gName 3))
  (tSeq (tAsg (tCall (dY K) [] E0 (tCons (tVar 0) (tCons (tVar 1) tNil))) (gName 4))
  (tSeq (tAsg (tLst tNil) (gName 5))
  (tSeq (tIfS (tTest (tOp (cCmp fun i j=>decide (j<i)) (tOp cIx (tVar 4) (tC (.int 0))) (tC (.int 0)))) (tDrop (tBM K "list" b7 (tVar 5) (tCons (tOp cSub (tVar 1) (tVar 3)) tNil))) tNext)
  (tSeq (tIfS (tTest (tOp (cCmp fun i j=>decide (j<i)) (tOp cIx (tVar 4) (tC (.int 1))) (tC (.int 0)))) (tDrop (tBM K "list" b7 (tVar 5) (tCons (tOp cSub (tVar 1) (tC (.int 1))) tNil))) tNext)
  (tSeq (tIfS (tTest (tOp (cCmp fun i j=>decide (i<j)) (tOp cIx (tVar 4) (tC (.int 1))) (tOp cSub (tVar 3) (tC (.int 1))))) (tDrop (tBM K "list" b7 (tVar 5) (tCons (tOp cAdd (tVar 1) (tC (.int 1))) tNil))) tNext)
  (tSeq (tIfS (tTest (tOp (cCmp fun i j=>decide (i<j)) (tOp cIx (tVar 4) (tC (.int 0))) (tOp cSub (tVar 2) (tC (.int 1))))) (tDrop (tBM K "list" b7 (tVar 5) (tCons (tOp cAdd (tVar 1) (tVar 3)) tNil))) tNext)
  (tRet (tVar 5))))))))))
theorem sU {D:Ends} {σ:St} {t:TT} {e:TE} {b:Bool} {v:Int} {l:Addr} (hσ:σ[i]? =some (some (.ref l))) (ht:∀ R,R b H->t σ H R) (hl:H l=some (.lst (ns.map V.int))) (hn:ns.length<=900)
  (he:∀ Q,Q (.int v) H->e σ H Q) (k:∀ H',(H' l=some (.lst ((ns++if b=true then [v] else []).map V.int)))->(∀ c,c≠l->H' c=H c)->D.nx σ H'):
  tIfS t (tDrop (tBM K "list" b7 (tVar i) (tCons e tNil))) tNext D σ H:=by
 rw[aA];refine ht _ ?_
 cases b with
 | false=>
  refine iteF ?_;rw[dJ];exact k H (by simpa using hl) fun _ _=>rfl
 | true=>
  refine iteT ?_;rw[dL,kf,gI];refine⟨_,hσ,bj hl,?_⟩;rw[dM];refine he _ ?_;rw[gJ,gg hl];refine⟨by rw[Qu];exact aD (by omega),k _ ?_ fun c hc=>ao hc⟩;rw[ah];simp
theorem AI{Q:VK}{E:XK}(h:bH K vs H Q E):pQ K (eD9 Q) (start ["floor","cell","high","wide","spot","found"] vs) H:=by
 obtain⟨a,h,w,g,c,rfl,ha,w0,w1,k⟩:=h;show pQ K _ [some (.ref a),some (.int c),none,none,none,none] H;unfold pQ;symm;rw[iO ha];refine be (a:=V.int h) rfl ?_;symm;rw[iO ha];refine be (a:=V.int w) rfl ?_;symm;refine⟨a,h,w,g,c,rfl,ha,w0,w1,fun p hp=>?_⟩;symm;refine⟨aT (by decide),fun l hl=>?_⟩;have npl:p≠l:=fun e=>by rw[e,ah] at hl;cases hl
 have hl0:H l=none:=by rw[ao npl.symm] at hl;exact hl
 have hpS:∀ H':Hp,(∀ d,d≠l->H' d=upd H p (.tup [.int (c/w),.int (c%w)]) d)->H' p=some (.tup [.int (c/w),.int (c%w)]):=fun H' e=>by rw[e p npl,ah]
 refine sU (ns:=[]) (l:=l) (i:=5) (b:=decide (0<c/w)) (v:=c-w) rfl (fun R q=>?_) ah (by decide) (fun Q q=>?_) fun H1 e1 f1=>?_
 . symm;rw[iO (hpS _ fun d hd=>ao hd)];refine be rfl ?_;symm;exact q
 . symm;exact q
 symm;refine sU (l:=l) (i:=5) (b:=decide (0<c%w)) (v:=c-1) rfl (fun R q=>?_) e1 (by simp;split <;> simp) (fun Q q=>?_) fun H2 e2 f2=>?_
 . symm;rw[iO (hpS _ fun d hd=>by rw[f1 d hd,ao hd])];refine be rfl ?_;symm;exact q
 . symm;exact q
 symm;refine sU (l:=l) (i:=5) (b:=decide (c%w<w-1)) (v:=c+1) rfl (fun R q=>?_) e2 (by simp;split <;> split <;> simp) (fun Q q=>?_) fun H3 e3 f3=>?_
 . symm;rw[iO (hpS _ fun d hd=>by rw[f2 d hd,f1 d hd,ao hd])];refine be rfl ?_;symm;exact q
 . symm;exact q
 symm;refine sU (l:=l) (i:=5) (b:=decide (c/w<h-1)) (v:=c+w) rfl (fun R q=>?_) e3 (by simp;split <;> split <;> split <;> simp) (fun Q q=>?_) fun H4 e4 f4=>?_
 . symm;rw[iO (hpS _ fun d hd=>by rw[f3 d hd,f2 d hd,f1 d hd,ao hd])];refine be rfl ?_;symm;exact q
 . symm;exact q
 symm;refine k l H4 (fun b o e=>?_) hl0 ?_
 . have nb:b≠l:=aC e hl0;have nbp:b≠p:=aC e hp;rw[f4 b nb,f3 b nb,f2 b nb,f1 b nb,ao nb,ao nbp];exact e
 . rw[e4];unfold besL;simp[QB]
structure FlOk(h w g:Int):Prop where
 h0:1<=h
 h1:h<=6
 w0:1<=w
 w1:w<=6
 m:h*w<=16
 g0:1<=g
 g1:g<=6
section
variable{K:Frag}{H:Hp}{Q:VK}
theorem sV{p:Addr}{xs:List V}(hp:H p=some (.lst xs))(h:Q (.bl true) H):kIsi [.ref p,.ty "list"] H Q:=by
 refine⟨by decide,be (a:="list") (by unfold me;dsimp only;rw[hp]) ?_⟩;rw[show isTy "list" "list"=true by decide];exact h
theorem sW{p:Addr}{xs:List V}(hp:H p=some (.tup xs))(h:Q (.bl true) H):kIsi [.ref p,.ty "tuple"] H Q:=by
 refine⟨by decide,be (a:="tuple") (by unfold me;dsimp only;rw[hp]) ?_⟩;rw[show isTy "tuple" "tuple"=true by decide];exact h
theorem BP{p q:Addr}{xs ys:List V}(hp:H p=some (.lst xs))(hq:H q=some (.lst ys))(hn:xs.length+ys.length<=1000)(h:Q .non (upd H p (.lst (xs++ys)))):l8 (.ref p) [.ref q] H Q:=by
 show bnd (unM (H p)) _;rw[hp];show bnd (unM (H q)) _;rw[hq];exact⟨Rf (aD hn),h⟩
theorem yP{p:Addr}{xs:List V}(hp:H p=some (.lst xs))(h:Q .non (upd H p (.lst []))):pK (.ref p) [] H Q:=by
 show bnd (unM (H p)) _;rw[hp];exact h
theorem DS{n:Nat}{t:TGs}{σ:St}{k:St->Hp->Prop}{p:Addr}{xs:List V}(hp:H p=some (.tup xs))(hn:xs.length=n)(h:t xs σ H k):gTup K n t (.ref p) σ H k:=⟨p,xs,rfl,T7 hp,hn,h⟩
theorem BQ{i j:Nat}{x y:V}{σ:St}{k:St->Hp->Prop}:gCons (gName i) (gCons (gName j) gNil) [x,y] σ H k=k ((σ.set i (some x)).set j (some y)) H:=by
 refine propext ⟨?_,fun h=>⟨x,[y],rfl,y,[],rfl,rfl,h⟩⟩;rintro⟨v,r,e,v2,r2,e2,e3,h⟩;cases e;cases e2;exact h
end
end L2
namespace L2
open PySem PySem.Builtin PySem.Builtin.Str
def tx(l:List Nat):Str:=⟨l.toArray⟩
theorem sX(l:List Nat):(tx l).cps.toList=l:=by simp[tx]
theorem EF(x:Str):tx x.cps.toList=x:=by cases x;simp[tx]
theorem AJ{a b:List Nat}(h:tx a=tx b):a=b:=by rw[← sX a,h,sX]
theorem gi(l:List Nat):(tx l).length=l.length:=by simp[tx,Str.length]
theorem sY(a b:List Nat):tx a++tx b=tx (a++b):=by
 refine Str.ext' ?_;rw[Str.cps_append];simp[tx]
theorem bv(a b:List Nat):decide (tx a=tx b)=decide (a=b):=by
 by_cases h:a=b
 . subst h;simp
 . have:¬ tx a=tx b:=fun e=>h (AJ e);rw[Qx h,Qx this]
def catL(c:Nat):List (List Nat)->List Nat
 | []=>[]
 | [x]=>x
 | x::y::r=>x++c::catL c (y::r)
theorem uE(c:Nat):∀ ts:List (List Nat),Str.join (tx [c]) (ts.map tx)=tx (catL c ts)
 | []=>rfl
 | [x]=>rfl
 | x::y::r=>by
  show tx x++tx [c]++Str.join (tx [c]) ((y::r).map tx)=_;rw[uE c (y::r),sY,sY];show tx _=tx (x++c::catL c (y::r));rw[RS];rfl
theorem BR(sep:Str)(ts:List Str):Txt.join sep ts=Str.join sep ts:=StrLaws.glued_eq_join sep ts
theorem yQ{c:Nat}:∀{a b x y:List Nat},c∉a->c∉b->a++c::x=b++c::y->a=b/\x=y
 | [],[],_,_,_,_,h=>⟨rfl,by simpa using h⟩
 | [],b::bs,_,_,_,hb,h=>by
  simp at h;exact absurd (QV.mpr (.inl h.1)) hb
 | a::as,[],_,_,ha,_,h=>by
  simp at h;exact absurd (QV.mpr (.inl h.1.symm)) ha
 | a::as,b::bs,x,y,ha,hb,h=>by
  simp at h;have:=yQ (fun z=>ha (QH _ z)) (fun z=>hb (QH _ z)) h.2;exact⟨by rw[h.1,this.1],this.2⟩
theorem wO{c:Nat}:∀{x:List Nat} {r:List (List Nat)} {y:List Nat},c∈catL c (x::y::r):=by
 intro x r y;show c∈x++c::_;simp
theorem wP{c:Nat}:∀{xs ys:List (List Nat)},xs≠[]->ys≠[]->(∀ x∈xs,c∉x)->(∀ y∈ys,c∉y)->catL c xs=catL c ys->xs=ys
 | [],_,h,_,_,_,_=>absurd rfl h
 | _,[],_,h,_,_,_=>absurd rfl h
 | [x],[y],_,_,_,_,h=>by
  have h':x=y:=h;rw[h']
 | [x],y::z::r,_,_,hx,_,h=>by
  have h':x=catL c (y::z::r):=h;exact absurd (h' ▸ wO) (hx x QK)
 | x::z::r,[y],_,_,_,hy,h=>by
  have h':catL c (x::z::r)=y:=h;exact absurd (h' ▸ wO) (hy y QK)
 | x::z::r,y::u::s,_,_,hx,hy,h=>by
  obtain⟨e1,e2⟩:=yQ (hx x QK) (hy y QK) (show x++c::catL c (z::r)=y++c::catL c (u::s) from h);rw[e1,wP (by simp) (by simp) (fun w hw=>hx w (QH _ hw)) (fun w hw=>hy w (QH _ hw)) e2]
theorem BS(x y:Str):Txt.split x y≠[]:=by
 intro h;unfold Txt.split at h
 split at h
 . cases h
 . split at h
   . cases h
   . rw[StrLaws.partsBetween_eq] at h;obtain⟨p,r,e⟩:=StrLaws.partsFrom_ne x y.length 0 (occurrences x y 0 x.length (x.length+1));rw[e] at h;cases h
theorem BT{c:Nat}{Qj:List (List Nat)}(hne:Qj≠[])(hf:∀ r∈Qj,c∉r):Txt.split (tx (catL c Qj)) (tx [c])=Qj.map tx:=by
 have h1:=StrLaws.join_split (tx (catL c Qj)) (tx [c]);have h2:∀ p∈Txt.split (tx (catL c Qj)) (tx [c]),c∉p.cps.toList:=StrLaws.split_free _ c;have h3:=BS (tx (catL c Qj)) (tx [c]);generalize Txt.split (tx (catL c Qj)) (tx [c])=S at*
 have e:S=(S.map (·.cps.toList)).map tx:=by
  rw[Re]
  conv=>lhs;rw[← List.map_id S]
  exact S1 fun x _=>(EF x).symm
 rw[e,uE] at h1;have h4:=AJ h1;have h5:=wP (c:=c) (xs:=S.map (·.cps.toList)) (ys:=Qj) (by simpa using h3) hne (fun x hx=>by obtain⟨p,hp,rfl⟩:=QS.mp hx;exact h2 p hp) hf h4;rw[e,h5]
end L2
namespace L2
end L2
namespace L2
open PySem PySem.Spec PyProof.Rows
local macro_rules | `(tactic| walk_at "w")=>`(tactic| (first | simp only [aL,dJ,cp,bo,gI,w_c,iN,dG,e7,dL,e8,w_b,w_not,im,lj,fc,fe,io,gJ,dM,lm,ff,ip,gK,kf,iq,dN,fg,fh,fj,c9,da,cq,cr,cu,b8,iu,iw,iy,iz,iA,iB,iC,iD,iE,iF,iG,iH,lp,fk,cw,fm,lq,fq,db,cy,iI,iJ,ft,fu,fv,
 List.getElem?_cons_zero,List.getElem?_cons_succ,Option.some.injEq,exists_eq_left',exists_eq_left,List.set_cons_zero,List.set_cons_succ,ce,V.int.injEq,V.bl.injEq,V.ref.injEq,V.str.injEq,List.append_nil,List.nil_append,List.cons_append] | dsimp only | skip))
local macro_rules|`(tactic|symm)=>`(tactic|walk_at "w")
section
variable{k:Nat}{tt:TT}{te:TE}{fin:Addr->Hp->Prop}{σ0:St}{H1:Hp}
theorem AK {cs:List Nat} (b:Nat->Bool) (f:Nat->V) (hn:cs.length<=900)
  (ht:∀ i c H R,cs[i]? =some c->Same H1 H->(∀ H',Same H H'->R (b i) H')->tt (σ0.set k (some (.str (tx [c])))) H R)
  (he:∀ i c H Q,cs[i]? =some c->b i=true->Same H1 H->(∀ H',Same H H'->Q (f i) H')->te (σ0.set k (some (.str (tx [c])))) H Q)
  (hd:∀ l H,H1 l=none->Same H1 H->H l=some (.lst (((List.range cs.length).filter b).map f))->fin l H):
  CompR (Its (tx cs)) (gName k) tt te fin σ0 H1:=by
 intro l hl;have hsz:(tx cs).cps.size=cs.length:=by simp[tx]
 refine⟨fun i m σ H=>m=cs.length-i/\i<=cs.length/\(σ=σ0\/∃ cv,σ=σ0.set k cv)/\Same H1 H/\H l=some (.lst (((List.range i).filter b).map f)),⟨cs.length,by simp,Rx _,.inl rfl,(Qy H1).laid hl,by rw[ah];rfl⟩,?_⟩;rintro i m σ H ⟨rfl,hi,hσ,s1,el⟩;by_cases hlt:i<cs.length
 . refine .inr ⟨by show i < (tx cs).cps.size;rw[hsz];exact hlt,fun σ H=>(σ=σ0\/∃ cv,σ=σ0.set k cv)/\Same H1 H/\H l=some (.lst (((List.range (i+1)).filter b).map f)),fun σ' H' p'=>⟨cs.length - (i+1),by omega,rfl,hlt,p'⟩,?_⟩;rintro x H' ⟨rfl,c,hc,rfl⟩;have hc':cs[i]? =some c:=by simpa [tx] using hc
   show gName k (.str (tx [c])) σ H' _;rw[bo]
   have e:σ.set k (some (.str (tx [c])))=σ0.set k (some (.str (tx [c]))):=by
    rcases hσ with rfl | ⟨cv,rfl⟩
    . rfl
    . exact R1 ..
   rw[e];refine ht i c H' _ hc' s1 fun H2 s2=>?_;have el2:=s2 _ _ el
   cases hb:b i with
   | false=>
    rw[QT Qt];refine⟨.inr ⟨_,rfl⟩,s1.trans s2,?_⟩;rw[RD,Rl,Rr,hb]
    simpa using el2
   | true=>
    rw[Q6 rfl];refine he i c H2 _ hc' hb (s1.trans s2) fun H3 s3=>⟨_,s3 _ _ el2,by rw[Qu];exact aD (QG (mh b hlt hn) (by decide)),.inr ⟨_,rfl⟩,((s1.trans s2).trans s3).own hl,?_⟩;rw[ah,RD,Rl,Rr,hb];simp
 . have e:i=cs.length:=by omega
   subst e;exact .inl ⟨by show(tx cs).cps.size<=_;rw[hsz];exact QR _,hd l H hl s1 el⟩
end
theorem pf{α:Type}(xs:List Int)(g:Int->α):(List.range xs.length).map (fun i=>g (xs.getD i 0))=xs.map g:=by
 have e:xs=(List.range xs.length).map fun i=>xs.getD i 0:=by
  refine RZ fun i=>?_;rw[QD];by_cases h:i<xs.length
  . rw[RG h,Qv h];simp[List.getD,h]
  . rw[Q7 (by omega),Q7 (by simpa using h)];rfl
 conv=>rhs;rw[e]
 rw[Re];rfl
theorem wQ{sep:Str}{ts:List Str}(h1:ts.length<=1000)(h2:∀ t∈ts,t.length<=1000)(h3:sep.length<=10):JoinOk sep ts=true:=by
 unfold JoinOk;rw[Bool.not_eq_true'];refine StrLaws.joinFits (B:=1000) h2 ?_;have a1:ts.length*1000<=1000*1000:=ST _ h1;have a2:ts.length*sep.length<=1000*10:=TW h1 h3;omega
abbrev rIsN:R2:=fun x y H Q=>y=.non/\Q (.bl (decide (x=.non))) H
abbrev rNotN:R2:=fun x y H Q=>y=.non/\Q (.bl (!decide (x=.non))) H
def kStr:List V->Hp->VK->Prop
 | [.int i],H,Q=>i.natAbs.log2<1920/\Q (.str (Str.ofString (toString i))) H
 | _,_,_=>False
section
variable{X:Cx}
theorem vx:CallR X (.type "str") kStr:=by
 intro Qi s σ H xs us Q I r h;unfold kStr at h
 split at h
 . obtain⟨hi,q⟩:=h
   cases r with
   | cons r0 rr=>
    cases rr;obtain⟨t,rfl⟩:=r0;exact PySem.P.str_of_int hi ⟨.str _,H,I.tok _,⟨_,rfl⟩,q⟩
 . exact h.elim
end
section
variable{K:Frag}{H:Hp}{Q:VK}
theorem nc{x:V}:rIsN x .non H Q=Q (.bl (decide (x=.non))) H:=by simp[rIsN]
theorem k7{x:V}:rNotN x .non H Q=Q (.bl (!decide (x=.non))) H:=by simp[rNotN]
theorem lX{i:Int}:kStr [.int i] H Q=(i.natAbs.log2<1920/\Q (.str (Str.ofString (toString i))) H):=rfl
end
structure Bt2(mg:Str->Option Value):Prop extends Bt mg where
 all_:mg "all"=none
 sum_:mg "sum"=none
 enumerate_:mg "enumerate"=none
section
variable{K:Frag}{H:Hp}{Q:VK}{D:Ends}{σ:St}{g:TG}{tb:TS}{ta:TA}{ix:List (Option Nat)}{tt:TT}{te tf:TE}{k:Nat}
theorem lY:tIf tt te tf σ H Q=tt σ H fun c H1=>if c=true then te σ H1 Q else tf σ H1 Q:=rfl
theorem dZ:tComp ix (qy ta) g tt te σ H Q=ta σ H fun vs H1=>∃ i j:Int,vs=[.int i,.int j]/\(-(2^62)<=i/\i<2^62/\ -(2^62)<=j/\j<2^62)/\CompR (Itr i (j-i).toNat) g tt te (fun l H'=>Q (.ref l) H') (subσ ix σ) H1:=rfl
theorem dg:sComp k ix (qy ta) g tt te D σ H=ta σ H fun vs H1=>∃ i j:Int,vs=[.int i,.int j]/\(-(2^62)<=i/\i<2^62/\ -(2^62)<=j/\j<2^62)/\CompR (Itr i (j-i).toNat) g tt te (fun l H'=>D.nx (σ.set k (some (.ref l))) H') (subσ ix σ) H1:=rfl
theorem isiE{x:V}{n t:String}{b:Bool}(hx:me H x=some t)(hn:qC n=true)(hb:isTy t n=b):kIsi [x,.ty n] H Q=Q (.bl b) H:=by
 subst hb;show(qC n=true/\bnd (me H x) fun t=>Q (.bl (isTy t n)) H)=_;rw[hx];simp only[hn,true_and,ce]
theorem d0{i:Int}:kIsi [.int i,.ty "int"] H Q=Q (.bl true) H:=isiE (t:="int") rfl (by decide) (by decide)
theorem d2{i:Int}:kIsi [.int i,.ty "bool"] H Q=Q (.bl false) H:=isiE (t:="int") rfl (by decide) (by decide)
theorem d3{i:Int}:kIsi [.int i,.ty "str"] H Q=Q (.bl false) H:=isiE (t:="int") rfl (by decide) (by decide)
theorem d4{i:Bool}:kIsi [.bl i,.ty "bool"] H Q=Q (.bl true) H:=isiE (t:="bool") rfl (by decide) (by decide)
theorem d5{i:Bool}:kIsi [.bl i,.ty "int"] H Q=Q (.bl true) H:=isiE (t:="bool") rfl (by decide) (by decide)
theorem d6{i:Str}:kIsi [.str i,.ty "str"] H Q=Q (.bl true) H:=isiE (t:="str") rfl (by decide) (by decide)
theorem d7{i:Bool}:kIsi [.bl i,.ty "str"] H Q=Q (.bl false) H:=isiE (t:="bool") rfl (by decide) (by decide)
theorem jr{A B:Prop}:(if true=true then A else B)=A:=Q6 rfl
theorem js{A B:Prop}:(if false=true then A else B)=B:=QT Qt
theorem jt{i:Int}:rU (fun i=>.int (-i)) (.int i) H Q=Q (.int (-i)) H:=by
 refine propext ⟨?_,fun h=>⟨i,rfl,h⟩⟩;rintro⟨j,e,h⟩;cases e;exact h
theorem ixT{p:Addr}{i:Int}{xs:List V}{v:V}(h:H p=some (.tup xs))(e:atI xs i=some v)(q:Q v H):cIx (.ref p) (.int i) H Q:=by
 rw[iO h];exact be e q
theorem ixL{p:Addr}{i:Int}{xs:List V}{v:V}(h:H p=some (.lst xs))(e:atI xs i=some v)(q:Q v H):cIx (.ref p) (.int i) H Q:=by
 rw[Ca h];exact be e q
theorem ixI{p:Addr}{i:Int}{ns:List Int}(h:H p=some (.lst (ns.map V.int)))(h0:0<=i)(h1:i<ns.length)(q:Q (.int (ns.getD i.toNat 0)) H):cIx (.ref p) (.int i) H Q:=ixL h (rA h0 h1) q
end
def cMulB:R2
 | .int i,.int j,H,Q=>IntMulOk i j/\Q (.int (i*j)) H
 | _,_,_,_=>False
end L2
namespace Att
open PySem PySem.W PySem.Calls PyProof.Rows
end Att
namespace L2
open PySem PySem.Spec PyProof.Rows
section
variable{K:Frag}{H:Hp}{Q:VK}{D:Ends}{σ:St}
theorem GI{i j:Int}:cMulB (.int i) (.int j) H Q=(IntMulOk i j/\Q (.int (i*j)) H):=rfl
theorem ng{i j:Int}:cPow (.int i) (.int j) H Q=(CPow i j/\Q (.int (i^j.toNat)) H):=rfl
theorem uF{ix:List (Option Nat)}{tl:TE}{g:TG}{tt:TT}{te:TE}:tComp ix (iTup K tl) g tt te σ H Q=tl σ H fun x H1=>∃ a,x=.ref a/\(∃ xs,SqT K H1 a xs)/\CompR (Itt K a) g tt te (fun l H'=>Q (.ref l) H') (subσ ix σ) H1:=rfl
theorem zv{p:Addr}{bs:List Bool}(hp:H p=some (.lst (bs.map V.bl)))(h:Q (.bl (bs.any id)) H):kAny [.ref p] H Q:=by
 show bnd (unL (H p)) _;rw[hp];exact be (a:=bs.map V.bl) rfl ⟨bs,rfl,h⟩
theorem pR{p q:Addr}{xs ys:List V}(hp:H p=some (.lst xs))(hq:H q=some (.lst ys))(hn:xs.length+ys.length<=1000)(h:∀ r,H r=none->Q (.ref r) (upd H r (.lst (xs++ys)))):cAdd (.ref p) (.ref q) H Q:=by
 show bnd (unM (H p)) _;rw[hp];refine be (a:=xs) rfl ?_;rw[hq];exact be (a:=ys) rfl ⟨Rf (aD hn),h⟩
theorem wR {g:TG} {tt:TT} {te:TE} {a:Addr} {xs:List V} {fin:Addr->Hp->Prop} {σ0:St} {H1:Hp} (Pv:Addr->Nat->St->Hp->Prop) (h0:∀ l,H1 l=none->Pv l 0 σ0 (upd H1 l (.lst []))) (hq:∀ l i σ H,H1 l=none->i<=xs.length->Pv l i σ H->SqT K H a xs)
  (hs:∀ l i x σ H,H1 l=none->xs[i]? =some x->Pv l i σ H->g x σ H fun σ2 H3=>tt σ2 H3 fun b H4=>if b=true then te σ2 H4 fun y H5=>∃ ys,H5 l=some (.lst ys)/\ys.length<sizeLine/\Pv l (i+1) σ2 (upd H5 l (.lst (ys++[y]))) else Pv l (i+1) σ2 H4)
  (hd:∀ l σ H,H1 l=none->Pv l xs.length σ H->fin l H):CompR (Itt K a) g tt te fin σ0 H1:=by
 intro l hl0;refine⟨fun i m σ H=>m=xs.length-i/\i<=xs.length/\Pv l i σ H,⟨xs.length,by simp,Rx _,h0 l hl0⟩,?_⟩;rintro i m σ H ⟨rfl,hi,p⟩;have q:=hq l i σ H hl0 hi p;by_cases hlt:i<xs.length
 . refine .inr ⟨⟨xs,xs[i],q,by simp[hlt]⟩,Pv l (i+1),fun σ' H' p'=>⟨xs.length - (i+1),by omega,rfl,hlt,p'⟩,fun x H' y=>?_⟩;obtain⟨e,y⟩:=y;subst e;exact hs l i x σ _ hl0 (y xs q) p
 . have e:i=xs.length:=by omega
   subst e;exact .inl ⟨⟨xs,q,QR _⟩,hd l σ H hl0 p⟩
end
inductive RK where
 | Rule | Unlike | Sum | Rising | Seen | Count | Joined | NoSquare | Ring
 deriving DecidableEq
structure RCl (ι:Type) where
 A:ι->Addr
 ok:ι->Bool
section
variable{ι:Type}
def tFldK(c:RCl ι)(ta:TE)(f:Str):TE:=fun σ H Q=>ta σ H fun x H1=>∃ a k dx fs v,x=.ref a/\c.ok k=true/\H1 a=some (.ins (c.A k) dx fs)/\fs.lookup f=some v/\Q v H1
def sFldK(c:RCl ι)(ta tv:TE)(f:Str):TS:=fun D σ H=>tv σ H fun y H1=>ta σ H1 fun x H2=>∃ a k dx fs,x=.ref a/\c.ok k=true/\H2 a=some (.ins (c.A k) dx fs)/\fs.length<1000/\
 D.nx σ (upd H2 a (.ins (c.A k) dx (putF f y fs)))
def aI(c:RCl ι)(okm:ι->Bool)(m:Str)(sp:ι->Sp)(ta:TE)(t:TA):TE:=fun σ H Q=>ta σ H fun x H1=>∃ a k dx fs,x=.ref a/\okm k=true/\H1 a=some (.ins (c.A k) dx fs)/\fs.lookup m=none/\
 t σ H1 fun vs H2=>sp k (x::vs) H2 Q E0
structure FldK(K:Frag)(c:RCl ι)(f:Str):Prop where
 ex:∀ k,c.ok k=true->Cls K (c.A k)/\NoAttr K (c.A k) f
structure MCal(P:Program)(w:World)(K:Frag)(mg:Str->Option Value)(base:Heap)(c:RCl ι)(okm:ι->Bool)(k:Nat)(m:Str)(ps:List Str)(sp:ι->Sp):Prop where
 ex:∀ i,okm i=true->∃(f:Addr) (fd:FuncData),Cls K (c.A i)/\Meth K (c.A i) m f/\FnOk P w K mg base CX0 k f fd ps (sp i)/\Binds K fd ps []
structure KCal(P:Program)(w:World)(K:Frag)(mg:Str->Option Value)(base:Heap)(k:Nat)(x:Str)(C:Addr)(ps:List Str)(sp:Sp):Prop where
 ex:∃(f:Addr) (fd:FuncData),Mk K C f/\FnOk P w K mg base CX0 k f fd ps sp/\mg x=some (.ref C)/\Binds K fd ps []
end
section
variable{ι:Type}{X:Cx}{c:RCl ι}{o e value:Expr}{es:List Expr}{f x m:Str}{p pos pos' apos:Pos}{ta tv:TE}{t:TA}{okm:ι->Bool}{k n:Nat}{ps:List Str}{sp:ι->Sp}{sp1:Sp}{C:Addr}
theorem bJ(he:PE X e ta)(F:FldK X.K c f)(hb:attributeBase e f X.env (eval e X.env)=eval e X.env:=by rfl):PE X (.Attribute e f pos) (tFldK c ta f):=by
 intro Qi s σ H Q I h;refine Cu hb (thn (he Qi s σ H _ I h) fun u s1 ⟨x,H1,I1,rx,a,k,dx,fs,v,ex,hk,ea,l,q⟩=>?_);subst ex;obtain rfl:u=Value.ref a:=rx;obtain⟨cl,na⟩:=F.ex k hk;exact zn I1 ea cl na l fun u' s2 I2 ru=>⟨v,H1,I2,ru,q⟩
theorem jg(ha:PE X o ta)(hv:PE X value tv)(F:FldK X.K c f)(hs:swapsWith value (some (.Attribute o f pos')) pos.line X.env=pure false:=by rfl):PS X (.Assign [.Attribute o f pos'] value pos) (sFldK c ta tv f):=by
 intro Qi s σ H D I h;refine plainObj_wpAny_Assign_Attribute (thn (hv Qi s σ H _ I h) fun u s1 ⟨y,H1,I1,ry,q⟩=>thn (ha Qi s1 σ H1 _ I1 q) fun ov s2 ⟨x,H2,I2,rx,a,k,dx,fs,ex,hk,ea,l,q2⟩=>?_) hs;subst ex;obtain rfl:ov=Value.ref a:=rx;obtain⟨cl,na⟩:=F.ex k hk;exact zo I2 ea cl na l ry fun s3 I3=>⟨σ,_,I3,q2⟩
theorem cz {pl:Sem Bool} (M:MCal X.prog X.w X.K X.mg X.base c okm k m ps sp) (hr:Room n X.A) (hk:k<=n) (he:PE X o ta) (ha:PA X (e::es) t)
  (hst:starEach (e::es) X.env=(false,eval e X.env)::starEach es X.env:=by rfl) (hpl:(backTo pos (starEach es X.env)).any (·.1)=false:=by rfl)
  (ht:eval (.Call (.Attribute o m apos) (e::es) [] pos) X.env=(do
   let ov ← eval o X.env
   standAt apos.atName
   let (f,first) ← holding [ov] (getMethod ov m pl)
   callWith pos f first (backTo pos (starEach (e::es) X.env)) (backToKw pos (keywordEach [] X.env))):=by rfl):
  PE X (.Call (.Attribute o m apos) (e::es) [] pos) (aI c okm m sp ta t):=by
 intro Qi s σ H Q I h;refine TV (pl:=pl) (thn (he Qi s σ H _ I h) fun u s1 ⟨x,H1,I1,rx,a,i,dx,fs,ex,hi,ea,l,q⟩=>?_) ht;subst ex;obtain rfl:u=Value.ref a:=rx;obtain⟨f,fd,cl,hm,F,hb⟩:=M.ex i hi;refine sF I1 ea cl hm l ?_;refine Ta (first:=[.ref a]) (h₀:=X.base) I.ok.mod.kin hm.kp (thn (ha pos Qi s1 σ H1 _ I1 q) fun us s2 ⟨vs,H2,I2,r,q2⟩=>⟨I2.kIn,?_⟩) hst hpl;exact wx (us:=.ref a::us) (vs:=.ref a::vs) F (hr.mono hk) hb .nil wn I2 (.cons rfl r) (by rw[List.append_nil];exact q2)
theorem aJ {pl:Sem Bool} (M:MCal X.prog X.w X.K X.mg X.base c okm k m ps sp) (hr:Room n X.A) (hk:k<=n) (he:PE X o ta)
  (ht:eval (.Call (.Attribute o m apos) [] [] pos) X.env=(do
   let ov ← eval o X.env
   standAt apos.atName
   let (f,first) ← holding [ov] (getMethod ov m pl)
   callWith pos f first (backTo pos (starEach [] X.env)) (backToKw pos (keywordEach [] X.env))):=by rfl):
  PE X (.Call (.Attribute o m apos) [] [] pos) (aI c okm m sp ta tNil):=by
 intro Qi s σ H Q I h;refine TV (pl:=pl) (thn (he Qi s σ H _ I h) fun u s1 ⟨x,H1,I1,rx,a,i,dx,fs,ex,hi,ea,l,q⟩=>?_) ht;subst ex;obtain rfl:u=Value.ref a:=rx;obtain⟨f,fd,cl,hm,F,hb⟩:=M.ex i hi;refine sF I1 ea cl hm l ?_;exact PySem.W.callWith_K0 (first:=[.ref a]) I1.kIn hm.kp (wx (us:=[.ref a]) (vs:=[.ref a]) F (hr.mono hk) hb .nil wn I1 (.cons rfl .nil) q)
theorem lZ (M:KCal X.prog X.w X.K X.mg X.base k x C ps sp1) (hr:Room n X.A) (hk:k+1<=n) (hg:Gl X x) (ha:PA X (e::es) t)
  (hdb:(x==("__debug__":Str))=false:=by decide) (he:starEach (e::es) X.env=(false,eval e X.env)::starEach es X.env:=by rfl) (hpl:(backTo pos (starEach es X.env)).any (·.1)=false:=by rfl):
  PE X (.Call (.Name x p) (e::es) [] pos) (tMake C sp1 [] E0 t):=by
 obtain⟨f,fd,mk,F,hm,hb⟩:=M.ex;exact Cw mk F (hr.mono hk) hg hm hb .nil wn ha hdb he hpl
end
def mj(K:Frag):List V->Hp->VK->Prop
 | [.ref p],H,Q=>bnd (unM (H p)) fun ys=>∀ l,H l=none->Q (.ref l) (upd H l (.tup ys))
 | _,_,_=>False
def tInG(ws:List Str)(neg:Bool)(te:TE):TE:=fun σ H Q=>te σ H fun x H1=>∃ z,x=.str z/\Q (.bl (if neg then !decide (z∈ws) else decide (z∈ws))) H1
structure GTup(K:Frag)(mg:Str->Option Value)(x:Str)(ws:List Str):Prop where
 ex:∃(p:Addr) (o:Obj) (Qm:Array Value) (n:Nat),mg x=some (.ref p)/\K.lookup p=some o/\o.cls=.type "tuple"/\o.data=.seq Qm n/\Qm.size<=sizeLine/\Vals (ws.map V.str) Qm.toList
theorem gj:∀ ns:List Str,(ns.map V.str).all flatV=true
 | []=>rfl
 | n::r=>by rw[Rc,SO,gj r];rfl
theorem iP(i:Str):∀ ns:List Str,inV (.str i) (ns.map V.str)=decide (i∈ns)
 | []=>by simp[inV]
 | n::r=>by
  have ih:=iP i r;unfold inV at ih ⊢;rw[Rc,Si,ih];show((n==i)||decide (i∈r))=decide (i∈n::r);rw[Q0,TL,Sk,QB,QB,QV];exact⟨fun h=>h.elim (fun e=>.inl e.symm) .inr,fun h=>h.elim (fun e=>.inl e.symm) .inr⟩
section
variable{X:Cx}{a:Expr}{ta:TE}{pos p:Pos}{x:Str}{ws:List Str}
theorem rh:CallR X (.type "tuple") (mj X.K):=by
 intro Qi s σ H xs us Q I r h;unfold mj at h
 split at h
 . obtain⟨ys,e,q⟩:=bc h;exact vH Qi s σ H _ us Q I r ⟨_,ys,rfl,.inl ⟨QI (gf e),q⟩⟩
 . exact h.elim
theorem DT{ws:List Str}{q:Addr}(hq:∃(o:Obj) (Qm:Array Value) (n:Nat),X.K.lookup q=some o/\o.cls=.type "tuple"/\o.data=.seq Qm n/\Qm.size<=sizeLine/\Vals (ws.map V.str) Qm.toList):
  OpR X (compareOp .In) (fun x y H Q=>∃ z,x=.str z/\y=.ref q/\Q (.bl (decide (z∈ws))) H):=by
 intro Qi s σ H x y v u Q I rx ry h;obtain⟨z,rfl,rfl,h⟩:=h;refine pE Qi s σ H _ _ v u Q I rx ry ⟨q,ws.map V.str,rfl,.inr (.inr hq),rfl,gj ws,?_⟩;rw[iP];exact h
theorem CJ{ws:List Str}{q:Addr}(hq:∃(o:Obj) (Qm:Array Value) (n:Nat),X.K.lookup q=some o/\o.cls=.type "tuple"/\o.data=.seq Qm n/\Qm.size<=sizeLine/\Vals (ws.map V.str) Qm.toList):
  OpR X (compareOp .NotIn) (fun x y H Q=>∃ z,x=.str z/\y=.ref q/\Q (.bl (!decide (z∈ws))) H):=by
 intro Qi s σ H x y v u Q I rx ry h;obtain⟨z,rfl,rfl,h⟩:=h;refine pF Qi s σ H _ _ v u Q I rx ry ⟨q,ws.map V.str,rfl,.inr (.inr hq),rfl,gj ws,?_⟩;rw[iP];exact h
end
section
variable{ι:Type}{c:RCl ι}{ta tv:TE}{t:TA}{f m:Str}{σ:St}{H:Hp}{Q:VK}{D:Ends}{okm:ι->Bool}{sp:ι->Sp}{sp1:Sp}{C:Addr}{K:Frag}
theorem k8:tMake C sp1 [] E0 t σ H Q=t σ H fun vs H1=>∀ x dx,H1 x=none->H1 dx=none->dx≠x->sp1 (.ref x::(vs++[])) (upd (upd H1 dx (.own x)) x (.ins C dx [])) (fun v H2=>v=.non/\Q (.ref x) H2) E0:=rfl
theorem nh{ws:List Str}{neg:Bool}{te:TE}:tInG ws neg te σ H Q=te σ H fun x H1=>∃ z,x=.str z/\Q (.bl (if neg then !decide (z∈ws) else decide (z∈ws))) H1:=rfl
theorem CK{p:Addr}{xs:List V}(hp:H p=some (.lst xs))(h:∀ l,H l=none->Q (.ref l) (upd H l (.tup xs))):mj K [.ref p] H Q:=by
 unfold mj;dsimp only;rw[hp];exact h
end
def cntD(ns:List Int):Nat:=(firstMet (fun i=>ns.getD i 0) ns.length).length
def qF(te:TE):TE:=fun σ H Q=>te σ H fun x H1=>∃ p ns,x=.ref p/\H1 p=some (.lst (ns.map V.int))/\ns.length<=900/\Q (.int (cntD ns:Nat)) H1
theorem gk{te:TE}{σ:St}{H:Hp}{Q:VK}:qF te σ H Q=te σ H fun x H1=>∃ p ns,x=.ref p/\H1 p=some (.lst (ns.map V.int))/\ns.length<=900/\Q (.int (cntD ns:Nat)) H1:=rfl
theorem CL:bootBuiltins "set"=some (.type "set"):=by decide+kernel
theorem vy {X:Cx} {e:Expr} {te:TE} {p p2 pos pos2:Pos} (hc:X.calm=true) (hgl:Gl X "len") (hgs:Gl X "set") (hl:X.mg "len"=none) (hs:X.mg "set"=none) (he:PE X e te)
  (hs1:starEach [.Call (.Name "set" p2) [e] [] pos2] X.env=[(false,eval (.Call (.Name "set" p2) [e] [] pos2) X.env)]:=by rfl) (hs2:starEach [e] X.env=[(false,eval e X.env)]:=by rfl):
  PE X (.Call (.Name "len" p) [.Call (.Name "set" p2) [e] [] pos2] [] pos) (qF te):=by
 intro Qi s σ H Q I h;refine RV (hX I hgl hl aR ?_ (by decide) (by decide));refine SI ?_ hs1 rfl;rw[hs1];show wpAny _ _ (spliced [(false,eval (.Call (.Name "set" p2) [e] [] pos2) X.env)]) _ _ s;refine Ss ?_;refine RV (hX I hgs hs CL ?_ (by decide) (by decide));refine Rz ?_ hs2 rfl;rw[hs2];show wpAny _ _ (spliced [(false,eval e X.env)]) _ _ s;refine Ss (thn (he Qi s σ H _ I h) fun u s1 ⟨x,H1,I1,r1,q1⟩=>?_);refine Sw ?_;obtain⟨l,ns,rfl,hys,hn,q⟩:=q1;cases r1;obtain⟨Qm,n,rv,ho,hz⟩:=I1.lst hys;have hL:s1.heap.IsList l Qm.toArray:=⟨_,ho,rfl,n,rfl⟩;have hI:IntsAre Qm ns:=sG rv;have Qq:=rv.length;rw[Qu] at Qq;refine call_set_list (ns:=ns) (I.ok.hd hc) hL (by simpa using hI) (by rw[QN,← Qq];exact RL (Nat.succ_le_succ hn) (by decide)) fun h' tk hS old=>?_;refine Sw ?_;obtain⟨o,es,ep,t,h1,h2,h3,h4,h5,h6,h7,h8⟩:=hS;have hb:(firstMet (fun i=>ns.getD i 0) Qm.toArray.size).length<=900:=QG (firstMet_length_le _ _) (by rw[QN,← Qq];exact hn);refine call_len_set h1 h2 h3 h7 (by omega) ?_;have I2:Inv X Qi σ H1 {s1 with heap:=h',toks:=tk}:=I1.kept fun b o' e=>old b o' (QY e) e;refine⟨.int _,H1,I2.tok _,⟨_,rfl⟩,?_⟩;rw[h8,QN,← Qq];exact q
def pS:V->List V->Hp->VK->Prop
 | .str sep,[.ref p],H,Q=>bnd (unS (H p)) fun ys=>∃ ts:List Str,ys=ts.map V.str/\JoinOk sep ts=true/\Q (.str (Txt.join sep ts)) H
 | _,_,_,_=>False
theorem AL{X:Cx}:MtR X "str.join" pS:=by
 intro Qi s σ H x vs v us Q I rx rv h;unfold pS at h
 split at h
 . rename_i sep p
   obtain⟨ys,e,ts,rfl,hok,q⟩:=bc h;rcases oj (K:=X.K) e with hq | hq
   . obtain⟨t,rfl⟩:=rx;obtain⟨u,rfl,ru⟩:=dc rv;cases ru;obtain⟨Qm,rvv,pl,hz⟩:=I.list hq;obtain⟨l,rfl,hl⟩:=uA rvv;exact SC.join pl.isList hl hok fun t' k=>⟨.str _,H,I.tok k,⟨t',rfl⟩,q⟩
   . obtain⟨t,rfl⟩:=rx;obtain⟨u,rfl,ru⟩:=dc rv;cases ru;obtain⟨Qm,rvv,pl,hz⟩:=I.tuple hq;obtain⟨l,rfl,hl⟩:=uA rvv;subst hl;obtain⟨o,h1,h2,n,h3⟩:=pl;have hok':=hok;unfold JoinOk at hok';rw[Bool.not_eq_true'] at hok';exact Sb F.slot_str_join (SJ _ _ _) F.entry_str_join (F.args_str_join_2 _ _) (meets_str_join_tuple sep t p l hok') ⟨⟨o,n,h1,h2,h3⟩,post_join l ⟨joinFit_length hok',fun t' k=>⟨.str _,H,I.tok k,⟨t',rfl⟩,q⟩⟩⟩
 . exact h.elim
section
variable{X:Cx}{e:Expr}{te:TE}{p2 p3 p4 pos:Pos}{z0:Nat}
def sZ:V->List V->Hp->VK->Prop
 | .ref l,[.int i],H,Q=>bnd (unM (H l)) fun xs=>0<=i/\i<xs.length/\bnd (xs[i.toNat]?) fun y=>Q y (upd H l (.lst (xs.eraseIdx i.toNat)))
 | _,_,_,_=>False
theorem seqIx{i:Int}{n:Nat}(h0:0<=i)(h1:i<n):seqIndex? i n=some i.toNat:=by
 obtain⟨k,rfl⟩:=Sg h0;have hk:k<n:=by omega
 unfold seqIndex?;have hn:¬ ((k:Int)<0):=by omega
 simp[hk,hn]
theorem AM:MtR X "list.pop" sZ:=by
 intro Qi s σ H x vs v us Q I rx rv h;unfold sZ at h
 split at h
 . obtain⟨xs,e,h0,h1,h⟩:=bc h;obtain⟨y,ey,q⟩:=bc h;have hz:xs.length<=sizeLine:=(I.lstM (gf e)).1;have hs:(sizeLine:Int)<2^63:=by decide
   exact BE Qi s σ H _ _ v us Q I rx rv ⟨_,xs,_,_,y,rfl,rfl,gf e,by omega,by omega,seqIx h0 h1,ey,q⟩
 . exact h.elim
def tRevL(te:TE):TE:=fun σ H Q=>te σ H fun x H1=>∃ p xs,x=.ref p/\H1 p=some (.lst xs)/\∀ l,H1 l=none->Q (.ref l) (upd H1 l (.lst xs.reverse))
end
section
variable{σ:St}{H:Hp}{Q:VK}{te:TE}
theorem ni{i j:Int}{H:Hp}{Q:VK}:kMax [.int i,.int j] H Q=Q (.int (if j>i then j else i)) H:=rfl
theorem k9:tRevL te σ H Q=te σ H fun x H1=>∃ p xs,x=.ref p/\H1 p=some (.lst xs)/\∀ l,H1 l=none->Q (.ref l) (upd H1 l (.lst xs.reverse)):=rfl
theorem CM{l:Addr}{i:Int}{xs:List V}{y:V}(hl:H l=some (.lst xs))(h0:0<=i)(h1:i<xs.length)(ey:xs[i.toNat]? =some y)(q:Q y (upd H l (.lst (xs.eraseIdx i.toNat)))):sZ (.ref l) [.int i] H Q:=by
 show bnd (unM (H l)) _;rw[hl];exact be (a:=xs) rfl ⟨h0,h1,be ey q⟩
end
theorem zw:typeLookup (.type "str") (Str.ofString "__int__")=pure none:=by rw[TM,SF];kernel_rfl
theorem wS:typeLookup (.type "str") (Str.ofString "__index__")=pure none:=by rw[TM,SF];kernel_rfl
theorem wT:typeLookup (.type "str") (Str.ofString "__trunc__")=pure none:=by rw[TM,SF];kernel_rfl
def numC(n:Nat):List Nat:=if n<10 then [48+n] else [48+n/10,48+n%10]
variable{n:Nat}
theorem AN(h:n<100):((tx (numC n)).cps.all fun x=>decide (x<128))=true:=by
 have t:((List.range 100).all fun n=>(tx (numC n)).cps.all fun x=>decide (x<128))=true:=by decide+kernel
 exact QO.mp t n (QQ.mpr h)
theorem AO{α:Type}{M:Model}{A:Around}{E:Value->Shared->Prop}{s:Shared}{Q:α->Shared->Prop}{m m':Sem α}(e:m=m')(h:wpAny M A m' Q E s):wpAny M A m Q E s:=e ▸ h
theorem gis(n:Nat)(hn:n<100)(u:Tok):Gives (Builtin.«int.__new__» ⟨[.type "int",.str (tx (numC n)) u],[]⟩) (.int n):=
 .of_wp fun M A E s Q h=>by
  obtain⟨hp,g,d,tk,os⟩:=s;have f1:=PySem.F.conv_sub_int;have f2:=PySem.F.madeHere_int;have f3:=zw;have f4:=wS;have f5:=wT
  iterate 44 (any_goals (first | assumption | wp_step))
  refine Rg (wpAny_of_eq (a:=some (tx (numC n))) rfl ?_);refine wpAny_of_eq (a:=some (numC n)) ?e1 ?_
  case e1=>
   show(pure (some (if ((tx (numC n)).cps.all fun x=>decide (x<128))=true then(tx (numC n)).cps.toList else _)):Sem _)=_;rw[Q6 (AN hn),sX]
  refine AO (m':=mkInt (n:Int)) ?e2 ?_
  case e2=>
   clear h f1 f2 f3 f4 f5
   match n,hn with | 0,_=>kernel_rfl | 1,_=>kernel_rfl | 2,_=>kernel_rfl | 3,_=>kernel_rfl | 4,_=>kernel_rfl | 5,_=>kernel_rfl | 6,_=>kernel_rfl | 7,_=>kernel_rfl | 8,_=>kernel_rfl | 9,_=>kernel_rfl | 10,_=>kernel_rfl | 11,_=>kernel_rfl | 12,_=>kernel_rfl | 13,_=>kernel_rfl | 14,_=>kernel_rfl | 15,_=>kernel_rfl | 16,_=>kernel_rfl | 17,_=>kernel_rfl | 18,_=>kernel_rfl | 19,_=>kernel_rfl | 20,_=>kernel_rfl | 21,_=>kernel_rfl | 22,_=>kernel_rfl | 23,_=>kernel_rfl | 24,_=>kernel_rfl | 25,_=>kernel_rfl | 26,_=>kernel_rfl | 27,_=>kernel_rfl | 28,_=>kernel_rfl | 29,_=>kernel_rfl | 30,_=>kernel_rfl | 31,_=>kernel_rfl | 32,_=>kernel_rfl | 33,_=>kernel_rfl | 34,_=>kernel_rfl | 35,_=>kernel_rfl | 36,_=>kernel_rfl | 37,_=>kernel_rfl | 38,_=>kernel_rfl | 39,_=>kernel_rfl | 40,_=>kernel_rfl | 41,_=>kernel_rfl | 42,_=>kernel_rfl | 43,_=>kernel_rfl | 44,_=>kernel_rfl | 45,_=>kernel_rfl | 46,_=>kernel_rfl | 47,_=>kernel_rfl | 48,_=>kernel_rfl | 49,_=>kernel_rfl | 50,_=>kernel_rfl | 51,_=>kernel_rfl | 52,_=>kernel_rfl | 53,_=>kernel_rfl | 54,_=>kernel_rfl | 55,_=>kernel_rfl | 56,_=>kernel_rfl | 57,_=>kernel_rfl | 58,_=>kernel_rfl | 59,_=>kernel_rfl | 60,_=>kernel_rfl | 61,_=>kernel_rfl | 62,_=>kernel_rfl | 63,_=>kernel_rfl | 64,_=>kernel_rfl | 65,_=>kernel_rfl | 66,_=>kernel_rfl | 67,_=>kernel_rfl | 68,_=>kernel_rfl | 69,_=>kernel_rfl | 70,_=>kernel_rfl | 71,_=>kernel_rfl | 72,_=>kernel_rfl | 73,_=>kernel_rfl | 74,_=>kernel_rfl | 75,_=>kernel_rfl | 76,_=>kernel_rfl | 77,_=>kernel_rfl | 78,_=>kernel_rfl | 79,_=>kernel_rfl | 80,_=>kernel_rfl | 81,_=>kernel_rfl | 82,_=>kernel_rfl | 83,_=>kernel_rfl | 84,_=>kernel_rfl | 85,_=>kernel_rfl | 86,_=>kernel_rfl | 87,_=>kernel_rfl | 88,_=>kernel_rfl | 89,_=>kernel_rfl | 90,_=>kernel_rfl | 91,_=>kernel_rfl | 92,_=>kernel_rfl | 93,_=>kernel_rfl | 94,_=>kernel_rfl | 95,_=>kernel_rfl | 96,_=>kernel_rfl | 97,_=>kernel_rfl | 98,_=>kernel_rfl | 99,_=>kernel_rfl | (m+100),hm=>exact absurd hm (by omega)
  repeat (any_goals (first | assumption | wp_step))
  all_goals first | exact⟨_,rfl,h⟩ | skip
def qG:List V->Hp->VK->Prop
 | [.int i],H,Q=>Q (.int i) H
 | [.bl k],H,Q=>Q (.int (if k then 1 else 0)) H
 | [.str z],H,Q=>∃ n:Nat,n<100/\z=tx (numC n)/\Q (.int n) H
 | _,_,_=>False
theorem zx{X:Cx}:CallR X (.type "int") qG:=by
 intro Qi s σ H xs us Q I r h;unfold qG at h
 split at h
 . exact vi Qi s σ H _ us Q I r (.inl ⟨_,rfl,h⟩)
 . exact vi Qi s σ H _ us Q I r (.inr ⟨_,rfl,h⟩)
 . obtain⟨n,hn,rfl,q⟩:=h;obtain⟨u,rfl,ru⟩:=dc r;obtain⟨t,rfl⟩:=ru;exact call_int_1 (gis n hn t).meets (show(Made.int (n:Int)).post _ s from⟨rfl,⟨.int n,H,I.tok _,⟨_,rfl⟩,q⟩⟩)
 . exact h.elim
theorem jh{k:Bool}{H:Hp}{Q:VK}:qG [.bl k] H Q=Q (.int (if k then 1 else 0)) H:=rfl
theorem ji{i:Int}{H:Hp}{Q:VK}:qG [.int i] H Q=Q (.int i) H:=rfl
theorem yR(h:n<100):Str.ofString (toString (n:Int))=tx (numC n):=by
 have t:((List.range 100).all fun(n:Nat)=>decide (Str.ofString (toString (n:Int))=tx (numC n)))=true:=by decide+kernel
 simpa using QO.mp t n (QQ.mpr h)
theorem rC(h:n<100):32∉numC n:=by
 have t:((List.range 100).all fun(n:Nat)=>decide (32∉numC n))=true:=by decide+kernel
 simpa using QO.mp t n (QQ.mpr h)
theorem DU(h:n<100):numC n≠[]:=by unfold numC;split <;> simp
theorem qH:(numC n).length<=2:=by unfold numC;split <;> simp
theorem BU(h:n<100):((numC n).head? =some 48->n=0)/\numC 0=[48]:=by
 have t:((List.range 100).all fun(n:Nat)=>decide ((numC n).head? =some 48->n=0))=true:=by decide+kernel
 exact⟨QU (QO.mp t n (QQ.mpr h)),rfl⟩
theorem yS(h:n<100):∀ c∈numC n,48<=c/\c<=57:=by
 have t:((List.range 100).all fun(n:Nat)=>(numC n).all fun c=>decide (48<=c/\c<=57))=true:=by decide+kernel
 intro c hc
 simpa using QO.mp (QO.mp t n (QQ.mpr h)) c hc
local macro_rules | `(tactic| walk_at "w")=>`(tactic| (first | simp only [aL,dJ,cp,bo,gI,w_c,iN,dG,e7,dL,e8,w_b,w_not,im,lj,fc,fe,io,gJ,dM,lm,ff,ip,gK,kf,iq,dN,fg,fh,fj,c9,da,cq,cr,cu,b8,iu,iw,iy,iz,iA,iB,iC,iD,iE,iF,iG,iH,lp,fk,cw,fm,lq,fq,db,cy,iI,iJ,ft,fu,fv,
 List.getElem?_cons_zero,List.getElem?_cons_succ,Option.some.injEq,exists_eq_left',exists_eq_left,List.set_cons_zero,List.set_cons_succ,ce,V.int.injEq,V.bl.injEq,V.ref.injEq,V.str.injEq,List.append_nil,List.nil_append,List.cons_append] | dsimp only | skip))
local macro_rules|`(tactic|symm)=>`(tactic|walk_at "w")
def aU(K:Frag):Sp:=fun vs H Q _=>∃(a:Addr) (h w g:Int),vs=[.ref a]/\IsFl H a h w g/\1<=h/\h<=6/\Q (.int (h*w)) H
def lr(K:Frag):TS:=
 (tRet (tOp cMul (tOp cIx (tVar 0) (tC (.int 0))) (tOp cIx (tVar 0) (tC (.int 1)))))
variable{K:Frag}{vs:List V}{H:Hp}{Q:VK}{E:XK}
theorem vI(h:aU K vs H Q E):lr K (eD9 Q) (start ["floor"] vs) H:=by
 obtain⟨a,h,w,g,rfl,ha,h0,h1,q⟩:=h;show lr K _ [some (.ref a)] H;unfold lr;symm;rw[iO ha];refine be (a:=V.int h) rfl ?_;symm;rw[iO ha];refine be (a:=V.int w) rfl ?_;symm;exact⟨m8 h0 h1,q⟩
def cornB(h w c:Int):Bool:=decide (c/w<h-1)&&decide (c%w<w-1)
def gl(K:Frag):Sp:=fun vs H Q _=>∃(a:Addr) (h w g c:Int),vs=[.ref a,.int c]/\IsFl H a h w g/\0<w/\w<100/\∀ H',Same H H'->Q (.bl (cornB h w c)) H'
def mn(K:Frag):TS:=
 (tSeq (tAsg (tCall (dY K) [] E0 (tCons (tVar 0) (tCons (tVar 1) tNil))) (gName 2))
  (tRet (tAndV (tOp (cCmp fun i j=>decide (i<j)) (tOp cIx (tVar 2) (tC (.int 0))) (tOp cSub (tOp cIx (tVar 0) (tC (.int 0))) (tC (.int 1)))) (tOp (cCmp fun i j=>decide (i<j)) (tOp cIx (tVar 2) (tC (.int 1))) (tOp cSub (tOp cIx (tVar 0) (tC (.int 1))) (tC (.int 1)))))))
theorem wU(h:gl K vs H Q E):mn K (eD9 Q) (start ["floor","cell","spot"] vs) H:=by
 obtain⟨a,h,w,g,c,rfl,ha,w0,w1,k⟩:=h;show mn K _ [some (.ref a),some (.int c),none] H;unfold mn;symm;refine⟨a,h,w,g,c,rfl,ha,w0,w1,fun p hp=>?_⟩;have s1:Same H (upd H p (.tup [.int (c/w),.int (c%w)])):=(Qy H).laid hp;have k1:=k _ s1;have ha1:=s1 _ _ ha;have hp1:(upd H p (.tup [.int (c/w),.int (c%w)])) p=some (.tup [.int (c/w),.int (c%w)]):=ah;generalize upd H p (.tup [.int (c/w),.int (c%w)])=H1 at*;symm;rw[iO hp1];refine be (a:=V.int (c/w)) rfl ?_;symm;rw[iO ha1];refine be (a:=V.int h) rfl ?_;symm;unfold cornB at k1
 cases hb:decide (c/w<h-1) with
 | false=>
  rw[hb,QJ] at k1;exact iteF k1
 | true=>
  rw[hb,QL] at k1;refine iteT ?_;rw[iO hp1];refine be (a:=V.int (c%w)) rfl ?_;symm;rw[iO ha1];refine be (a:=V.int w) rfl ?_;symm;exact k1
def sqL(w c:Int):List Int:=[c,c+1,c+w,c+w+1]
def gm(K:Frag):Sp:=fun vs H Q _=>∃(a:Addr) (h w g c:Int),vs=[.ref a,.int c]/\IsFl H a h w g/\∀ p,H p=none->Q (.ref p) (upd H p (.lst ((sqL w c).map V.int)))
def mq(K:Frag):TS:=
 (tSeq (tAsg (tOp cAdd (tVar 1) (tOp cIx (tVar 0) (tC (.int 1)))) (gName 2))
  (tRet (tLst (tCons (tVar 1) (tCons (tOp cAdd (tVar 1) (tC (.int 1))) (tCons (tVar 2) (tCons (tOp cAdd (tVar 2) (tC (.int 1))) tNil)))))))
theorem wV(h:gm K vs H Q E):mq K (eD9 Q) (start ["floor","corner","below"] vs) H:=by
 obtain⟨a,h,w,g,c,rfl,ha,k⟩:=h;show mq K _ [some (.ref a),some (.int c),none] H;unfold mq;symm;rw[iO ha];refine be (a:=V.int w) rfl ?_;symm;exact⟨lnR rfl,k⟩
def squL(h w:Int):List (List Int):=((List.range (h*w).toNat).filter fun(i:Nat)=>cornB h w i).map fun(i:Nat)=>sqL w i
def cH(K:Frag):Sp:=fun vs H Q _=>∃(a:Addr) (h w g:Int),vs=[.ref a]/\IsFl H a h w g/\FlOk h w g/\
 ∀ l as H',Same H H'->H l=none->IsLL H' l as (squL h w)->as.Nodup->l∉as->(∀ a∈as,H a=none)->Q (.ref l) H'
def oC(K:Frag):TS:=
 (tRet (tComp [none,none,some 0] (jj (tCons (tCall (aU K) [] E0 (tCons (tVar 0) tNil)) tNil)) (gName 1) (tB (tCall (gl K) [] E0 (tCons (tVar 2) (tCons (tVar 1) tNil)))) (tCall (gm K) [] E0 (tCons (tVar 2) (tCons (tVar 1) tNil)))))
theorem NewAt.ll{H1:Hp}{l:Addr}{as:List Addr}{Qo:List (List Int)}(x:NewAt H1 H l as (Qo.map fun xs=>.lst (xs.map V.int)))(e:H l=some (.lst (as.map V.ref))):IsLL H l as Qo:=
 ⟨e,by rw[x.len,Qu],fun j a xs h1 h2=>x.at_ j a _ h1 (by rw[QD,h2];rfl)⟩
theorem zy(h:cH K vs H Q E):oC K (eD9 Q) (start ["floor"] vs) H:=by
 obtain⟨a,h,w,g,rfl,ha,F,k⟩:=h;obtain⟨h0,h1,w0,w1,m16,g0,g1⟩:=F;have mpos:0<=h*w:=SB (by omega) (by omega);show oC K _ [some (.ref a)] H;unfold oC;symm;refine⟨a,h,w,g,rfl,ha,h0,h1,?_⟩;symm;refine⟨h*w,rfl,by omega,by omega,?_⟩;refine rg (fun(i:Nat)=>cornB h w i) (fun(i:Nat)=>.lst ((sqL w i).map V.int)) (by omega) ?_ ?_ ?_
 . intro i H1 R hi s1 k1;show tB _ [none,some (.int (0+(i:Int))),some (.ref a)] H1 R;symm;rw[SD];exact⟨a,h,w,g,_,rfl,s1 _ _ ha,by omega,by omega,fun H2 s2=>⟨_,rfl,k1 H2 s2⟩⟩
 . intro i H1 Q1 hi hb s1 k1;show tCall _ _ _ _ [none,some (.int (0+(i:Int))),some (.ref a)] H1 Q1;symm;rw[SD];exact⟨a,h,w,g,_,rfl,s1 _ _ ha,fun p hp=>k1 p _ ((Qy H1).laid hp) hp ah⟩
 . intro l as H2 hl s2 el x
   have x':NewAt H H2 l as ((squL h w).map fun xs=>.lst (xs.map V.int)):=by
    unfold squL;rw[Re];exact x
   exact k l as H2 s2 hl (x'.ll el) x.nd x.nl x.fr
local macro_rules | `(tactic| walk_at "w")=>`(tactic| (first | simp only [aL,k8,nh,gk,k9,jh,ji,ni,nc,k7,ng,if_true,if_false,Bool.false_eq_true,decide_true,decide_false,gN,gO,lY,dZ,dg,gL,jq,gM,dX,jo,jp,dW,lV,d0,d2,d4,d5,d6,d7,d3,jr,js,jt,jm,lX,Bool.not_true,Bool.not_false,dJ,cp,bo,gI,w_c,iN,dG,e7,dL,e8,w_b,w_not,im,lj,fc,fe,io,gJ,dM,lm,ff,ip,gK,kf,iq,dN,fg,fh,fj,c9,da,cq,cr,cu,b8,iu,iw,iy,iz,iA,iB,iC,iD,iE,iF,iG,iH,lp,fk,cw,fm,lq,fq,db,cy,iI,iJ,ft,fu,fv,
 List.getElem?_cons_zero,List.getElem?_cons_succ,Option.some.injEq,exists_eq_left',exists_eq_left,List.set_cons_zero,List.set_cons_succ,ce,V.int.injEq,V.bl.injEq,V.ref.injEq,V.str.injEq,List.append_nil,List.nil_append,List.cons_append] | dsimp only | skip))
def nmC:RK->List Nat
 | .Rule=>[]
 | .Unlike=>[117,110,108,105,107,101]
 | .Sum=>[115,117,109]
 | .Rising=>[114,105,115,105,110,103]
 | .Seen=>[115,101,101,110]
 | .Count=>[99,111,117,110,116]
 | .Joined=>[106,111,105,110,101,100]
 | .NoSquare=>[110,111,115,113,117,97,114,101]
 | .Ring=>[114,105,110,103]
def gP:List Str:=[tx [115,117,109],tx [115,101,101,110],tx [99,111,117,110,116]]
def gn:List Str:=[tx [99,111,117,110,116],tx [106,111,105,110,101,100],tx [110,111,115,113,117,97,114,101],tx [114,105,110,103]]
def fY:List Str:=[tx [106,111,105,110,101,100],tx [110,111,115,113,117,97,114,101],tx [114,105,110,103]]
def rFs(p W C:Addr)(n m:Int):List (Str × V):=[("floor",.ref p),("words",.ref W),("cells",.ref C),("amount",.int n),("mark",.int m)]
structure IsRule(H:Hp)(c:RCl RK)(k:RK)(r p:Addr)(ws:List (List Nat))(cs:List Int)(n m:Int):Prop where
 ok:c.ok k=true
 ex:∃ dx W C,H r=some (.ins (c.A k) dx (rFs p W C n m))/\H W=some (.tup ((ws.map tx).map V.str))/\H C=some (.tup (cs.map V.int))
variable{H:Hp}{c:RCl RK}{p:Addr}{cs:List Int}
theorem IsRule.same{H':Hp}{k:RK}{r:Addr}{ws:List (List Nat)}{n m:Int}(x:IsRule H c k r p ws cs n m)(s:Same H H'):IsRule H' c k r p ws cs n m:=by
 obtain⟨dx,W,C,h1,h2,h3⟩:=x.ex;exact⟨x.ok,dx,W,C,s _ _ h1,s _ _ h2,s _ _ h3⟩
section
variable{ι:Type}{c:RCl ι}{σ:St}{H:Hp}{Q:VK}{i:Nat}{r dx:Addr}{k:ι}{fs:List (Str × V)}{f m:Str}{v:V}{okm:ι->Bool}{sp:ι->Sp}{t:TA}{D:Ends}{tv:TE}{y:V}{H1:Hp}
theorem fldE(hσ:σ[i]? =some (some (.ref r)))(ok:c.ok k=true)(hr:H r=some (.ins (c.A k) dx fs))(hl:fs.lookup f=some v)(q:Q v H):tFldK c (tVar i) f σ H Q:=⟨_,hσ,r,k,dx,fs,v,rfl,ok,hr,hl,q⟩
theorem methE(hσ:σ[i]? =some (some (.ref r)))(ok:okm k=true)(hr:H r=some (.ins (c.A k) dx fs))(hl:fs.lookup m=none)(q:t σ H fun vs H2=>sp k (.ref r::vs) H2 Q E0):aI c okm m sp (tVar i) t σ H Q:=⟨_,hσ,r,k,dx,fs,rfl,ok,hr,hl,q⟩
theorem sfldV{j:Nat}{x:V}(hj:σ[j]? =some (some x))(hσ:σ[i]? =some (some (.ref r)))(ok:c.ok k=true)(hr:H r=some (.ins (c.A k) dx fs))(hn:fs.length<1000)(q:D.nx σ (upd H r (.ins (c.A k) dx (putF f x fs)))):sFldK c (tVar i) (tVar j) f D σ H:=
 ⟨x,hj,_,hσ,r,k,dx,fs,rfl,ok,hr,hn,q⟩
theorem sfldT {K:Frag} {j:Nat} {p:Addr} {xs:List V} (hj:σ[j]? =some (some (.ref p))) (hp:H p=some (.lst xs)) (hσ:σ[i]? =some (some (.ref r))) (ok:c.ok k=true) (hr:H r=some (.ins (c.A k) dx fs)) (hn:fs.length<1000)
  (q:∀ l,H l=none->D.nx σ (upd (upd H l (.tup xs)) r (.ins (c.A k) dx (putF f (.ref l) fs)))):sFldK c (tVar i) (tCB (mj K) (tCons (tVar j) tNil)) f D σ H:=by
 unfold sFldK;symm;refine⟨_,hj,CK hp fun l hl=>?_⟩;exact⟨_,hσ,r,k,dx,fs,rfl,ok,by rw[ao (aC hr hl)];exact hr,hn,q l hl⟩
end
variable{Q:VK}
theorem CN{xs:List V}(hp:H p=some (.tup xs))(h:∀ l,H l=none->Q (.ref l) (upd H l (.lst xs))):kList [.ref p] H Q:=by
 unfold kList;dsimp only;rw[hp];exact h
theorem CO{sep:Str}{ts:List Str}(hp:H p=some (.lst (ts.map V.str)))(hok:JoinOk sep ts=true)(h:Q (.str (Txt.join sep ts)) H):pS (.str sep) [.ref p] H Q:=by
 unfold pS;dsimp only;rw[hp];exact⟨ts,rfl,hok,h⟩
variable{K:Frag}
theorem vz {a:Addr} {k:Nat} {tt:TT} {te:TE} {fin:Addr->Hp->Prop} {σ0:St} {H1:Hp} {xs:List Int} (b:Int->Bool) (f:Int->Int) (hn:xs.length<=900) (hq:H1 a=some (.tup (xs.map V.int)))
  (ht:∀ x H R,x∈xs->Same H1 H->(∀ H',Same H H'->R (b x) H')->tt (σ0.set k (some (.int x))) H R)
  (he:∀ x H Q,x∈xs->b x=true->Same H1 H->(∀ H',Same H H'->Q (.int (f x)) H')->te (σ0.set k (some (.int x))) H Q)
  (hd:∀ l H,H1 l=none->Same H1 H->H l=some (.lst (((xs.filter b).map f).map V.int))->fin l H):CompR (Itt K a) (gName k) tt te fin σ0 H1:=by
 refine wR (xs:=xs.map V.int) (fun l i σ H=>(σ=σ0\/∃ cv,σ=σ0.set k cv)/\Same H1 H/\H l=some (.lst ((((xs.take i).filter b).map f).map V.int))) (fun l hl=>⟨.inl rfl,(Qy H1).laid hl,by rw[ah];rfl⟩) (fun l i σ H _ _ p=>T7 (p.2.1 _ _ hq)) ?_ (fun l σ H hl p=>hd l H hl p.2.1 (by have:=p.2.2;rw[Qu,RB] at this;exact this));rintro l i x σ H hl hx ⟨hσ,s1,el⟩;obtain⟨z,hz,rfl⟩:=aS hx;have hi:i<xs.length:=(Qz.mp hz).1;have et:xs.take (i+1)=xs.take i++[z]:=by rw[Td,hz];rfl
 rw[bo]
 have e:σ.set k (some (.int z))=σ0.set k (some (.int z)):=by
  rcases hσ with rfl | ⟨cv,rfl⟩
  . rfl
  . exact R1 ..
 rw[e];refine ht z H _ (QC hz) s1 fun H2 s2=>?_;have el2:=s2 _ _ el
 have Qq:((((xs.take i).filter b).map f).map V.int).length<sizeLine:=by
  rw[Qu,Qu];refine aD (QG (QE b _) ?_);rw[RE];omega
 cases hb:b z with
 | false=>
  rw[QT Qt];refine⟨.inr ⟨_,rfl⟩,s1.trans s2,?_⟩;rw[et,Rl,Rr,hb]
  simpa using el2
 | true=>
  rw[Q6 rfl];refine he z H2 _ (QC hz) hb (s1.trans s2) fun H3 s3=>⟨_,s3 _ _ el2,Qq,.inr ⟨_,rfl⟩,((s1.trans s2).trans s3).own hl,?_⟩;rw[ah,et,Rl,Rr,hb];simp
def qI(K:Frag)(c:RCl RK)(k:RK):Sp:=fun vs H Q _=>∃(r p:Addr) (w:List Nat) (ws:List (List Nat)) (cs:List Int) (n m:Int),vs=[.ref r]/\IsRule H c k r p (w::ws) cs n m/\Q (.str (tx w)) H
def bF(K:Frag)(c:RCl RK)(k:RK):Sp:=fun vs H Q _=>∃(r p:Addr) (ws:List (List Nat)) (cs:List Int) (n m:Int),vs=[.ref r]/\IsRule H c k r p ws cs n m/\∀ l,H l=none->Q (.ref l) (upd H l (.lst (cs.map V.int)))
def dU(K:Frag)(c:RCl RK)(k:RK):Sp:=fun vs H Q _=>∃(r p:Addr) (ws:List (List Nat)) (cs:List Int) (n m:Int),vs=[.ref r]/\IsRule H c k r p ws cs n m/\Q (.int n) H
def cO(K:Frag)(c:RCl RK)(k:RK):Sp:=fun vs H Q _=>∃(r p:Addr) (ws:List (List Nat)) (cs:List Int) (n m:Int),vs=[.ref r]/\IsRule H c k r p ws cs n m/\Q (.int m) H
def sgAt(xs cs:List Int):List Int:=cs.map fun c=>xs.getD c.toNat 0
def mkAt(xs cs:List Int)(m:Int):List Int:=cs.filter fun c=>decide (xs.getD c.toNat 0=m)
def aN(cs:List Int)(n:Nat):Prop:=cs.length<=63/\∀ c∈cs,0<=c/\c<n
def bU(K:Frag)(c:RCl RK)(k:RK):Sp:=fun vs H Q _=>∃(r p f:Addr) (ws:List (List Nat)) (cs xs:List Int) (n m:Int),vs=[.ref r,.ref f]/\IsRule H c k r p ws cs n m/\H f=some (.lst (xs.map V.int))/\aN cs xs.length/\
 ∀ l H',Same H H'->H l=none->H' l=some (.lst ((sgAt xs cs).map V.int))->Q (.ref l) H'
def b9(K:Frag)(c:RCl RK)(k:RK):Sp:=fun vs H Q _=>∃(r p f:Addr) (ws:List (List Nat)) (cs xs:List Int) (n m:Int),vs=[.ref r,.ref f]/\IsRule H c k r p ws cs n m/\H f=some (.lst (xs.map V.int))/\aN cs xs.length/\
 ∀ l H',Same H H'->H l=none->H' l=some (.lst ((mkAt xs cs m).map V.int))->Q (.ref l) H'
def risB:List Int->Bool
 | x::y::r=>decide (x<y)&&risB (y::r)
 | _=>true
def seenN(xs:List Int):Int × Int:=xs.foldl (fun a x=>if a.1<x then(x,a.2+1) else a) (0,0)
noncomputable def joinB (h w:Int) (ms:List Int):Bool:=@decide (ms=[]\/(ms.Pairwise (· < ·)/\∀ x∈ms,RC h w ms (ms.headD 0) x)) (Classical.propDecidable _)
def twoB(h w:Int)(ms:List Int)(c:Int):Bool:=decide (((besL h w c).filter fun y=>decide (y∈ms)).length=2)
noncomputable def hoB (k:RK) (h w:Int) (cs:List Int) (n m:Int) (xs:List Int):Bool:=match k with
 | .Unlike=>decide (cntD (sgAt xs cs)=(sgAt xs cs).length)
 | .Sum=>decide ((sgAt xs cs).sum=n)
 | .Rising=>risB (sgAt xs cs)
 | .Seen=>decide ((seenN (sgAt xs cs)).2=n)
 | .Count=>decide (((mkAt xs cs m).length:Int)=n)
 | .NoSquare=>!((squL h w).any fun sq=>sq.all fun c=>decide (c∈mkAt xs cs m))
 | .Joined=>joinB h w (mkAt xs cs m)
 | .Ring=>joinB h w (mkAt xs cs m)&&(mkAt xs cs m).all (twoB h w (mkAt xs cs m))
 | _=>true
def cR(K:Frag)(c:RCl RK)(k:RK):Sp:=fun vs H Q _=>∃(r p f:Addr) (ws:List (List Nat)) (cs xs:List Int) (n m h w g:Int),vs=[.ref r,.ref f]/\IsRule H c k r p ws cs n m/\IsFl H p h w g/\FlOk h w g/\H f=some (.lst (xs.map V.int))/\aN cs xs.length/\(∀ x∈xs,0<=x/\x<=1000)/\
 ∀ H',Same H H'->Q (.bl (hoB k h w cs n m xs)) H'
def cS(K:Frag)(c:RCl RK)(k:RK):Sp:=fun vs H Q _=>∃(r p C:Addr) (ws:List (List Nat)) (cs ms:List Int) (n m h w g:Int),vs=[.ref r,.ref C]/\IsRule H c k r p ws cs n m/\IsFl H p h w g/\FlOk h w g/\H C=some (.lst (ms.map V.int))/\ms.length<=63/\
 ∀ H',Same H H'->Q (.bl (joinB h w ms)) H'
def dH(K:Frag)(c:RCl RK)(k:RK):Sp:=fun vs H Q _=>∃(r p C:Addr) (ws:List (List Nat)) (cs ms:List Int) (n m h w g z:Int),vs=[.ref r,.ref C,.int z]/\IsRule H c k r p ws cs n m/\IsFl H p h w g/\FlOk h w g/\H C=some (.lst (ms.map V.int))/\ms.length<=63/\
 ∀ H',Same H H'->Q (.bl (twoB h w ms z)) H'
def ax(K:Frag)(c:RCl RK):Sp:=fun vs H Q _=>∃(k:RK) (x dx p W C:Addr) (ws:List (List Nat)) (cs:List Int) (n m:Int),vs=[.ref x,.ref p,.ref W,.ref C,.int n,.int m]/\c.ok k=true/\H x=some (.ins (c.A k) dx [])/\W≠x/\C≠x/\
 H W=some (.lst ((ws.map tx).map V.str))/\H C=some (.lst (cs.map V.int))/\∀ H',(∀ b o,b≠x->H b=some o->H' b=some o)->IsRule H' c k x p ws cs n m->Q .non H'
def iQ(K:Frag)(c:RCl RK):TS:=
 (tSeq (sFldK c (tVar 0) (tVar 1) "floor")
  (tSeq (sFldK c (tVar 0) (tCB (mj K) (tCons (tVar 2) tNil)) "words")
  (tSeq (sFldK c (tVar 0) (tCB (mj K) (tCons (tVar 3) tNil)) "cells")
  (tSeq (sFldK c (tVar 0) (tVar 4) "amount")
  (sFldK c (tVar 0) (tVar 5) "mark")))))
variable{vs:List V}{E:XK}
theorem rD(h:ax K c vs H Q E):iQ K c (eD9 Q) (start ["self","floor","words","cells","amount","mark"] vs) H:=by
 obtain⟨k,x,dx,p,W,C,ws,cs,n,m,rfl,ok,hx,nW,nC,hW,hC,q⟩:=h;show iQ K c _ [some (.ref x),some (.ref p),some (.ref W),some (.ref C),some (.int n),some (.int m)] H;unfold iQ;symm;refine sfldV (k:=k) (j:=1) rfl rfl ok hx (by decide) ?_;symm;refine sfldT (k:=k) (j:=2) (p:=W) rfl (by rw[ao nW];exact hW) rfl ok ah (by show(1:Nat)<1000;decide) fun l1 h1=>?_;have n1:l1≠x:=fun e=>by rw[e,ah] at h1;cases h1
 have g1:H l1=none:=by rw[ao n1] at h1;exact h1
 symm;refine sfldT (k:=k) (j:=3) (p:=C) rfl (by rw[ao nC,ao (aC hC g1),ao nC];exact hC) rfl ok ah (by show(2:Nat)<1000;decide) fun l2 h2=>?_;have n2:l2≠x:=fun e=>by rw[e,ah] at h2;cases h2
 have n21:l2≠l1:=fun e=>by rw[e,ao n1,ah] at h2;cases h2
 have g2:H l2=none:=by rw[ao n2,ao n21,ao n2] at h2;exact h2
 symm;refine sfldV (k:=k) (j:=4) rfl rfl ok ah (by show(3:Nat)<1000;decide) ?_;refine sfldV (k:=k) (j:=5) rfl rfl ok ah (by show(4:Nat)<1000;decide) ?_;refine q _ (fun b o hb e=>?_) ⟨ok,dx,l1,l2,by rw[ah];rfl,?_,?_⟩
 . rw[ao hb,ao hb,ao hb,ao (aC e g2),ao hb,ao (aC e g1),ao hb];exact e
 . rw[ao n1,ao n1,ao n1,ao n21.symm,ao n1,ah]
 . rw[ao n2,ao n2,ao n2,ah]
def mr(K:Frag)(c:RCl RK):Sp:=fun vs H Q E=>∃ k,qI K c k vs H Q E
def mt(K:Frag)(c:RCl RK):TS:=
 (tRet (tOp cIx (tFldK c (tVar 0) "words") (tC (.int 0))))
theorem wW(h:mr K c vs H Q E):mt K c (eD9 Q) (start ["self"] vs) H:=by
 obtain⟨k,r,p,w,ws,cs,n,m,rfl,x,q⟩:=h;obtain⟨dx,W,C,h1,h2,h3⟩:=x.ex;show mt K c _ [some (.ref r)] H;unfold mt;symm;refine fldE rfl x.ok h1 (v:=.ref W) (by rfl) ?_;symm;have e0:atI (((w::ws).map tx).map V.str) 0=some (V.str (tx w)):=dI (j:=0) rfl;exact ixT h2 e0 q
def lu(K:Frag)(c:RCl RK):Sp:=fun vs H Q E=>∃ k,bF K c k vs H Q E
def lw(K:Frag)(c:RCl RK):TS:=
 (tRet (tCB kList (tCons (tFldK c (tVar 0) "cells") tNil)))
theorem vJ(h:lu K c vs H Q E):lw K c (eD9 Q) (start ["self"] vs) H:=by
 obtain⟨k,r,p,ws,cs,n,m,rfl,x,q⟩:=h;obtain⟨dx,W,C,h1,h2,h3⟩:=x.ex;show lw K c _ [some (.ref r)] H;unfold lw;symm;refine fldE rfl x.ok h1 (v:=.ref C) (by rfl) ?_;symm;exact CN h3 q
def kh(K:Frag)(c:RCl RK):Sp:=fun vs H Q E=>∃ k,dU K c k vs H Q E
def ki(K:Frag)(c:RCl RK):TS:=
 (tRet (tFldK c (tVar 0) "amount"))
theorem uG(h:kh K c vs H Q E):ki K c (eD9 Q) (start ["self"] vs) H:=by
 obtain⟨k,r,p,ws,cs,n,m,rfl,x,q⟩:=h;obtain⟨dx,W,C,h1,h2,h3⟩:=x.ex;show ki K c _ [some (.ref r)] H;unfold ki;symm;exact fldE rfl x.ok h1 (v:=.int n) (by rfl) q
def mw(K:Frag)(c:RCl RK):Sp:=fun vs H Q E=>∃ k,cO K c k vs H Q E
def mx(K:Frag)(c:RCl RK):TS:=
 (tRet (tFldK c (tVar 0) "mark"))
theorem wX(h:mw K c vs H Q E):mx K c (eD9 Q) (start ["self"] vs) H:=by
 obtain⟨k,r,p,ws,cs,n,m,rfl,x,q⟩:=h;obtain⟨dx,W,C,h1,h2,h3⟩:=x.ex;show mx K c _ [some (.ref r)] H;unfold mx;symm;exact fldE rfl x.ok h1 (v:=.int m) (by rfl) q
def iR(K:Frag)(c:RCl RK):Sp:=fun vs H Q E=>∃ k,bU K c k vs H Q E
def iS(K:Frag)(c:RCl RK):TS:=
 (tRet (tComp [none,none,some 1] (iTup K (tFldK c (tVar 0) "cells")) (gName 1) tTrue (tOp cIx (tVar 2) (tVar 1))))
theorem rE(h:iR K c vs H Q E):iS K c (eD9 Q) (start ["self","filling"] vs) H:=by
 obtain⟨k,r,p,f,ws,cs,xs,n,m,rfl,x,hf,⟨hn,hc⟩,q⟩:=h;obtain⟨dx,W,C,h1,h2,h3⟩:=x.ex;show iS K c _ [some (.ref r),some (.ref f)] H;unfold iS;rw[dG,uF];refine fldE rfl x.ok h1 (v:=.ref C) (by rfl) ?_;refine⟨C,rfl,⟨_,T7 h3⟩,?_⟩;refine vz (xs:=cs) (fun _=>true) (fun c=>xs.getD c.toNat 0) (by omega) h3 ?_ ?_ ?_
 . intro x H1 R hx s1 k1;exact k1 _ (Qy _)
 . intro z H1 Q1 hz hb s1 k1;show tOp cIx _ _ [none,some (.int z),some (.ref f)] H1 Q1;symm;have:=hc z hz;exact ixI (s1 _ _ hf) this.1 (by omega) (k1 _ (Qy _))
 . intro l H1 hl s1 el;rw[bf] at el;exact q l H1 s1 hl el
def gp(K:Frag):Sp:=fun vs H Q _=>∃ n:Nat,vs=[.str (tx (numC n))]/\n<100/\∀ H',Same H H'->Q (.int n) H'
def my(K:Frag):TS:=
 (tSeq (tIfS (tOr (tTest (tOp (cEq K) (tVar 0) (tC (.str (tx []))))) (tOr (tTest (tOp (cCmp fun i j=>decide (j<i)) (tCB kLen (tCons (tVar 0) tNil)) (tC (.int 9)))) (tAnd (tTest (tOp (cEq K) (tOp cIx (tVar 0) (tC (.int 0))) (tC (.str (tx [48]))))) (tTest (tOp (cNe K) (tVar 0) (tC (.str (tx [48])))))))) (tRet (tC .non)) tNext)
  (tSeq (tIfS (tNot (tB (tCB kAll (tCons (tComp [none,none] (iStr (tVar 0)) (gName 1) tTrue (tOp (cIn K false) (tVar 1) (tC (.str (tx [48,49,50,51,52,53,54,55,56,57]))))) tNil)))) (tRet (tC .non)) tNext)
  (tRet (tCB qG (tCons (tVar 0) tNil)))))
theorem DW{c:Nat}(h0:48<=c)(h1:c<=57):(!(Builtin.Str.occurrences (tx [48,49,50,51,52,53,54,55,56,57]) ⟨#[c]⟩ 0 (tx [48,49,50,51,52,53,54,55,56,57]).length 1).isEmpty)=true:=by
 have t:((List.range 58).all fun c=>!decide (48<=c)||!(Builtin.Str.occurrences (tx [48,49,50,51,52,53,54,55,56,57]) ⟨#[c]⟩ 0 (tx [48,49,50,51,52,53,54,55,56,57]).length 1).isEmpty)=true:=by decide+kernel
 have:=QO.mp t c (QQ.mpr (by omega))
 simpa [h0] using this
theorem wY(h:gp K vs H Q E):my K (eD9 Q) (start ["word"] vs) H:=by
 obtain⟨n,rfl,hn,q⟩:=h;have hne:=DU hn;have hl:=qH (n:=n);show my K _ [some (.str (tx (numC n)))] H;unfold my;rw[aL,aA];symm;rw[bv,Qx hne];refine iteF ⟨by rw[gi];exact aT (by omega),?_⟩;symm;rw[gi,Qx (show ¬ (9:Int) < ((numC n).length:Nat) by omega)];refine iteF ?_;rw[EE,gi,sX]
 obtain⟨c,r,ec⟩:∃ c r,numC n=c::r:=by
  cases e:numC n with
  | nil=>exact absurd e hne
  | cons c r=>exact⟨c,r,rfl⟩
 refine⟨aT (by omega),be (a:=c) (by rw[ec];exact dI (j:=0) rfl) ?_⟩;symm
 have e1:decide ((⟨#[c]⟩:Str)=tx [48])=decide (c=48):=by
  have:(⟨#[c]⟩:Str)=tx [c]:=rfl;rw[this,bv];simp
 rw[e1,bv]
 have e2:(decide (c=48)=true->decide (numC n=[48])=true):=by
  intro h;rw[QB] at h;have:=(BU hn).1 (by rw[ec,h];rfl);subst this;decide
 have goal2:tSeq (tIfS (tNot (tB (tCB kAll (tCons (tComp [none,none] (iStr (tVar 0)) (gName 1) tTrue (tOp (cIn K false) (tVar 1) (tC (.str (tx [48,49,50,51,52,53,54,55,56,57]))))) tNil)))) (tRet (tC .non)) tNext) (tRet (tCB qG (tCons (tVar 0) tNil)))
   (eD9 Q) [some (.str (tx (numC n)))] H:=by
  rw[aL,aA];symm;refine AK (cs:=numC n) (fun _=>true) (fun _=>.bl true) (by omega) ?_ ?_ ?_
  . intro i c H1 R hc s1 k1;exact k1 _ (Qy _)
  . intro i c H1 Q1 hc hb s1 k1;have hd:=yS hn c (QC hc);show tOp (cIn K false) _ _ [none,some (.str (tx [c]))] H1 Q1;symm;have q1:=k1 _ (Qy H1);show Q1 (.bl (if false=true then _ else !(Builtin.Str.occurrences (tx [48,49,50,51,52,53,54,55,56,57]) (tx [c]) 0 (tx [48,49,50,51,52,53,54,55,56,57]).length 1).isEmpty)) H1;rw[QT Qt,show tx [c]=⟨#[c]⟩ from rfl,DW hd.1 hd.2];exact q1
  . intro l H1 hl1 s1 el
    have eb:((List.range (numC n).length).filter fun _=>true).map (fun _=>V.bl true)=(List.replicate (numC n).length true).map V.bl:=by
     rw[bf,List.map_const',RH,Te]
    rw[eb] at el;refine lW el ?_
    have ea:(List.replicate (numC n).length true).all id=true:=by
     rw[QO];intro b hb;exact(Tf.mp hb).2
    rw[ea];symm;exact⟨n,hn,rfl,q _ s1⟩
 cases hc:decide (c=48) with
 | false=>
  refine iteF ?_;exact goal2
 | true=>
  refine iteT ?_;rw[e2 hc];exact goal2
def bP(K:Frag):Sp:=fun vs H Q _=>∃(n:Nat) (lo hi:Int),vs=[.str (tx (numC n)),.int lo,.int hi]/\n<100/\lo<=n/\n<=hi/\∀ H',Same H H'->Q (.int n) H'
def iT(K:Frag):TS:=
 (tSeq (tAsg (tCall (gp K) [] E0 (tCons (tVar 0) tNil)) (gName 3))
  (tSeq (tIfS (tOr (tTest (tOp rIsN (tVar 3) (tC .non))) (tOr (tTest (tOp (cCmp fun i j=>decide (i<j)) (tVar 3) (tVar 1))) (tTest (tOp (cCmp fun i j=>decide (j<i)) (tVar 3) (tVar 2))))) cP tNext)
  (tRet (tVar 3))))
theorem rF(h:bP K vs H Q E):iT K (eD9 Q) (start ["word","least","most","number"] vs) H:=by
 obtain⟨n,lo,hi,rfl,hn,h0,h1,q⟩:=h;show iT K _ [some (.str (tx (numC n))),some (.int lo),some (.int hi),none] H;unfold iT;symm;refine⟨n,rfl,hn,fun H1 s1=>?_⟩;symm;rw[aA];symm;rw[Qx (show ¬ V.int n=V.non from fun e=>nomatch e)];refine iteF ?_;rw[Qx (show ¬ (n:Int)<lo by omega)];refine iteF ?_;rw[Qx (show ¬ hi < (n:Int) by omega)];refine iteF ?_;symm;exact q _ s1
def WOk(ws:List (List Nat)):Prop:=∀ w∈ws,∀ c∈w,c<128
variable{w:List Nat}
theorem WOk.cons{ws:List (List Nat)}(h:∀ c∈w,c<128)(hs:WOk ws):WOk (w::ws):=fun v hv=>by
 rcases QV.mp hv with rfl | hv
 . exact h
 . exact hs v hv
variable{n:Nat}
theorem uH(h:n<100):∀ c∈numC n,c<128:=fun c hc=>by have:=yS h c hc;omega
theorem zA(h:∀ c∈w,c<128):PyData.strOk (tx w)=true:=by
 unfold PyData.strOk;simp[tx];intro c hc;have:=h c hc;omega
theorem WOk.strs{ws:List (List Nat)}(h:WOk ws):∀ x∈ws.map tx,PyData.strOk x=true:=fun x hx=>by
 obtain⟨w,hw,rfl⟩:=QS.mp hx;exact zA (h w hw)
def bZ(K:Frag):Sp:=fun vs H Q _=>∃(p:Addr) (n:Nat) (ws:List (List Nat)) (lo hi:Int),vs=[.ref p,.int lo,.int hi]/\H p=some (.lst (((numC n::ws).map tx).map V.str))/\n<100/\WOk ws/\lo<=n/\n<=hi/\∀ H',Same H H'->Q (.int n) H'
def ju(K:Frag):TS:=
 (tSeq (tIfS (tTest (tOp (cEq K) (tVar 0) (tLst tNil))) cP tNext)
  (tRet (tCall (bP K) [] E0 (tCons (tOp cIx (tVar 0) (tC (.int 0))) (tCons (tVar 1) (tCons (tVar 2) tNil))))))
theorem DVs.strs{K:Frag}{H:Hp}:∀ ns:List Str,DVs K H (ns.map V.str) (ns.map PyData.str)
 | []=>.nil
 | n::r=>.cons (.str n) (DVs.strs r)
theorem vA(a b:Str):PyData.eqv (.str a) (.str b)=decide (a=b):=by
 rw[PyData.eqv];by_cases h:a=b
 . subst h;simp
 . simp[h]
theorem kX(ns:List Str)(hs:∀ x∈ns,PyData.strOk x=true):SeqAt.shaped (.list (ns.map PyData.str))=true:=by
 have h1:PyData.canLayAll0 (ns.map PyData.str)=true:=uC fun d hd=>by obtain⟨x,hx,rfl⟩:=QS.mp hd;rw[PyData.canLay0];exact hs x hx
 have h2:PyData.depthAll (ns.map PyData.str)<=0:=pP fun d hd=>by obtain⟨x,_,rfl⟩:=QS.mp hd;exact QR _
 simp[SeqAt.shaped,PyData.canLay0,h1,PyData.depth];omega
variable{xs:List Str}
theorem DX{q:Addr}{ys:List Str}(hp:H p=some (.lst (xs.map V.str)))(hq:H q=some (.lst (ys.map V.str)))(h1:∀ x∈xs,PyData.strOk x=true)(h2:∀ x∈ys,PyData.strOk x=true)(h:Q (.bl (decide (xs=ys))) H):cEq K (.ref p) (.ref q) H Q:=by
 show rEqD K (.ref p) (.ref q) H Q;refine⟨.list (xs.map PyData.str),.list (ys.map PyData.str),.lst (QI hp) (.strs xs),.lst (QI hq) (.strs ys),kX xs h1,kX ys h2,?_⟩;rw[PyData.eqv,uD PyData.str vA];exact h
theorem AQ{q:Addr}{ys:List Str}(hp:H p=some (.lst (xs.map V.str)))(hq:H q=some (.lst (ys.map V.str)))(h1:∀ x∈xs,PyData.strOk x=true)(h2:∀ x∈ys,PyData.strOk x=true)(h:Q (.bl (!decide (xs=ys))) H):cNe K (.ref p) (.ref q) H Q:=by
 show rNeD K (.ref p) (.ref q) H Q;refine⟨.list (xs.map PyData.str),.list (ys.map PyData.str),.lst (QI hp) (.strs xs),.lst (QI hq) (.strs ys),kX xs h1,kX ys h2,?_⟩;rw[PyData.eqv,uD PyData.str vA];exact h
theorem tm(h:bZ K vs H Q E):ju K (eD9 Q) (start ["words","least","most"] vs) H:=by
 obtain⟨p,n,ws,lo,hi,rfl,hp,hn,hw,h0,h1,q⟩:=h;show ju K _ [some (.ref p),some (.int lo),some (.int hi)] H;unfold ju;rw[aL,aA];symm;refine⟨aT (by decide),fun l hl=>?_⟩;have s1:Same H (upd H l (.lst [])):=(Qy H).laid hl;refine DX (s1 _ _ hp) (ys:=[]) ah (WOk.strs (WOk.cons (uH hn) hw)) (fun x hx=>nomatch hx) ?_;generalize upd H l (.lst [])=H1 at*;symm;rw[Qx (by simp)];refine iteF ?_;symm;have e0:atI (((numC n::ws).map tx).map V.str) 0=some (V.str (tx (numC n))):=dI (j:=0) rfl;refine ixL (s1 _ _ hp) e0 ?_;symm;exact⟨n,lo,hi,rfl,hn,h0,h1,fun H2 s2=>q _ (s1.trans s2)⟩
theorem BV(acc:List Int)(v:Int):(step_dedup acc v).length<=acc.length+1:=by
 unfold step_dedup
 split <;> simp
theorem wZ:∀(l acc:List Int),(l.foldl step_dedup acc).length<=acc.length+l.length
 | [],acc=>by simp
 | x::r,acc=>by
  have h1:=wZ r (step_dedup acc x);have h2:=BV acc x;rw[R8,Rj];omega
theorem rj:∀(l acc:List Int),acc.Nodup->((l.foldl step_dedup acc).length=acc.length+l.length↔(acc++l).Nodup)
 | [],acc,h=>by simpa using h
 | x::r,acc,h=>by
  rw[R8];by_cases hx:x∈acc
  . have e:step_dedup acc x=acc:=by
     unfold step_dedup;rw[Q6 (by simpa using hx)]
    rw[e];have:=wZ r acc;constructor
    . intro z;rw[Rj] at z;omega
    . intro z;have:=(Sj.mp z).2.2 x hx x QK;exact absurd rfl this
  . have e:step_dedup acc x=acc++[x]:=by
     unfold step_dedup;rw[QT (by simpa using hx)]
    rw[e];have hn:(acc++[x]).Nodup:=Sj.mpr ⟨h,by simp,fun a ha b hb z=>hx (by rw[QF.mp hb] at z;exact z ▸ ha)⟩;have ih:=rj r (acc++[x]) hn;rw[Q8,TR] at ih;rw[Rj,show acc.length+(r.length+1)=acc.length+1+r.length by omega,show acc++x::r=acc++[x]++r by simp];exact ih
theorem uI(ns:List Int):(List.range ns.length).map (fun i=>ns.getD i 0)=ns:=by
 have:=pf ns (fun x=>x)
 simpa using this
theorem BW(ns:List Int):cntD ns=ns.length↔ns.Nodup:=by
 unfold cntD firstMet;rw[uI];have:=rj ns [] SA
 simpa using this
def fw(K:Frag):Sp:=fun vs H Q _=>∃(a p:Addr) (h w g:Int) (ns:List Nat),vs=[.ref a,.ref p]/\IsFl H a h w g/\FlOk h w g/\H p=some (.lst (((ns.map numC).map tx).map V.str))/\ns≠[]/\ns.length<=16/\(∀ n∈ns,(n:Int)<h*w)/\ns.Nodup/\
 ∀ l H',Same H H'->H l=none->H' l=some (.lst ((ns.map fun(n:Nat)=>(n:Int)).map V.int))->Q (.ref l) H'
def lx(K:Frag):TS:=
 (tSeq (sComp 2 [none,none,some 0] (iList K (tVar 1)) (gName 1) tTrue (tCall (bP K) [] E0 (tCons (tVar 1) (tCons (tC (.int 0)) (tCons (tOp cSub (tCall (aU K) [] E0 (tCons (tVar 2) tNil)) (tC (.int 1))) tNil)))))
  (tSeq (tIfS (tTest (tOp (cEq K) (tVar 2) (tLst tNil))) cP tNext)
  (tSeq (tIfS (tTest (tOp (cNe K) (qF (tVar 2)) (tCB kLen (tCons (tVar 2) tNil)))) cP tNext)
  (tRet (tVar 2)))))
variable{ns:List Nat}
theorem tp(h:ns.Nodup):(ns.map fun(n:Nat)=>(n:Int)).Nodup:=by
 induction ns with
 | nil=>exact SA
 | cons a r ih=>
  rw[RA] at h;rw[Rc,RA];refine⟨fun z=>?_,ih h.2⟩;obtain⟨b,hb,e⟩:=QS.mp z
  exact h.1 (by have:b=a:=by omega
                exact this ▸ hb)
theorem vK(h:fw K vs H Q E):lx K (eD9 Q) (start ["floor","words","cells"] vs) H:=by
 obtain⟨a,p,h,w,g,ns,rfl,ha,F,hp,hne,hn16,hlt,hnd,q⟩:=h;obtain⟨h0,h1,w0,w1,m16,g0,g1⟩:=F;show lx K _ [some (.ref a),some (.ref p),none] H;unfold lx;symm;refine⟨⟨_,QI hp⟩,?_⟩;refine bY (xs:=((ns.map numC).map tx).map V.str) (fun _=>true) (fun i=>.int (ns.getD i 0:Nat)) (by simp;omega) (QI hp) ?_ ?_ ?_
 . intro i x H1 R hx s1 k1;exact k1 _ (Qy _)
 . intro i x H1 Q1 hx hb s1 k1;rw[QD,QD,QD] at hx
   cases e:ns[i]? with
   | none=>rw[e] at hx;cases hx
   | some n=>
    rw[e] at hx;cases hx;have hm:=hlt n (QC e);show tCall _ _ _ _ [none,some (.str (tx (numC n))),some (.ref a)] H1 Q1;symm;refine⟨a,h,w,g,rfl,s1 _ _ ha,h0,h1,?_⟩;symm;refine⟨n,0,_,rfl,by omega,by omega,by omega,fun H2 s2=>?_⟩;have q1:=k1 _ s2;have eg:ns.getD i 0=n:=by rw[List.getD,e];rfl
    rw[eg] at q1;exact q1
 . intro l H1 hl s1 el
   have ec:((List.range (((ns.map numC).map tx).map V.str).length).filter fun _=>true).map (fun i=>V.int (ns.getD i 0:Nat))=(ns.map fun(n:Nat)=>(n:Int)).map V.int:=by
    rw[bf,Qu,Qu,Qu,Re];refine RZ fun i=>?_;rw[QD,QD];by_cases h:i<ns.length
    . rw[RG h,Qv h];simp[List.getD,h]
    . rw[Q7 (by simpa using h),Q7 (by omega)];rfl
   rw[ec] at el;symm;rw[aA];symm;refine⟨aT (by decide),fun z hz=>?_⟩;have s2:Same H1 (upd H1 z (.lst [])):=(Qy H1).laid hz;refine qD (s2 _ _ el) (ys:=[]) ah ?_;generalize upd H1 z (.lst [])=H2 at*;symm;rw[Qx (by simpa using hne)];refine iteF ?_;symm;rw[aA];symm;refine⟨l,_,rfl,s2 _ _ el,by rw[Qu];omega,?_⟩;rw[bt (s2 _ _ el),Qu];symm;rw[QA (by rw[(BW _).mpr (tp hnd)])];refine iteF ?_;symm;exact q l _ (s1.trans s2) hl (s2 _ _ el)
def allK:RK->Bool
 | .Joined=>true
 | .NoSquare=>true
 | .Ring=>true
 | _=>false
def numK:RK->Bool
 | .Sum=>true
 | .Seen=>true
 | .Count=>true
 | _=>false
def sgnK:RK->Bool
 | .Count=>true
 | .Joined=>true
 | .NoSquare=>true
 | .Ring=>true
 | _=>false
theorem DY(k:RK):decide (tx (nmC k)∈fY)=allK k:=by cases k <;> decide+kernel
theorem DZ(k:RK):decide (tx (nmC k)∈gP)=numK k:=by cases k <;> decide+kernel
theorem D0(k:RK):decide (tx (nmC k)∈gn)=sgnK k:=by cases k <;> decide+kernel
structure uJ(k:RK)(h w:Int)(ns:List Nat)(cs:List Int):Prop where
 told:allK k=false->ns≠[]/\ns.length<=16/\(∀ n∈ns,(n:Int)<h*w)/\ns.Nodup/\cs=ns.map fun(n:Nat)=>(n:Int)
 all:allK k=true->ns=[]/\cs=rngL 0 (h*w)
def ia(K:Frag):Sp:=fun vs H Q _=>∃(k:RK) (a p:Addr) (h w g:Int) (ns:List Nat) (cs:List Int),vs=[.ref a,.str (tx (nmC k)),.ref p]/\IsFl H a h w g/\FlOk h w g/\H p=some (.lst (((ns.map numC).map tx).map V.str))/\uJ k h w ns cs/\(∀ n∈ns,n<100)/\
 ∀ l H',Same H H'->H l=none->H' l=some (.lst (cs.map V.int))->Q (.ref l) H'
def nr(K:Frag):TS:=
 (tSeq (tIfS (tB (tInG fY true (tVar 1))) (tRet (tCall (fw K) [] E0 (tCons (tVar 0) (tCons (tVar 2) tNil)))) tNext)
  (tSeq (tIfS (tTest (tOp (cNe K) (tVar 2) (tLst tNil))) cP tNext)
  (tRet (k6 (tCons (tCall (aU K) [] E0 (tCons (tVar 0) tNil)) tNil)))))
theorem yc(h:ia K vs H Q E):nr K (eD9 Q) (start ["floor","name","words"] vs) H:=by
 obtain⟨k,a,p,h,w,g,ns,cs,rfl,ha,F,hp,hc,hn,q⟩:=h;obtain⟨h0,h1,w0,w1,m16,g0,g1⟩:=id F;have mpos:0<=h*w:=SB (by omega) (by omega);show nr K _ [some (.ref a),some (.str (tx (nmC k))),some (.ref p)] H;unfold nr;rw[aL,aA];symm;rw[DY]
 cases hk:allK k with
 | false=>
  obtain⟨c1,c2,c3,c4,rfl⟩:=hc.told hk;symm;exact⟨a,p,h,w,g,ns,rfl,ha,F,hp,c1,c2,c3,c4,q⟩
 | true=>
  obtain⟨rfl,rfl⟩:=hc.all hk;symm;rw[aA];symm;refine⟨aT (by decide),fun z hz=>?_⟩;have s1:Same H (upd H z (.lst [])):=(Qy H).laid hz;refine AQ (xs:=[]) (ys:=[]) (s1 _ _ hp) ah (fun x hx=>nomatch hx) (fun x hx=>nomatch hx) ?_;generalize upd H z (.lst [])=H1 at*;symm;refine⟨a,h,w,g,rfl,s1 _ _ ha,h0,h1,?_⟩;symm;refine⟨h*w,rfl,by omega,by omega,fun l hl=>?_⟩;exact q l _ (s1.laid hl) (s1.free hl) ah
def jv(K:Frag)(c:RCl RK):Sp:=fun vs H Q _=>∃(k:RK) (p W C:Addr) (ws:List (List Nat)) (cs:List Int) (n m:Int),vs=[.ref p,.ref W,.ref C,.int n,.int m]/\k≠.Rule/\c.ok k=true/\H W=some (.lst (((nmC k::ws).map tx).map V.str))/\H C=some (.lst (cs.map V.int))/\
 ∀ r H',Same H H'->H r=none->IsRule H' c k r p (nmC k::ws) cs n m->Q (.ref r) H'
def oE(K:Frag)(c:RCl RK):TS:=
 (tSeq (tAsg (tOp cIx (tVar 1) (tC (.int 0))) (gName 5))
  (tSeq (tIfS (tTest (tOp (cEq K) (tVar 5) (tC (.str (tx [117,110,108,105,107,101]))))) (tRet (tMake (c.A .Unlike) (ax K c) [] E0 (tCons (tVar 0) (tCons (tVar 1) (tCons (tVar 2) (tCons (tVar 3) (tCons (tVar 4) tNil))))))) tNext)
  (tSeq (tIfS (tTest (tOp (cEq K) (tVar 5) (tC (.str (tx [115,117,109]))))) (tRet (tMake (c.A .Sum) (ax K c) [] E0 (tCons (tVar 0) (tCons (tVar 1) (tCons (tVar 2) (tCons (tVar 3) (tCons (tVar 4) tNil))))))) tNext)
  (tSeq (tIfS (tTest (tOp (cEq K) (tVar 5) (tC (.str (tx [114,105,115,105,110,103]))))) (tRet (tMake (c.A .Rising) (ax K c) [] E0 (tCons (tVar 0) (tCons (tVar 1) (tCons (tVar 2) (tCons (tVar 3) (tCons (tVar 4) tNil))))))) tNext)
  (tSeq (tIfS (tTest (tOp (cEq K) (tVar 5) (tC (.str (tx [115,101,101,110]))))) (tRet (tMake (c.A .Seen) (ax K c) [] E0 (tCons (tVar 0) (tCons (tVar 1) (tCons (tVar 2) (tCons (tVar 3) (tCons (tVar 4) tNil))))))) tNext)
  (tSeq (tIfS (tTest (tOp (cEq K) (tVar 5) (tC (.str (tx [99,111,117,110,116]))))) (tRet (tMake (c.A .Count) (ax K c) [] E0 (tCons (tVar 0) (tCons (tVar 1) (tCons (tVar 2) (tCons (tVar 3) (tCons (tVar 4) tNil))))))) tNext)
  (tSeq (tIfS (tTest (tOp (cEq K) (tVar 5) (tC (.str (tx [106,111,105,110,101,100]))))) (tRet (tMake (c.A .Joined) (ax K c) [] E0 (tCons (tVar 0) (tCons (tVar 1) (tCons (tVar 2) (tCons (tVar 3) (tCons (tVar 4) tNil))))))) tNext)
  (tSeq (tIfS (tTest (tOp (cEq K) (tVar 5) (tC (.str (tx [110,111,115,113,117,97,114,101]))))) (tRet (tMake (c.A .NoSquare) (ax K c) [] E0 (tCons (tVar 0) (tCons (tVar 1) (tCons (tVar 2) (tCons (tVar 3) (tCons (tVar 4) tNil))))))) tNext)
  (tSeq (tIfS (tTest (tOp (cEq K) (tVar 5) (tC (.str (tx [114,105,110,103]))))) (tRet (tMake (c.A .Ring) (ax K c) [] E0 (tCons (tVar 0) (tCons (tVar 1) (tCons (tVar 2) (tCons (tVar 3) (tCons (tVar 4) tNil))))))) tNext)
  cP)))))))))
theorem CP{k:RK}{W C:Addr}{ws:List (List Nat)}{n m:Int}(ok:c.ok k=true)(hW:H W=some (.lst ((ws.map tx).map V.str)))(hC:H C=some (.lst (cs.map V.int)))(q:∀ r H',Same H H'->H r=none->IsRule H' c k r p ws cs n m->Q (.ref r) H'):
  ∀ x dx,H x=none->H dx=none->dx≠x->ax K c (.ref x::([.ref p,.ref W,.ref C,.int n,.int m]++[])) (upd (upd H dx (.own x)) x (.ins (c.A k) dx [])) (fun v H2=>v=.non/\Q (.ref x) H2) E0:=by
 intro x dx hx hd ne;refine⟨k,x,dx,p,W,C,ws,cs,n,m,rfl,ok,ah,aC hW hx,aC hC hx,?_,?_,fun H' hs hr=>⟨rfl,q x H' (fun b o e=>hs b o (aC e hx) ?_) hx hr⟩⟩
 . rw[ao (aC hW hx),ao (aC hW hd)];exact hW
 . rw[ao (aC hC hx),ao (aC hC hd)];exact hC
 . rw[ao (aC e hx),ao (aC e hd)];exact e
theorem zB(h:jv K c vs H Q E):oE K c (eD9 Q) (start ["floor","words","cells","amount","mark","name"] vs) H:=by
 obtain⟨k,p,W,C,ws,cs,n,m,rfl,hk,ok,hW,hC,q⟩:=h;have mk:=CP (K:=K) ok hW hC q;have e0:atI (((nmC k::ws).map tx).map V.str) 0=some (V.str (tx (nmC k))):=dI (j:=0) rfl;show oE K c _ [some (.ref p),some (.ref W),some (.ref C),some (.int n),some (.int m),none] H;unfold oE;symm;refine ixL hW e0 ?_
 have D:∀(l:List Nat) (t:TS) (u:TS) (D:Ends) (b:Bool),decide (nmC k=l)=b->(if b=true then t D [some (.ref p),some (.ref W),some (.ref C),some (.int n),some (.int m),some (.str (tx (nmC k)))] H else u D [some (.ref p),some (.ref W),some (.ref C),some (.int n),some (.int m),some (.str (tx (nmC k)))] H)->
   tIfS (tTest (tOp (cEq K) (tVar 5) (tC (.str (tx l))))) t u D [some (.ref p),some (.ref W),some (.ref C),some (.int n),some (.int m),some (.str (tx (nmC k)))] H:=fun l t u D b hb hq=>by
  rw[aA];symm;rw[bv,hb];exact hq
 have R:∀(D:Ends),D.rt=Q->tRet (tMake (c.A k) (ax K c) [] E0 (tCons (tVar 0) (tCons (tVar 1) (tCons (tVar 2) (tCons (tVar 3) (tCons (tVar 4) tNil)))))) D [some (.ref p),some (.ref W),some (.ref C),some (.int n),some (.int m),some (.str (tx (nmC k)))] H:=fun D hD=>by
  symm;rw[hD];exact mk
 cases k with
 | Rule=>exact absurd rfl hk
 | Unlike=>exact D _ _ _ _ true (by decide) (iteT (R _ rfl))
 | Sum=>exact D _ _ _ _ false (by decide) (iteF (D _ _ _ _ true (by decide) (iteT (R _ rfl))))
 | Rising=>exact D _ _ _ _ false (by decide) (iteF (D _ _ _ _ false (by decide) (iteF (D _ _ _ _ true (by decide) (iteT (R _ rfl))))))
 | Seen=>exact D _ _ _ _ false (by decide) (iteF (D _ _ _ _ false (by decide) (iteF (D _ _ _ _ false (by decide) (iteF (D _ _ _ _ true (by decide) (iteT (R _ rfl))))))))
 | Count=>exact D _ _ _ _ false (by decide) (iteF (D _ _ _ _ false (by decide) (iteF (D _ _ _ _ false (by decide) (iteF (D _ _ _ _ false (by decide) (iteF (D _ _ _ _ true (by decide) (iteT (R _ rfl))))))))))
 | Joined=>exact D _ _ _ _ false (by decide) (iteF (D _ _ _ _ false (by decide) (iteF (D _ _ _ _ false (by decide) (iteF (D _ _ _ _ false (by decide) (iteF (D _ _ _ _ false (by decide) (iteF (D _ _ _ _ true (by decide) (iteT (R _ rfl))))))))))))
 | NoSquare=>exact D _ _ _ _ false (by decide) (iteF (D _ _ _ _ false (by decide) (iteF (D _ _ _ _ false (by decide) (iteF (D _ _ _ _ false (by decide) (iteF (D _ _ _ _ false (by decide) (iteF (D _ _ _ _ false (by decide) (iteF (D _ _ _ _ true (by decide) (iteT (R _ rfl))))))))))))))
 | Ring=>exact D _ _ _ _ false (by decide) (iteF (D _ _ _ _ false (by decide) (iteF (D _ _ _ _ false (by decide) (iteF (D _ _ _ _ false (by decide) (iteF (D _ _ _ _ false (by decide) (iteF (D _ _ _ _ false (by decide) (iteF (D _ _ _ _ false (by decide) (iteF (D _ _ _ _ true (by decide) (iteT (R _ rfl))))))))))))))))
def rowW(k:RK)(n m:Nat)(ns:List Nat):List (List Nat):=nmC k::((if numK k then [numC n] else [])++(if sgnK k then [numC m] else [])++ns.map numC)
structure w5(k:RK)(h w g:Int)(n m:Nat)(ns:List Nat)(cs:List Int):Prop where
 k0:k≠.Rule
 n0:n<=99
 nz:numK k=false->n=0
 m0:sgnK k=true->1<=(m:Int)/\(m:Int)<=g
 mz:sgnK k=false->m=0
 cl:uJ k h w ns cs
 ns0:∀ x∈ns,x<100
 len:ns.length<=16
def gq(K:Frag)(c:RCl RK):Sp:=fun vs H Q _=>∃(k:RK) (p:Addr) (h w g:Int) (n m:Nat) (ns:List Nat) (cs:List Int),vs=[.ref p,.str (tx (catL 32 (rowW k n m ns)))]/\IsFl H p h w g/\FlOk h w g/\w5 k h w g n m ns cs/\c.ok k=true/\
 ∀ r H',Same H H'->H r=none->IsRule H' c k r p (rowW k n m ns) cs n m->Q (.ref r) H'
def fZ(K:Frag)(c:RCl RK):TS:=
 (tRet (tCall (jv K c) [] E0 (tCons (tVar 0) (tCons (tVar 2) (tCons (tCall (ia K) [] E0 (tCons (tVar 0) (tCons (tVar 3) (tCons (tVar 4) tNil)))) (tCons (tVar 5) (tCons (tVar 6) tNil)))))))
def jw(K:Frag)(c:RCl RK):TS:=
 (tSeq (tAsg (tOp cIx (tVar 2) (tC (.int 0))) (gName 3))
  (tSeq (tAsg (tSl ln (tVar 2) (tPart (tC (.int 1))) gH) (gName 4))
  (tSeq (tAsg (tC (.int 0)) (gName 5))
  (tSeq (tAsg (tC (.int 0)) (gName 6))
  (tSeq (tIfS (tB (tInG gP false (tVar 3))) (tSeq (tAsg (tCall (bZ K) [] E0 (tCons (tVar 4) (tCons (tC (.int 0)) (tCons (tC (.int 99)) tNil)))) (gName 5))
  (tAsg (tSl ln (tVar 4) (tPart (tC (.int 1))) gH) (gName 4))) tNext)
  (tSeq (tIfS (tB (tInG gn false (tVar 3))) (tSeq (tAsg (tCall (bZ K) [] E0 (tCons (tVar 4) (tCons (tC (.int 1)) (tCons (tOp cIx (tVar 0) (tC (.int 2))) tNil)))) (gName 6))
  (tAsg (tSl ln (tVar 4) (tPart (tC (.int 1))) gH) (gName 4))) tNext)
  (fZ K c)))))))
def mB(K:Frag)(c:RCl RK):TS:=
 (tSeq (tIfS (tNot (tB (tCB kIsi (tCons (tVar 1) (tCons (tC (.ty "str")) tNil))))) cP tNext)
  (tSeq (tAsg (tBM K "str" sQ (tVar 1) (tCons (tC (.str (tx [32]))) tNil)) (gName 2))
  (jw K c)))
theorem CQ(k:RK):32∉nmC k:=by cases k <;> decide
variable{m:Nat}
theorem AR{k:RK}(hn:n<100)(hm:m<100)(hs:∀ x∈ns,x<100):∀ r∈rowW k n m ns,32∉r:=by
 intro r hr;unfold rowW at hr;rcases QV.mp hr with rfl | hr
 . exact CQ k
 rcases QZ.mp hr with hr | hr
 . rcases QZ.mp hr with hr | hr
   . split at hr
     . rw[QF.mp hr];exact rC hn
     . cases hr
   . split at hr
     . rw[QF.mp hr];exact rC hm
     . cases hr
 . obtain⟨x,hx,rfl⟩:=QS.mp hr;exact rC (hs x hx)
theorem BX(xs:List V):cutV xs (some 1) none=xs.drop 1:=by
 unfold cutV;have h1:HT.sIx xs.length 0 (some 1)=min 1 xs.length:=HT.sIx_nat ..;have h2:HT.sIx xs.length xs.length none=xs.length:=rfl;rw[h1,h2]
 cases xs with
 | nil=>rfl
 | cons x r=>
  have:min 1 (x::r).length=1:=by simp
  rw[this];show(r).take _=r;rw[Ry (by simp)]
theorem nk {k:RK} {W R:Addr} {h w g:Int} {ws:List (List Nat)} {lv:V} (F:FlOk h w g) (ha:IsFl H p h w g) (hW:H W=some (.lst (((nmC k::ws).map tx).map V.str))) (hR:H R=some (.lst (((ns.map numC).map tx).map V.str))) (hc:uJ k h w ns cs) (hn:∀ x∈ns,x<100) (k0:k≠.Rule) (ok:c.ok k=true)
  (q:∀ r H',Same H H'->H r=none->IsRule H' c k r p (nmC k::ws) cs n m->Q (.ref r) H'):
  fZ K c (eD9 Q) [some (.ref p),some lv,some (.ref W),some (.str (tx (nmC k))),some (.ref R),some (.int n),some (.int m)] H:=by
 unfold fZ;symm;refine⟨k,p,R,h,w,g,ns,cs,rfl,ha,F,hR,hc,hn,fun l H1 s1 hl el=>?_⟩;symm;exact⟨k,p,W,l,ws,cs,n,m,rfl,k0,ok,s1 _ _ hW,el,fun r H2 s2 hr x=>q r H2 (s1.trans s2) (s1.free hr) x⟩
theorem yd{k:RK}(h:ns.length<=16):(rowW k n m ns).length<=100/\∀ w∈rowW k n m ns,w.length<=100:=by
 unfold rowW;refine⟨?_,fun w hw=>?_⟩
 . simp only[Rj,Q8,Qu]
   split <;> split <;> simp <;> omega
 . rcases QV.mp hw with rfl | hw
   . cases k <;> decide
   have h2:∀ x,(numC x).length<=100:=fun x=>QG qH (by decide);rcases QZ.mp hw with hw | hw
   . rcases QZ.mp hw with hw | hw
     . split at hw
       . rw[QF.mp hw];exact h2 _
       . cases hw
     . split at hw
       . rw[QF.mp hw];exact h2 _
       . cases hw
   . obtain⟨x,hx,rfl⟩:=QS.mp hw;exact h2 _
theorem tq:∀(Qj:List (List Nat)),(∀ r∈Qj,r.length<=100)->(catL 32 Qj).length<=101*Qj.length
 | [],_=>Rx _
 | [x],h=>by
  have:=h x QK;show x.length<=101*1;omega
 | x::y::r,h=>by
  have h1:=h x QK;have ih:=tq (y::r) fun z hz=>h z (QH _ hz);have e:catL 32 (x::y::r)=x++32::catL 32 (y::r):=by first | rfl | simp[catL]
  rw[e,Q8,Rj,Rj];omega
theorem uK{x:Str}(hp:H p=some (.lst ((x::xs).map V.str)))(q:∀ l,H l=none->Q (.ref l) (upd H l (.lst (xs.map V.str)))):ln (.ref p) (some 1) none H Q:=by
 refine qE hp fun l hl=>?_;rw[BX];exact q l hl
theorem tu {k:RK} {W:Addr} {h w g:Int} {lv:V} (F:FlOk h w g) (ha:IsFl H p h w g) (hW:H W=some (.lst (((rowW k n m ns).map tx).map V.str))) (O:w5 k h w g n m ns cs) (ok:c.ok k=true)
  (q:∀ r H',Same H H'->H r=none->IsRule H' c k r p (rowW k n m ns) cs n m->Q (.ref r) H'):
  jw K c (eD9 Q) [some (.ref p),some lv,some (.ref W),none,none,none,none] H:=by
 obtain⟨k0,n0,nz,m0,mz,cl,ns0,len⟩:=O;obtain⟨h0,h1,w0,w1,m16,g0,g1⟩:=id F;have e0:atI (((rowW k n m ns).map tx).map V.str) 0=some (V.str (tx (nmC k))):=dI (j:=0) rfl;have hns:WOk (ns.map numC):=fun v hv=>by obtain⟨x,hx,rfl⟩:=QS.mp hv;exact uH (ns0 x hx)
 unfold jw;symm;refine ixL hW e0 ?_;symm;refine uK hW fun R hR=>?_;obtain⟨H1,z9,s1,eR⟩:=aY (.lst ((((if numK k then [numC n] else [])++(if sgnK k then [numC m] else [])++ns.map numC).map tx).map V.str)) hR;rw[z9];symm
 have two:∀{H2:Hp} {R2:Addr},Same H H2->H2 R2=some (.lst ((((if sgnK k then [numC m] else [])++ns.map numC).map tx).map V.str))->
   tSeq (tIfS (tB (tInG gn false (tVar 3))) (tSeq (tAsg (tCall (bZ K) [] E0 (tCons (tVar 4) (tCons (tC (.int 1)) (tCons (tOp cIx (tVar 0) (tC (.int 2))) tNil)))) (gName 6)) (tAsg (tSl ln (tVar 4) (tPart (tC (.int 1))) gH) (gName 4))) tNext) (fZ K c) (eD9 Q)
    [some (.ref p),some lv,some (.ref W),some (.str (tx (nmC k))),some (.ref R2),some (.int n),some (.int 0)] H2:=by
  intro H2 R2 s2 eR2;rw[aL,aA];symm;rw[D0]
  cases hs:sgnK k with
  | false=>
   rw[hs] at eR2;have:=mz hs;subst this;symm;exact nk F (s2 _ _ ha) (s2 _ _ hW) eR2 cl ns0 k0 ok fun r H3 s3 hr x=>q r H3 (s2.trans s3) (s2.free hr) x
  | true=>
   rw[hs] at eR2;have hm:=m0 hs;symm;refine ixT (s2 _ _ ha) (v:=V.int g) rfl ?_;symm;refine⟨R2,m,ns.map numC,1,g,rfl,eR2,by omega,hns,hm.1,hm.2,fun H3 s3=>?_⟩;symm;refine uK (s3 _ _ eR2) fun R3 hR3=>?_;have s4:Same H3 (upd H3 R3 (.lst (((ns.map numC).map tx).map V.str))):=(Qy H3).laid hR3;have s24:=(s2.trans s3).trans s4;exact nk F (s24 _ _ ha) (s24 _ _ hW) ah cl ns0 k0 ok fun r H5 s5 hr x=>q r H5 (s24.trans s5) (s24.free hr) x
 rw[aA];symm;rw[DZ]
 cases hn:numK k with
 | false=>
  rw[hn] at eR;have:=nz hn;subst this;symm;exact two s1 eR
 | true=>
  rw[hn] at eR;symm;refine⟨R,n,(if sgnK k then [numC m] else [])++ns.map numC,0,99,rfl,eR,by omega,?_,by omega,by omega,fun H3 s3=>?_⟩
  . intro v hv;rcases QZ.mp hv with hv | hv
    . split at hv
      . rename_i hs
        have:=m0 hs;rw[QF.mp hv];exact uH (by omega)
      . cases hv
    . exact hns v hv
  symm;refine uK (s3 _ _ eR) fun R3 hR3=>?_;have s4:Same H3 (upd H3 R3 (.lst ((((if sgnK k then [numC m] else [])++ns.map numC).map tx).map V.str))):=(Qy H3).laid hR3;symm;exact two ((s1.trans s3).trans s4) ah
theorem w9(h:gq K c vs H Q E):mB K c (eD9 Q) (start ["floor","line","words","name","rest","amount","mark"] vs) H:=by
 obtain⟨k,p,h,w,g,n,m,ns,cs,rfl,ha,F,O,ok,q⟩:=h
 have hm:m<100:=by
  by_cases hs:sgnK k=true
  . have:=(O.m0 hs).2;have:=F.g1;omega
  . have:=O.mz (by simpa using hs);omega
 have hsp:Txt.split (tx (catL 32 (rowW k n m ns))) (tx [32])=(rowW k n m ns).map tx:=BT (by simp[rowW]) (AR (by have:=O.n0;omega) hm O.ns0);have hl:=yd (k:=k) (n:=n) (m:=m) O.len;have hl2:=tq _ hl.2;show mB K c _ [some (.ref p),some (.str (tx (catL 32 (rowW k n m ns)))),none,none,none,none,none] H;unfold mB;rw[aL,aA];symm;refine⟨Cc,?_⟩;rw[CH,hsp];refine⟨by rw[gi];decide,by rw[gi];exact Rf (RL hl2 (RL (Nat.mul_le_mul_left 101 hl.1) (by decide))),by rw[Qu];exact aT (by omega),fun W hW=>?_⟩;have s1:Same H (upd H W (.lst (((rowW k n m ns).map tx).map V.str))):=(Qy H).laid hW;exact tu F (s1 _ _ ha) ah O ok fun r H2 s2 hr x=>q r H2 (s1.trans s2) (s1.free hr) x
theorem vB{α β:Type}(f:α->β):∀(l:List α) (j:Nat),(l.map f).eraseIdx j=(l.eraseIdx j).map f
 | [],_=>rfl
 | _::_,0=>rfl
 | x::r,j+1=>by
  show f x::(r.map f).eraseIdx j=f x::(r.eraseIdx j).map f;rw[vB f r j]
theorem tw{α:Type}:∀(l:List α) (j:Nat) (h:j<l.length),(l[j]::l.eraseIdx j).Perm l
 | [],_,h=>absurd h (by simp)
 | x::r,0,_=>List.Perm.refl _
 | x::r,j+1,h=>by
  have hj:j<r.length:=by simpa using h
  have ih:=tw r j hj;show(r[j]::x::r.eraseIdx j).Perm (x::r);exact(List.Perm.swap x r[j] (r.eraseIdx j)).trans (List.Perm.cons x ih)
theorem pT{α β:Type}(f:α->β):∀{l:List α},(l.map f).Nodup->l.Nodup
 | [],_=>SA
 | a::r,h=>by
  rw[Rc,RA] at h;rw[RA];exact⟨fun z=>h.1 (QS.mpr ⟨a,z,rfl⟩),pT f h.2⟩
theorem AS(n:Int):(rngL 0 n).Nodup:=by
 unfold rngL;have e:(List.range (n-0).toNat).map (fun(k:Nat)=>0+(k:Int))=(List.range (n-0).toNat).map fun(k:Nat)=>(k:Int):=S1 fun k _=>by omega
 rw[e];exact tp List.nodup_range
theorem uL{n x:Int}(h:x∈rngL 0 n):0<=x/\x<n:=by
 unfold rngL at h;obtain⟨k,hk,rfl⟩:=QS.mp h;have:=QQ.mp hk;omega
def jx(K:Frag)(c:RCl RK):Sp:=cR K c .Unlike
def jy(K:Frag)(c:RCl RK):TS:=
 (tSeq (tAsg (aI c c.ok "signs_at" (bU K c) (tVar 0) (tCons (tVar 1) tNil)) (gName 2))
  (tRet (tOp (cEq K) (qF (tVar 2)) (tCB kLen (tCons (tVar 2) tNil)))))
theorem tz(h:jx K c vs H Q E):jy K c (eD9 Q) (start ["self","filling","signs"] vs) H:=by
 obtain⟨r,p,f,ws,cs,xs,n,m,h,w,g,rfl,x,ha,F,hf,hC,hx,q⟩:=h;obtain⟨dx,W,C,h1,h2,h3⟩:=x.ex;show jy K c _ [some (.ref r),some (.ref f),none] H;unfold jy;symm;refine methE rfl x.ok h1 (by rfl) ?_;symm;refine⟨r,p,f,ws,cs,xs,n,m,rfl,x,hf,hC,fun l H1 s1 hl el=>?_⟩;have Qq:(sgAt xs cs).length<=100:=by unfold sgAt;rw[Qu];exact QG hC.1 (by decide)
 symm;refine⟨l,_,rfl,el,by omega,?_⟩;symm;rw[bt el,Qu];symm;have q1:=q _ s1;unfold hoB at q1;dsimp only at q1
 have e:decide (((cntD (sgAt xs cs):Nat):Int)=((sgAt xs cs).length:Nat))=decide (cntD (sgAt xs cs)=(sgAt xs cs).length):=by
  rw[Q0,QB,QB];omega
 rw[e];exact q1
theorem rl(xs:List Int)(i:Nat)(y:Int):(xs.map V.int).set i (.int y)=(xs.set i y).map V.int:=by rw[List.map_set]
theorem yT(h:n<100):((n:Int)).natAbs.log2<1920:=by
 have t:((List.range 100).all fun n=>decide (n.log2<1920))=true:=by decide+kernel
 have:=QO.mp t n (QQ.mpr h)
 simpa using this
theorem CS(h:n<100)(q:Q (.str (tx (numC n))) H):kStr [.int (n:Int)] H Q:=by
 refine⟨yT h,?_⟩;rw[yR h];exact q
theorem AT {C:Addr} {cs:List Nat} {fin:Addr->Hp->Prop} (hC:H C=some (.lst ((cs.map fun(n:Nat)=>(n:Int)).map V.int))) (hl:cs.length<=100) (hc:∀ c∈cs,c<100)
  (hd:∀ l H',H l=none->Same H H'->H' l=some (.lst (((cs.map numC).map tx).map V.str))->fin l H'):CompR (Itl K C) (gName 1) tTrue (tCB kStr (tCons (tVar 1) tNil)) fin [none,none] H:=by
 refine bY (xs:=(cs.map fun(n:Nat)=>(n:Int)).map V.int) (fun _=>true) (fun i=>.str (tx (numC (cs.getD i 0)))) (by simp;omega) (QI hC) ?_ ?_ ?_
 . intro i x H1 R hx s1 k1;exact k1 _ (Qy _)
 . intro i x H1 Q1 hx hb s1 k1;rw[QD,QD] at hx
   cases e:cs[i]? with
   | none=>rw[e] at hx;cases hx
   | some n=>
    rw[e] at hx;cases hx;show tCB kStr _ [none,some (.int (n:Int))] H1 Q1;symm;have q1:=k1 _ (Qy H1);have eg:cs.getD i 0=n:=by rw[List.getD,e];rfl
    rw[eg] at q1;have:=CS (H:=H1) (Q:=Q1) (hc n (QC e)) q1;exact this
 . intro l H1 hl1 s1 el;refine hd l H1 hl1 s1 ?_;rw[el,bf,Qu,Qu,Re,Re]
   congr 2
   refine RZ fun i=>?_;rw[QD,QD];by_cases h:i<cs.length
   . rw[RG h,Qv h];simp[List.getD,h]
   . rw[Q7 (by simpa using h),Q7 (by omega)];rfl
section
variable{X:Cx}{a:Expr}{ta:TE}{pos p:Pos}{x:Str}{ws:List Str}
theorem tD(G:GTup X.K X.mg x ws)(ha:PE X a ta)(hg:Gl X x)(hdb:(x==("__debug__":Str))=false:=by decide)(hm:behindInMarks .In (.Name x p)=false:=by with_unfolding_all rfl):PT X (.Compare a [.In] [.Name x p] pos) (tB (tInG ws false ta)):=by
 obtain⟨q,o,Qm,n,h1,h2⟩:=G.ex;have h0:=aj (pos:=pos) (DT ⟨o,Qm,n,h2⟩) ha (cL (v:=V.ref q) hg h1 rfl hdb) hm;intro Qi s σ H Q I h;refine h0 Qi s σ H Q I ?_
 have e:(fun(x:V) (H1:Hp)=>∃ z,x=.str z/\∃ k,V.bl (if false=true then !decide (z∈ws) else decide (z∈ws))=.bl k/\Q k H1)=fun x H1=>∃ z,x=.str z/\(V.ref q=V.ref q)/\∃ k,V.bl (decide (z∈ws))=.bl k/\Q k H1:=by
  funext x H1;simp
 have h':ta σ H (fun(x:V) (H1:Hp)=>∃ z,x=.str z/\∃ k,V.bl (if false=true then !decide (z∈ws) else decide (z∈ws))=.bl k/\Q k H1):=h;rw[e] at h';exact h'
theorem yU(G:GTup X.K X.mg x ws)(ha:PE X a ta)(hg:Gl X x)(hdb:(x==("__debug__":Str))=false:=by decide)(hm:behindInMarks .NotIn (.Name x p)=false:=by with_unfolding_all rfl):PT X (.Compare a [.NotIn] [.Name x p] pos) (tB (tInG ws true ta)):=by
 obtain⟨q,o,Qm,n,h1,h2⟩:=G.ex;have h0:=aj (pos:=pos) (CJ ⟨o,Qm,n,h2⟩) ha (cL (v:=V.ref q) hg h1 rfl hdb) hm;intro Qi s σ H Q I h;refine h0 Qi s σ H Q I ?_
 have e:(fun(x:V) (H1:Hp)=>∃ z,x=.str z/\∃ k,V.bl (if true=true then !decide (z∈ws) else decide (z∈ws))=.bl k/\Q k H1)=fun x H1=>∃ z,x=.str z/\(V.ref q=V.ref q)/\∃ k,V.bl (!decide (z∈ws))=.bl k/\Q k H1:=by
  funext x H1;simp
 have h':ta σ H (fun(x:V) (H1:Hp)=>∃ z,x=.str z/\∃ k,V.bl (if true=true then !decide (z∈ws) else decide (z∈ws))=.bl k/\Q k H1):=h;rw[e] at h';exact h'
end
local macro_rules | `(tactic| walk_at "w")=>`(tactic| (first | simp only [aL,k8,nh,gk,k9,jh,ji,ni,nc,k7,ng,if_true,if_false,Bool.false_eq_true,decide_true,decide_false,gN,gO,lY,dZ,dg,gL,jq,gM,dX,jo,jp,dW,lV,d0,d2,d4,d5,d6,d7,d3,jr,js,jt,jm,lX,Bool.not_true,Bool.not_false,dJ,cp,bo,gI,w_c,iN,dG,e7,dL,e8,w_b,w_not,im,lj,fc,fe,io,gJ,dM,lm,ff,ip,gK,kf,iq,dN,fg,fh,fj,c9,da,cq,cr,cu,b8,iu,iw,iy,iz,iA,iB,iC,iD,iE,iF,iG,iH,lp,fk,cw,fm,lq,fq,db,cy,iI,iJ,ft,fu,fv,
 List.getElem?_cons_zero,List.getElem?_cons_succ,Option.some.injEq,exists_eq_left',exists_eq_left,List.set_cons_zero,List.set_cons_succ,ce,V.int.injEq,V.bl.injEq,V.ref.injEq,V.str.injEq,List.append_nil,List.nil_append,List.cons_append] | dsimp only | skip))
inductive PzK where
 | Puzzle
 deriving DecidableEq
structure RR where
 k:RK
 n:Nat
 m:Nat
 ns:List Nat
 cs:List Int
def RR.ws(r:RR):List (List Nat):=rowW r.k r.n r.m r.ns
def RR.txt(r:RR):Str:=tx (catL 32 r.ws)
def RR.Ok(r:RR)(h w g:Int):Prop:=w5 r.k h w g r.n r.m r.ns r.cs
structure IsRules(H:Hp)(c:RCl RK)(p L:Addr)(rs:List Addr)(Qj:List RR):Prop where
 top:H L=some (.lst (rs.map V.ref))
 len:rs.length=Qj.length
 at_:∀(i:Nat) (r:Addr) (x:RR),rs[i]? =some r->Qj[i]? =some x->IsRule H c x.k r p x.ws x.cs x.n x.m
variable{H:Hp}{c:RCl RK}{p:Addr}{rs:List Addr}{Qj:List RR}
theorem IsRules.same{H':Hp}{L:Addr}(x:IsRules H c p L rs Qj)(s:Same H H'):IsRules H' c p L rs Qj:=
 ⟨s _ _ x.top,x.len,fun i r y h1 h2=>(x.at_ i r y h1 h2).same s⟩
variable{cs:List Int}{o:HO}
theorem IsRule.lst{k:RK}{r a:Addr}{ws:List (List Nat)}{n m:Int}{xs:List V}(x:IsRule H c k r p ws cs n m)(ha:H a=some (.lst xs)):IsRule (upd H a o) c k r p ws cs n m:=by
 obtain⟨dx,W,C,h1,h2,h3⟩:=x.ex;refine⟨x.ok,dx,W,C,?_,?_,?_⟩
 . rw[ao (fun e=>by rw[e,ha] at h1;cases h1)];exact h1
 . rw[ao (fun e=>by rw[e,ha] at h2;cases h2)];exact h2
 . rw[ao (fun e=>by rw[e,ha] at h3;cases h3)];exact h3
def pFs(p L G:Addr):List (Str × V):=[("floor",.ref p),("laws",.ref L),("given",.ref G)]
structure ib(c:RCl RK)(h w g:Int)(Qj:List RR):Prop where
 F:FlOk h w g
 n:Qj.length<=12
 ok:∀ r∈Qj,r.Ok h w g
 c:∀ r∈Qj,c.ok r.k=true
structure CluesOk(h w g:Int)(cl:List Int):Prop where
 len:cl.length=(h*w).toNat
 ok:∀ x∈cl,0<=x/\x<=g
structure IsPz(H:Hp)(c:RCl RK)(d:RCl PzK)(P L G:Addr)(h w g:Int)(Qj:List RR)(cl:List Int):Prop where
 ok:d.ok .Puzzle=true
 R:ib c h w g Qj
 C:CluesOk h w g cl
 gv:H G=some (.lst (cl.map V.int))
 ex:∃ dx p rs,H P=some (.ins (d.A .Puzzle) dx (pFs p L G))/\IsFl H p h w g/\IsRules H c p L rs Qj
variable{d:RCl PzK}{cl:List Int}
theorem IsPz.same{H':Hp}{P L G:Addr}{h w g:Int}(x:IsPz H c d P L G h w g Qj cl)(s:Same H H'):IsPz H' c d P L G h w g Qj cl:=by
 obtain⟨dx,p,rs,h1,h2,h3⟩:=x.ex;exact⟨x.ok,x.R,x.C,s _ _ x.gv,dx,p,rs,s _ _ h1,s _ _ h2,h3.same s⟩
def bp(K:Frag):Sp:=fun vs H Q _=>∃ i:Int,vs=[.int i]/\Q (.bl true) H
def nv(K:Frag):TS:=
 (tRet (tAndV (tCB kIsi (tCons (tVar 0) (tCons (tC (.ty "int")) tNil))) (tNotV (tCB kIsi (tCons (tVar 0) (tCons (tC (.ty "bool")) tNil))))))
variable{K:Frag}{vs:List V}{Q:VK}{E:XK}
theorem ye(h:bp K vs H Q E):nv K (eD9 Q) (start ["value"] vs) H:=by
 obtain⟨i,rfl,q⟩:=h;show nv K _ [some (.int i)] H;unfold nv;symm;exact q
def bg(K:Frag):Sp:=fun vs H Q _=>∃ i m:Int,vs=[.int i,.int m]/\Q (.bl (decide (1<=i)&&decide (i<=m))) H
def gQ(K:Frag):TS:=
 (tRet (tAndV (tCall (bp K) [] E0 (tCons (tVar 0) tNil)) (tAndV (tOp (cCmp fun i j=>decide (i<=j)) (tC (.int 1)) (tVar 0)) (tOp (cCmp fun i j=>decide (i<=j)) (tVar 0) (tVar 1)))))
theorem qN(h:bg K vs H Q E):gQ K (eD9 Q) (start ["value","most"] vs) H:=by
 obtain⟨i,m,rfl,q⟩:=h;show gQ K _ [some (.int i),some (.int m)] H;unfold gQ;symm;refine⟨i,rfl,⟨true,rfl,iteT ?_⟩⟩;symm
 cases hb:decide (1<=i) with
 | false=>
  rw[hb,QJ] at q;exact iteF q
 | true=>
  rw[hb,QL] at q;exact iteT q
def ic(K:Frag):Sp:=fun vs H Q _=>∃ h w g:Int,vs=[.int h,.int w,.int g]/\FlOk h w g/\∀ p,H p=none->Q (.ref p) (upd H p (.tup [.int h,.int w,.int g]))
def nA(K:Frag):TS:=
 (tSeq (tIfS (tNot (tB (tCall (bg K) [] E0 (tCons (tVar 0) (tCons (tC (.int 6)) tNil))))) cP tNext)
  (tSeq (tIfS (tNot (tB (tCall (bg K) [] E0 (tCons (tVar 1) (tCons (tC (.int 6)) tNil))))) cP tNext)
  (tSeq (tIfS (tTest (tOp (cCmp fun i j=>decide (j<i)) (tOp cMul (tVar 0) (tVar 1)) (tC (.int 16)))) cP tNext)
  (tSeq (tIfS (tNot (tB (tCall (bg K) [] E0 (tCons (tVar 2) (tCons (tC (.int 6)) tNil))))) cP tNext)
  (tRet (tTup (tCons (tVar 0) (tCons (tVar 1) (tCons (tVar 2) tNil)))))))))
theorem yf(h:ic K vs H Q E):nA K (eD9 Q) (start ["high","wide","signs"] vs) H:=by
 obtain⟨h,w,g,rfl,F,q⟩:=h;obtain⟨h0,h1,w0,w1,m16,g0,g1⟩:=id F;show nA K _ [some (.int h),some (.int w),some (.int g)] H;unfold nA;rw[aL,aA];symm;refine⟨h,6,rfl,⟨_,rfl,?_⟩⟩;rw[QA h0,QA h1,T0];refine iteF ?_;rw[aA];symm;refine⟨w,6,rfl,⟨_,rfl,?_⟩⟩;rw[QA w0,QA w1,T0];refine iteF ?_;rw[aA];symm;refine⟨m8 h0 h1,?_⟩;rw[Qx (show ¬ (16:Int)<h*w by omega)];refine iteF ?_;rw[aA];symm;refine⟨g,6,rfl,⟨_,rfl,?_⟩⟩;rw[QA g0,QA g1,T0];refine iteF ?_;symm;exact⟨lnR rfl,q⟩
def cT(K:Frag):Sp:=fun vs H Q _=>∃(p:Addr) (h w g:Int),vs=[.ref p]/\IsFl H p h w g/\FlOk h w g/\∀ p,H p=none->Q (.ref p) (upd H p (.tup [.int h,.int w,.int g]))
def iU(K:Frag):TS:=
 (tSeq (tIfS (tOr (tNot (tB (tCB kIsi (tCons (tVar 0) (tCons (tC (.ty "tuple")) tNil))))) (tTest (tOp (cNe K) (tCB kLen (tCons (tVar 0) tNil)) (tC (.int 3))))) cP tNext)
  (tRet (tCall (ic K) [] E0 (tCons (tOp cIx (tVar 0) (tC (.int 0))) (tCons (tOp cIx (tVar 0) (tC (.int 1))) (tCons (tOp cIx (tVar 0) (tC (.int 2))) tNil))))))
theorem rG(h:cT K vs H Q E):iU K (eD9 Q) (start ["floor"] vs) H:=by
 obtain⟨p,h,w,g,rfl,hp,F,q⟩:=h;show iU K _ [some (.ref p)] H;unfold iU;rw[aL,aA];symm;refine sW hp ?_;symm;rw[sP hp,show(([V.int h,V.int w,V.int g]:List V).length:Int)=3 from rfl];symm;refine ixT hp (v:=V.int h) rfl ?_;symm;refine ixT hp (v:=V.int w) rfl ?_;symm;refine ixT hp (v:=V.int g) rfl ?_;symm;exact⟨h,w,g,rfl,F,q⟩
def fz(K:Frag)(c:RCl RK):Sp:=fun vs H Q _=>∃(p a:Addr) (h w g:Int) (Qj:List RR),vs=[.ref p,.ref a]/\IsFl H p h w g/\H a=some (.lst ((Qj.map RR.txt).map V.str))/\ib c h w g Qj/\
 ∀ l rs H',Same H H'->H l=none->IsRules H' c p l rs Qj->Q (.ref l) H'
def ly(K:Frag)(c:RCl RK):TS:=
 (tSeq (tIfS (tTest (tOp (cCmp fun i j=>decide (j<i)) (tCB kLen (tCons (tVar 1) tNil)) (tC (.int 12)))) cP tNext)
  (tRet (tComp [none,none,some 0] (iList K (tVar 1)) (gName 1) tTrue (tCall (gq K c) [] E0 (tCons (tVar 2) (tCons (tVar 1) tNil))))))
theorem vL(h:fz K c vs H Q E):ly K c (eD9 Q) (start ["floor","lines"] vs) H:=by
 obtain⟨p,a,h,w,g,Qj,rfl,hp,ha,O,q⟩:=h;have hn:=O.n;show ly K c _ [some (.ref p),some (.ref a)] H;unfold ly;rw[aL,aA];symm;rw[bt ha,Qu,Qu];symm;rw[Qx (show ¬ (12:Int) < (Qj.length:Nat) by omega)];refine iteF ?_;symm;refine⟨⟨_,QI ha⟩,?_⟩
 refine pM (xs:=(Qj.map RR.txt).map V.str) (fun l i σ H'=>(∃ cv,σ=[none,cv,some (.ref p)])/\Same H H'/\∃ rs:List Addr,H' l=some (.lst (rs.map V.ref))/\rs.length=i/\∀(j:Nat) (r:Addr) (x:RR),rs[j]? =some r->Qj[j]? =some x->IsRule H' c x.k r p x.ws x.cs x.n x.m)
  (fun l hl=>⟨⟨none,rfl⟩,(Qy H).laid hl,[],by rw[ah];rfl,rfl,fun j r x e=>by simp at e⟩) (fun l i σ H' _ _ x=>x.2.1.seq (QI ha)) ?_ ?_
 . rintro l i x σ H1 hl hx ⟨⟨cv,rfl⟩,s1,rs,el,Qq,hat⟩;rw[QD,QD] at hx
   cases e:Qj[i]? with
   | none=>rw[e] at hx;cases hx
   | some y=>
    rw[e] at hx;cases hx;have hi:=(Qz.mp e).1;have hm:=QC e;rw[bo];show tTrue [none,some (.str y.txt),some (.ref p)] H1 _;symm;refine⟨y.k,p,h,w,g,y.n,y.m,y.ns,y.cs,rfl,s1 _ _ hp,O.F,O.ok y hm,O.c y hm,fun r H2 s2 hr xr=>?_⟩;have nrl:r≠l:=fun z=>by rw[z,el] at hr;cases hr
    refine⟨_,s2 _ _ el,by rw[Qu];exact aD (by omega),⟨_,rfl⟩,(s1.trans s2).own hl,rs++[r],by rw[ah];simp,by simp[Qq],fun j r' x' h1 h2=>?_⟩;by_cases hj:j<rs.length
    . rw[Rh hj] at h1;exact((hat j r' x' h1 h2).same s2).lst (s2 _ _ el)
    . rw[Rs (by omega)] at h1
      have hj0:j-rs.length=0:=by
       have:=(Qz.mp h1).1;simp at this;omega
      rw[hj0] at h1;have:j=i:=by omega
      subst this;rw[e] at h2;simp at h1;cases h2;subst h1;exact xr.lst (s2 _ _ el)
 . rintro l σ H1 hl ⟨_,s1,rs,el,Qq,hat⟩;exact q l rs H1 s1 hl ⟨el,by rw[Qq];simp,hat⟩
def filB(least g:Int)(n:Nat)(xs:List Int):Bool:=decide (xs.length=n)&&xs.all fun x=>decide (least<=x)&&decide (x<=g)
def fA(K:Frag):Sp:=fun vs H Q _=>∃(p a:Addr) (h w g least:Int) (xs:List Int),vs=[.ref p,.ref a,.int least]/\IsFl H p h w g/\FlOk h w g/\H a=some (.lst (xs.map V.int))/\xs.length<=100/\∀ H',Same H H'->Q (.bl (filB least g (h*w).toNat xs)) H'
def lz(K:Frag):TS:=
 (tSeq (tIfS (tOr (tNot (tB (tCB kIsi (tCons (tVar 1) (tCons (tC (.ty "list")) tNil))))) (tTest (tOp (cNe K) (tCB kLen (tCons (tVar 1) tNil)) (tCall (aU K) [] E0 (tCons (tVar 0) tNil))))) (tRet (tC (.bl false))) tNext)
  (tRet (tCB kAll (tCons (tComp [none,none,some 0,some 2] (iList K (tVar 1)) (gName 1) tTrue (tAndV (tCall (bp K) [] E0 (tCons (tVar 1) tNil)) (tAndV (tOp (cCmp fun i j=>decide (i<=j)) (tVar 3) (tVar 1)) (tOp (cCmp fun i j=>decide (i<=j)) (tVar 1) (tOp cIx (tVar 2) (tC (.int 2))))))) tNil))))
theorem vM(h:fA K vs H Q E):lz K (eD9 Q) (start ["floor","filling","least"] vs) H:=by
 obtain⟨p,a,h,w,g,least,xs,rfl,hp,F,ha,hn,q⟩:=h;obtain⟨h0,h1,w0,w1,m16,g0,g1⟩:=id F;have mpos:0<=h*w:=SB (by omega) (by omega);show lz K _ [some (.ref p),some (.ref a),some (.int least)] H;unfold lz;rw[aL,aA];symm;refine sV ha ?_;symm;rw[bt ha,Qu];symm;refine⟨p,h,w,g,rfl,hp,h0,h1,?_⟩;symm;unfold filB at q;by_cases hl:xs.length=(h*w).toNat
 . rw[QA (show(xs.length:Int)=h*w by omega)];rw[QA hl] at q;symm;refine⟨⟨_,QI ha⟩,?_⟩;refine bY (xs:=xs.map V.int) (fun _=>true) (fun i=>.bl (decide (least<=xs.getD i 0)&&decide (xs.getD i 0<=g))) (by rw[Qu];omega) (QI ha) ?_ ?_ ?_
   . intro i x H1 R hx s1 k1;exact k1 _ (Qy _)
   . intro i x H1 Q1 hx hb s1 k1;obtain⟨z,hz,rfl⟩:=aS hx;have q1:=k1 _ (Qy H1);rw[fJ hz] at q1;show tAndV _ _ [none,some (.int z),some (.ref p),some (.int least)] H1 Q1;symm;refine⟨z,rfl,⟨true,rfl,iteT ?_⟩⟩;symm
     cases hb:decide (least<=z) with
     | false=>
      rw[hb,QJ] at q1;exact iteF q1
     | true=>
      rw[hb,QL] at q1;refine iteT ?_;symm;refine ixT (s1 _ _ hp) (v:=V.int g) rfl ?_;symm;exact q1
   . intro l H1 hl1 s1 el
     have eb:((List.range (xs.map V.int).length).filter fun _=>true).map (fun i=>V.bl (decide (least<=xs.getD i 0)&&decide (xs.getD i 0<=g)))=(xs.map fun x=>decide (least<=x)&&decide (x<=g)).map V.bl:=by
      rw[bf,Qu];refine RZ fun i=>?_;rw[QD,QD,QD];by_cases h:i<xs.length
      . rw[RG h,Qv h];simp[List.getD,h]
      . rw[Q7 (by simpa using h),Q7 (by omega)];rfl
     rw[eb] at el;refine lW el ?_;have ea:(xs.map fun x=>decide (least<=x)&&decide (x<=g)).all id=xs.all fun x=>decide (least<=x)&&decide (x<=g):=by rw[Sh];rfl
     rw[ea];exact q _ s1
 . rw[Qx (show ¬ (xs.length:Int)=h*w by omega)];rw[Qx hl] at q;symm;exact q _ (Qy _)
def cU(K:Frag):Sp:=fun vs H Q _=>∃(p a:Addr) (h w g:Int) (xs:List Int),vs=[.ref p,.ref a]/\IsFl H p h w g/\FlOk h w g/\H a=some (.lst (xs.map V.int))/\CluesOk h w g xs/\∀ l H',Same H H'->H l=none->H' l=some (.lst (xs.map V.int))->Q (.ref l) H'
def iV(K:Frag):TS:=
 (tSeq (tIfS (tNot (tB (tCall (fA K) [] E0 (tCons (tVar 0) (tCons (tVar 1) (tCons (tC (.int 0)) tNil)))))) cP tNext)
  (tRet (tCB kList (tCons (tVar 1) tNil))))
theorem CluesOk.fil{h w g:Int}{xs:List Int}(C:CluesOk h w g xs):filB 0 g (h*w).toNat xs=true:=by
 unfold filB;rw[QA C.len,QL,QO];intro x hx;have:=C.ok x hx;simp[this.1,this.2]
theorem rH(h:cU K vs H Q E):iV K (eD9 Q) (start ["floor","clues"] vs) H:=by
 obtain⟨p,a,h,w,g,xs,rfl,hp,F,ha,C,q⟩:=h;obtain⟨h0,h1,w0,w1,m16,g0,g1⟩:=id F;show iV K _ [some (.ref p),some (.ref a)] H;unfold iV;rw[aL,aA];symm;refine⟨p,a,h,w,g,0,xs,rfl,hp,F,ha,by have:=C.len;omega,fun H1 s1=>?_⟩;rw[C.fil];refine⟨true,rfl,iteF ?_⟩;symm;refine kZ (s1 _ _ ha) fun l hl=>?_;exact q l _ (s1.laid hl) (s1.free hl) ah
theorem IsRule.ins{k:RK}{r a:Addr}{ws:List (List Nat)}{n m:Int}{C dx:Addr}{fs:List (Str × V)}(x:IsRule H c k r p ws cs n m)(ha:H a=some (.ins C dx fs))(hf:fs.length≠5):IsRule (upd H a o) c k r p ws cs n m:=by
 obtain⟨dx',W,C',h1,h2,h3⟩:=x.ex;refine⟨x.ok,dx',W,C',?_,?_,?_⟩
 . rw[ao (fun e=>by rw[e,ha] at h1;cases h1;exact hf rfl)];exact h1
 . rw[ao (fun e=>by rw[e,ha] at h2;cases h2)];exact h2
 . rw[ao (fun e=>by rw[e,ha] at h3;cases h3)];exact h3
theorem IsRules.ins{L a:Addr}{C dx:Addr}{fs:List (Str × V)}(x:IsRules H c p L rs Qj)(ha:H a=some (.ins C dx fs))(hf:fs.length≠5):IsRules (upd H a o) c p L rs Qj:=
 ⟨by rw[ao (fun e=>by have:=x.top;rw[e,ha] at this;cases this)];exact x.top,x.len,fun i r y h1 h2=>(x.at_ i r y h1 h2).ins ha hf⟩
def bz(K:Frag)(c:RCl RK)(d:RCl PzK):Sp:=fun vs H Q _=>∃(x dx p a b:Addr) (h w g:Int) (Qj:List RR) (cl:List Int),vs=[.ref x,.ref p,.ref a,.ref b]/\d.ok .Puzzle=true/\H x=some (.ins (d.A .Puzzle) dx [])/\IsFl H p h w g/\H a=some (.lst ((Qj.map RR.txt).map V.str))/\H b=some (.lst (cl.map V.int))/\ib c h w g Qj/\CluesOk h w g cl/\
 ∀ L G H',(∀ y o,y≠x->H y=some o->H' y=some o)->H L=none->H G=none->IsPz H' c d x L G h w g Qj cl->Q .non H'
def gr(K:Frag)(c:RCl RK)(d:RCl PzK):TS:=
 (tSeq (sFldK d (tVar 0) (tCall (cT K) [] E0 (tCons (tVar 1) tNil)) "floor")
  (tSeq (sFldK d (tVar 0) (tCall (fz K c) [] E0 (tCons (tFldK d (tVar 0) "floor") (tCons (tVar 2) tNil))) "laws")
  (sFldK d (tVar 0) (tCall (cU K) [] E0 (tCons (tFldK d (tVar 0) "floor") (tCons (tVar 3) tNil))) "given")))
theorem pU(h:bz K c d vs H Q E):gr K c d (eD9 Q) (start ["self","floor","lines","clues"] vs) H:=by
 obtain⟨x,dx,p,a,b,h,w,g,Qj,cl,rfl,ok,hx,hp,ha,hb,R,C,q⟩:=h;show gr K c d _ [some (.ref x),some (.ref p),some (.ref a),some (.ref b)] H;unfold gr sFldK;symm;refine⟨p,h,w,g,rfl,hp,R.F,fun p1 hp1=>?_⟩;have nxp:x≠p1:=aC hx hp1;refine⟨x,.Puzzle,dx,[],rfl,ok,by rw[ao nxp];exact hx,by show(0:Nat)<1000;decide,?_⟩
 have f1:∀ y o,y≠x->H y=some o->(upd (upd H p1 (.tup [.int h,.int w,.int g])) x (.ins (d.A .Puzzle) dx (putF "floor" (.ref p1) []))) y=some o:=fun y o ny e=>by
  rw[ao ny,ao (aC e hp1)];exact e
 have hx1:(upd (upd H p1 (.tup [.int h,.int w,.int g])) x (.ins (d.A .Puzzle) dx (putF "floor" (.ref p1) []))) x=some (.ins (d.A .Puzzle) dx [("floor",.ref p1)]):=ah
 have hp1':IsFl (upd (upd H p1 (.tup [.int h,.int w,.int g])) x (.ins (d.A .Puzzle) dx (putF "floor" (.ref p1) []))) p1 h w g:=by
  show(upd (upd H p1 (.tup [.int h,.int w,.int g])) x _) p1=_;rw[ao nxp.symm,ah]
 have fr1:∀ l,(upd (upd H p1 (.tup [.int h,.int w,.int g])) x (.ins (d.A .Puzzle) dx (putF "floor" (.ref p1) []))) l=none->H l=none:=fun l e=>by
  have n1:l≠x:=fun z=>by rw[z,ah] at e;cases e
  rw[ao n1] at e;have n2:l≠p1:=fun z=>by rw[z,ah] at e;cases e
  rw[ao n2] at e;exact e
 have nax:a≠x:=fun z=>by rw[z,hx] at ha;cases ha
 have nbx:b≠x:=fun z=>by rw[z,hx] at hb;cases hb
 generalize upd (upd H p1 (.tup [.int h,.int w,.int g])) x (.ins (d.A .Puzzle) dx (putF "floor" (.ref p1) []))=H1 at*;refine fldE (c:=d) (k:=.Puzzle) rfl ok hx1 (v:=.ref p1) (by rfl) ?_;symm;refine⟨p1,a,h,w,g,Qj,rfl,hp1',f1 a _ nax ha,R,fun L rs H2 s2 hL X=>?_⟩;refine⟨x,.Puzzle,dx,_,rfl,ok,s2 _ _ hx1,by show(1:Nat)<1000;decide,?_⟩;have nxL:L≠x:=fun z=>by rw[z,hx1] at hL;cases hL
 have X3:=X.ins (o:=.ins (d.A .Puzzle) dx (putF "laws" (.ref L) [("floor",.ref p1)])) (s2 _ _ hx1) (by show(1:Nat)≠5;decide)
 have f2:∀ y o,y≠x->H y=some o->(upd H2 x (.ins (d.A .Puzzle) dx (putF "laws" (.ref L) [("floor",.ref p1)]))) y=some o:=fun y o ny e=>by
  rw[ao ny];exact s2 _ _ (f1 y o ny e)
 have hx3:(upd H2 x (.ins (d.A .Puzzle) dx (putF "laws" (.ref L) [("floor",.ref p1)]))) x=some (.ins (d.A .Puzzle) dx [("floor",.ref p1),("laws",.ref L)]):=ah
 have hp3:IsFl (upd H2 x (.ins (d.A .Puzzle) dx (putF "laws" (.ref L) [("floor",.ref p1)]))) p1 h w g:=by
  show(upd H2 x _) p1=_;rw[ao nxp.symm];exact s2 _ _ hp1'
 have fr3:∀ l,(upd H2 x (.ins (d.A .Puzzle) dx (putF "laws" (.ref L) [("floor",.ref p1)]))) l=none->H1 l=none:=fun l e=>by
  have n1:l≠x:=fun z=>by rw[z,ah] at e;cases e
  rw[ao n1] at e;exact s2.free e
 generalize upd H2 x (.ins (d.A .Puzzle) dx (putF "laws" (.ref L) [("floor",.ref p1)]))=H3 at*;refine fldE (c:=d) (k:=.Puzzle) rfl ok hx3 (v:=.ref p1) (by rfl) ?_;symm;refine⟨p1,b,h,w,g,cl,rfl,hp3,R.F,f2 b _ nbx hb,C,fun G H4 s4 hG eG=>?_⟩;refine⟨x,.Puzzle,dx,_,rfl,ok,s4 _ _ hx3,by show(2:Nat)<1000;decide,?_⟩;have nxG:G≠x:=fun z=>by rw[z,hx3] at hG;cases hG
 refine q L G _ (fun y o ny e=>?_) (fr1 L hL) (fr1 G (fr3 G hG)) ⟨ok,R,C,?_,dx,p1,rs,?_,?_,?_⟩
 . rw[ao ny];exact s4 _ _ (f2 y o ny e)
 . rw[ao nxG];exact eG
 . rw[ah];rfl
 . show(upd H4 x _) p1=_;rw[ao nxp.symm];exact s4 _ _ hp3
 . exact(X3.same s4).ins (s4 _ _ hx3) (by show(2:Nat)≠5;decide)
theorem D1 {Z:Addr->Hp->Prop} {a b:Addr} {h w g:Int} (ok:d.ok .Puzzle=true) (hp:IsFl H p h w g) (ha:H a=some (.lst ((Qj.map RR.txt).map V.str))) (hb:H b=some (.lst (cl.map V.int))) (R:ib c h w g Qj) (C:CluesOk h w g cl)
  (q:∀ P L G H',Same H H'->H P=none->H L=none->H G=none->IsPz H' c d P L G h w g Qj cl->Z P H'):
  ∀ x dx,H x=none->H dx=none->dx≠x->bz K c d (.ref x::([.ref p,.ref a,.ref b]++[])) (upd (upd H dx (.own x)) x (.ins (d.A .Puzzle) dx [])) (fun v H2=>v=.non/\Z x H2) E0:=by
 intro x dx hx hd ne;have k:∀ y o,H y=some o->(upd (upd H dx (.own x)) x (.ins (d.A .Puzzle) dx [])) y=some o:=fun y o e=>by rw[ao (aC e hx),ao (aC e hd)];exact e
 have fr:∀ y,(upd (upd H dx (.own x)) x (.ins (d.A .Puzzle) dx [])) y=none->H y=none:=fun y e=>by
  have n1:y≠x:=fun z=>by rw[z,ah] at e;cases e
  rw[ao n1] at e;have n2:y≠dx:=fun z=>by rw[z,ah] at e;cases e
  rw[ao n2] at e;exact e
 exact⟨x,dx,p,a,b,h,w,g,Qj,cl,rfl,ok,ah,k _ _ hp,k _ _ ha,k _ _ hb,R,C,fun L G H' hs hL hG X=>⟨rfl,q x L G H' (fun y o e=>hs y o (aC e hx) (k _ _ e)) hx (fr L hL) (fr G hG) X⟩⟩
def cA(K:Frag)(c:RCl RK)(d:RCl PzK)(_:PzK):Sp:=fun vs H Q _=>∃(P L G:Addr) (h w g:Int) (Qj:List RR) (cl:List Int),vs=[.ref P]/\IsPz H c d P L G h w g Qj cl/\∀ p,IsFl H p h w g->Q (.ref p) H
def jz(K:Frag)(c:RCl RK)(d:RCl PzK):Sp:=cA K c d .Puzzle
def jA(K:Frag)(c:RCl RK)(d:RCl PzK):TS:=
 (tRet (tFldK d (tVar 0) "floor"))
theorem tE(h:jz K c d vs H Q E):jA K c d (eD9 Q) (start ["self"] vs) H:=by
 obtain⟨P,L,G,h,w,g,Qj,cl,rfl,x,q⟩:=h;obtain⟨dx,p,rs,h1,h2,h3⟩:=x.ex;show jA K c d _ [some (.ref P)] H;unfold jA;symm;exact fldE (k:=.Puzzle) rfl x.ok h1 (v:=.ref p) (by rfl) (q p h2)
def oF(K:Frag)(c:RCl RK)(d:RCl PzK)(_:PzK):Sp:=fun vs H Q _=>∃(P L G:Addr) (h w g:Int) (Qj:List RR) (cl:List Int),vs=[.ref P]/\IsPz H c d P L G h w g Qj cl/\∀ l,H l=none->Q (.ref l) (upd H l (.lst (cl.map V.int)))
def jB(K:Frag)(c:RCl RK)(d:RCl PzK):Sp:=oF K c d .Puzzle
def jC(K:Frag)(c:RCl RK)(d:RCl PzK):TS:=
 (tRet (tCB kList (tCons (tFldK d (tVar 0) "given") tNil)))
theorem tF(h:jB K c d vs H Q E):jC K c d (eD9 Q) (start ["self"] vs) H:=by
 obtain⟨P,L,G,h,w,g,Qj,cl,rfl,x,q⟩:=h;obtain⟨dx,p,rs,h1,h2,h3⟩:=x.ex;show jC K c d _ [some (.ref P)] H;unfold jC;symm;refine fldE (k:=.Puzzle) rfl x.ok h1 (v:=.ref G) (by rfl) ?_;symm;exact kZ x.gv q
def bq(K:Frag)(c:RCl RK)(d:RCl PzK)(_:PzK):Sp:=fun vs H Q _=>∃(P L G:Addr) (h w g:Int) (Qj:List RR) (cl:List Int),vs=[.ref P]/\IsPz H c d P L G h w g Qj cl/\∀ l p rs,H l=none->IsFl (upd H l (.lst (rs.map V.ref))) p h w g->IsRules (upd H l (.lst (rs.map V.ref))) c p l rs Qj->Q (.ref l) (upd H l (.lst (rs.map V.ref)))
def jD(K:Frag)(c:RCl RK)(d:RCl PzK):Sp:=bq K c d .Puzzle
def jE(K:Frag)(c:RCl RK)(d:RCl PzK):TS:=
 (tRet (tCB kList (tCons (tFldK d (tVar 0) "laws") tNil)))
theorem tG(h:jD K c d vs H Q E):jE K c d (eD9 Q) (start ["self"] vs) H:=by
 obtain⟨P,L,G,h,w,g,Qj,cl,rfl,x,q⟩:=h;obtain⟨dx,p,rs,h1,h2,h3⟩:=x.ex;show jE K c d _ [some (.ref P)] H;unfold jE;symm;refine fldE (k:=.Puzzle) rfl x.ok h1 (v:=.ref L) (by rfl) ?_;symm;refine kZ h3.top fun l hl=>?_;have s1:Same H (upd H l (.lst (rs.map V.ref))):=(Qy H).laid hl;exact q l p rs hl (s1 _ _ h2) ⟨ah,h3.len,fun i r y e1 e2=>(h3.at_ i r y e1 e2).same s1⟩
inductive DRows(w:World)(K:Frag):List DictEntry->List (Str × List Str)->Prop
 | nil:DRows w K [] []
 | cons {hsh:Int} {k:Str} {t:Tok} {q:Addr} {o:Obj} {Qm:Array Value} {n:Nat} {ws:List Str} {es:List DictEntry} {D:List (Str × List Str)}:hsh=hashStr w k->K.lookup q=some o->o.cls=.type "tuple"->o.data=.seq Qm n->Qm.size<=sizeLine->Vals (ws.map V.str) Qm.toList->DRows w K es D->DRows w K (⟨hsh,.str k t,.ref q⟩::es) ((k,ws)::D)
structure GDict(w:World)(K:Frag)(mg:Str->Option Value)(x:Str)(D:List (Str × List Str)):Prop where
 ex:∃(p:Addr) (o:Obj) (es:Array DictEntry) (ep:Nat),mg x=some (.ref p)/\K.lookup p=some o/\o.ExactDict/\o.data=.dict es ep/\DRows w K es.toList D/\(D.map fun x=>x.1).Nodup
theorem DRows.of{P:Program}{w:World}{K:Frag}{es:List DictEntry}{D:List (Str × List Str)}(h:DRows w K es D):
  ∃ Ql:List (Str × Value),Pairs (strKind P w) es Ql/\Ql.map (fun x=>x.1)=D.map (fun x=>x.1)/\(∀ e∈es,∃ k,(strKind P w).is k e.key=true/\e.hash=(strKind P w).hash k)/\
   ∀ k ws,D.lookup k=some ws->∃ q,valueAt Ql k=some (.ref q)/\∃(o:Obj) (Qm:Array Value) (n:Nat),K.lookup q=some o/\o.cls=.type "tuple"/\o.data=.seq Qm n/\Qm.size<=sizeLine/\Vals (ws.map V.str) Qm.toList:=by
 induction h with
 | nil=>exact⟨[],.nil,rfl,fun e he=>(by cases he),fun k ws e=>(by cases e)⟩
 | @cons hsh k t q o Qm n ws es D h1 h2 h3 h4 h5 h6 _ ih=>
  obtain⟨Ql,p1,p2,p3,p4⟩:=ih;have hk:(strKind P w).is k (.str k t)=true:=by show(k==k)=true;simp
  refine⟨(k,.ref q)::Ql,.cons hk rfl p1,by rw[Rc,Rc,p2],fun e he=>?_,fun k' ws' e=>?_⟩
  . rcases QV.mp he with rfl | he
    . exact⟨k,hk,h1⟩
    . exact p3 e he
  . rw[Rw] at e;unfold valueAt;rw[R9];by_cases hkk:k'=k
    . subst hkk;simp at e;subst e;refine⟨q,by simp,o,Qm,n,h2,h3,h4,h5,h6⟩
    . have hb:(k'==k)=false:=by simpa using hkk
      rw[hb] at e;have hd:decide (k=k')=false:=Qx (fun z=>hkk z.symm);dsimp only;rw[hd];exact p4 k' ws' e
def tIxG(K:Frag)(D:List (Str × List Str))(te:TE):TE:=fun σ H Q=>te σ H fun y H1=>∃ k ws,y=.str k/\D.lookup k=some ws/\∀ q,SqT K H1 q (ws.map V.str)->Q (.ref q) H1
def rInS(K:Frag):R2:=fun x y H Q=>∃(z:Str) (q:Addr) (ws:List Str),x=.str z/\y=.ref q/\SqT K H q (ws.map V.str)/\Q (.bl (decide (z∈ws))) H
section
variable{X:Cx}{a b:Expr}{ta tb:TE}{pos p:Pos}{x:Str}{D:List (Str × List Str)}
theorem D2(G:GDict X.w X.K X.mg x D)(hb:PE X b tb)(hg:Gl X x)(hpi:uy b)(hdb:(x==("__debug__":Str))=false:=by decide):PE X (.Subscript (.Name x p) b pos) (tIxG X.K D tb):=by
 obtain⟨pd,o,es,ep,h1,h2,h3,h4,h5,h6⟩:=G.ex;obtain⟨Ql,p1,p2,p3,p4⟩:=h5.of (P:=X.prog)
 have ir:IxR X (fun x y H Q=>x=.ref pd/\∃ k ws,y=.str k/\D.lookup k=some ws/\∀ q,SqT X.K H q (ws.map V.str)->Q (.ref q) H):=by
  intro value slice Qi s σ H x y v u Q I rx ry h hs;obtain⟨rfl,k,ws,rfl,hl,q⟩:=h;cases (show v=Value.ref pd from rx);have hget:s.heap.get? pd=some o:=I.kIn pd o h2;have dd:Heap.DictOf (strKind X.prog X.w) s.heap pd Ql:=⟨o,es,ep,hget,h3,h4,fun e he=>p3 e (Array.mem_toList_iff.mpr he),p1,by rw[p2];exact h6⟩;obtain⟨qa,hv,o2,Qm,n,g1,g2,g3,g4,g5⟩:=p4 k ws hl;obtain⟨t,rfl⟩:∃ t,u=Value.str k t:=ry;have hk:(strKind X.prog X.w).is k (.str k t)=true:=by show(k==k)=true;simp
  refine tail_any dd.typeIs Tg.lookup (wpAny_getItem_of hk dd.mapOf hv ?_) hs;exact⟨.ref qa,H,I.tok _,rfl,q qa (.inr ⟨o2,Qm,n,g1,g2,g3,g4,g5⟩)⟩
 have h0:=sH (pos:=pos) ir (cL (pos:=p) (v:=V.ref pd) hg h1 rfl hdb) hb hpi;intro Qi s σ H Q I h;refine h0 Qi s σ H Q I ?_
 have e:(fun(y:V) (H1:Hp)=>∃ k ws,y=.str k/\D.lookup k=some ws/\∀ q,SqT X.K H1 q (ws.map V.str)->Q (.ref q) H1)=fun y H1=>(V.ref pd=V.ref pd)/\∃ k ws,y=.str k/\D.lookup k=some ws/\∀ q,SqT X.K H1 q (ws.map V.str)->Q (.ref q) H1:=by
  funext y H1;simp
 have h':tb σ H (fun(y:V) (H1:Hp)=>∃ k ws,y=.str k/\D.lookup k=some ws/\∀ q,SqT X.K H1 q (ws.map V.str)->Q (.ref q) H1):=h;rw[e] at h';exact h'
theorem D3:OpR X (compareOp .In) (rInS X.K):=by
 intro Qi s σ H x y v u Q I rx ry h;obtain⟨z,q,ws,rfl,rfl,hq,h⟩:=h;refine pE Qi s σ H _ _ v u Q I rx ry ⟨q,ws.map V.str,rfl,.inr hq,rfl,gj ws,?_⟩;rw[iP];exact h
end
section
variable{K:Frag}{σ:St}{H:Hp}{Q:VK}{te:TE}{D:List (Str × List Str)}
theorem EG:tIxG K D te σ H Q=te σ H fun y H1=>∃ k ws,y=.str k/\D.lookup k=some ws/\∀ q,SqT K H1 q (ws.map V.str)->Q (.ref q) H1:=rfl
end
local macro_rules | `(tactic| walk_at "w")=>`(tactic| (first | simp only [aL,if_true,if_false,Bool.false_eq_true,decide_true,decide_false,gN,gO,lY,dZ,dg,gL,jq,gM,dX,jo,jp,dW,lV,d0,d2,d4,d5,d6,d7,d3,jr,js,jt,jm,lX,Bool.not_true,Bool.not_false,dJ,cp,bo,gI,w_c,iN,dG,e7,dL,e8,w_b,w_not,im,lj,fc,fe,io,gJ,dM,lm,ff,ip,gK,kf,iq,dN,fg,fh,fj,c9,da,cq,cr,cu,b8,iu,iw,iy,iz,iA,iB,iC,iD,iE,iF,iG,iH,lp,fk,cw,fm,lq,fq,db,cy,iI,iJ,ft,fu,fv,
 List.getElem?_cons_zero,List.getElem?_cons_succ,Option.some.injEq,exists_eq_left',exists_eq_left,List.set_cons_zero,List.set_cons_succ,ce,V.int.injEq,V.bl.injEq,V.ref.injEq,V.str.injEq,List.append_nil,List.nil_append,List.cons_append] | dsimp only | skip))
def stB(m s:Int):Bool:=decide (1<=s)&&(decide (s<=((Builtin.Int.intBits m:Nat):Int))&&decide (m/2^(s-1).toNat%2=1))
def bT(K:Frag):Sp:=fun vs H Q _=>∃ m s:Int,vs=[.int m,.int s]/\Q (.bl (stB m s)) H
def pV(K:Frag):TS:=
 (tRet (tAndV (tOp (cCmp fun i j=>decide (i<=j)) (tC (.int 1)) (tVar 1)) (tAndV (tOp (cCmp fun i j=>decide (i<=j)) (tVar 1) (uz K "int" oo (tVar 0))) (tOp (cEq K) (tOp cMod (tOp cShr (tVar 0) (tOp cSub (tVar 1) (tC (.int 1)))) (tC (.int 2))) (tC (.int 1))))))
variable{K:Frag}{vs:List V}{H:Hp}{Q:VK}{E:XK}
theorem AU(h:bT K vs H Q E):pV K (eD9 Q) (start ["mask","sign"] vs) H:=by
 obtain⟨m,s,rfl,q⟩:=h;show pV K _ [some (.int m),some (.int s)] H;unfold pV;symm;unfold stB at q
 cases h1:decide (1<=s) with
 | false=>rw[h1,QJ] at q;exact iteF q
 | true=>
  refine iteT ⟨rfl,?_⟩;symm;rw[h1,QL] at q
  cases h2:decide (s<=((Builtin.Int.intBits m:Nat):Int)) with
  | false=>rw[h2,QJ] at q;exact iteF q
  | true=>
   rw[h2,QL] at q;exact iteT ⟨by have:=QU h1;omega,by decide,q⟩
def lc(K:Frag):Sp:=fun vs H Q _=>∃ s:Int,vs=[.int s]/\1<=s/\s<=100000/\Q (.int (2^(s-1).toNat)) H
def pW(K:Frag):TS:=
 (tSeq (tAsg (tC (.int 1)) (gName 1))
  (tSeq (tFor (jj (tCons (tOp cSub (tVar 0) (tC (.int 1))) tNil)) (gName 2)
  (tAsg (tOp cMul (tVar 1) (tC (.int 2))) (gName 1)))
  (tRet (tVar 1))))
theorem AV(h:lc K vs H Q E):pW K (eD9 Q) (start ["sign","bit","step"] vs) H:=by
 obtain⟨s,rfl,h1,h2,q⟩:=h;show pW K _ [some (.int s),none,none] H;unfold pW;symm;refine⟨s-1,rfl,by omega,by omega,?_⟩;refine m4 (fun i σ H'=>∃ sv:Option V,σ=[some (.int s),some (.int (2^i)),sv]/\H'=H) ⟨none,rfl,rfl⟩ ?_ ?_
 . rintro i σ H' hi ⟨sv,rfl,rfl⟩;symm;refine⟨.inr ⟨by decide,by decide⟩,?_⟩;simp[Int.pow_succ]
 . rintro σ H' ⟨sv,rfl,rfl⟩;symm;exact q
def woI(m s:Int):Int:=if stB m s=true then m-2^(s-1).toNat else m
def d8(K:Frag):Sp:=fun vs H Q _=>∃ m s:Int,vs=[.int m,.int s]/\s<=100000/\Q (.int (woI m s)) H
def oG(K:Frag):TS:=
 (tRet (tIf (tB (tCall (bT K) [] E0 (tCons (tVar 0) (tCons (tVar 1) tNil)))) (tOp cSub (tVar 0) (tCall (lc K) [] E0 (tCons (tVar 1) tNil))) (tVar 0)))
theorem zC(h:d8 K vs H Q E):oG K (eD9 Q) (start ["mask","sign"] vs) H:=by
 obtain⟨m,s,rfl,h2,q⟩:=h;show oG K _ [some (.int m),some (.int s)] H;unfold oG;symm;refine⟨m,s,rfl,_,rfl,?_⟩;unfold woI at q
 cases hb:stB m s with
 | false=>
  rw[hb,QT Qt] at q;exact iteF q
 | true=>
  rw[hb,Q6 rfl] at q;refine iteT ⟨s,rfl,?_,h2,?_⟩
  . unfold stB at hb;rw[Rk,QB] at hb;exact hb.1
  . symm;exact q
def bd(K:Frag):Sp:=fun vs H Q _=>∃ m s:Int,vs=[.int m,.int s]/\s<=100000/\Q (.bl (decide (woI m s=0))) H
def nD(K:Frag):TS:=
 (tRet (tOp (cEq K) (tCall (d8 K) [] E0 (tCons (tVar 0) (tCons (tVar 1) tNil))) (tC (.int 0))))
theorem yg(h:bd K vs H Q E):nD K (eD9 Q) (start ["mask","sign"] vs) H:=by
 obtain⟨m,s,rfl,h2,q⟩:=h;show nD K _ [some (.int m),some (.int s)] H;unfold nD;symm;refine⟨m,s,rfl,h2,?_⟩;symm;exact q
def sgL(m:Int):List Int:=((List.range (Builtin.Int.intBits m)).filter fun(i:Nat)=>stB m (1+(i:Int))).map fun(i:Nat)=>1+(i:Int)
def aP(K:Frag):Sp:=fun vs H Q _=>∃ m:Int,vs=[.int m]/\Builtin.Int.intBits m<=900/\∀ l H',Same H H'->H l=none->H' l=some (.lst ((sgL m).map V.int))->Q (.ref l) H'
def nE(K:Frag):TS:=
 (tRet (tComp [none,none,some 0] (qy (tCons (tC (.int 1)) (tCons (tOp cAdd (uz K "int" oo (tVar 0)) (tC (.int 1))) tNil))) (gName 1) (tB (tCall (bT K) [] E0 (tCons (tVar 2) (tCons (tVar 1) tNil)))) (tVar 1)))
theorem yh(h:aP K vs H Q E):nE K (eD9 Q) (start ["mask"] vs) H:=by
 obtain⟨m,rfl,hb,k⟩:=h;show nE K _ [some (.int m)] H;unfold nE;symm;refine⟨rfl,1,_,rfl,by omega,?_⟩;have en:(((Builtin.Int.intBits m:Nat):Int)+1-1).toNat=Builtin.Int.intBits m:=by omega
 rw[en];refine yb (fun(i:Nat)=>stB m (1+(i:Int))) (fun(i:Nat)=>1+(i:Int)) hb ?_ ?_ ?_
 . intro i H1 R hi s1 k1;show tB _ [none,some (.int (1+(i:Int))),some (.int m)] H1 R;symm;exact⟨m,_,rfl,_,rfl,k1 _ (Qy _)⟩
 . intro i H1 Q1 hi hb s1 k1;show tVar 1 [none,some (.int (1+(i:Int))),some (.int m)] H1 Q1;exact⟨_,rfl,k1 _ (Qy _)⟩
 . intro l H1 hl s1 el;exact k l H1 s1 hl el
local macro_rules | `(tactic| walk_at "w")=>`(tactic| (first | simp only [aL,k8,nh,gk,k9,jh,ji,ni,nc,k7,ng,if_true,if_false,Bool.false_eq_true,decide_true,decide_false,gN,gO,lY,dZ,dg,gL,jq,gM,dX,jo,jp,dW,lV,d0,d2,d4,d5,d6,d7,d3,jr,js,jt,jm,lX,Bool.not_true,Bool.not_false,dJ,cp,bo,gI,w_c,iN,dG,e7,dL,e8,w_b,w_not,im,lj,fc,fe,io,gJ,dM,lm,ff,ip,gK,kf,iq,dN,fg,fh,fj,c9,da,cq,cr,cu,b8,iu,iw,iy,iz,iA,iB,iC,iD,iE,iF,iG,iH,lp,fk,cw,fm,lq,fq,db,cy,iI,iJ,ft,fu,fv,
 List.getElem?_cons_zero,List.getElem?_cons_succ,Option.some.injEq,exists_eq_left',exists_eq_left,List.set_cons_zero,List.set_cons_succ,ce,V.int.injEq,V.bl.injEq,V.ref.injEq,V.str.injEq,List.append_nil,List.nil_append,List.cons_append] | dsimp only | skip))
inductive TK where
 | clue | only | place | count | step | sum | square | reach | turn | pair | ways
 deriving DecidableEq
def tkC:TK->List Nat
 | .clue=>[99,108,117,101]
 | .only=>[111,110,108,121]
 | .place=>[112,108,97,99,101]
 | .count=>[99,111,117,110,116]
 | .step=>[115,116,101,112]
 | .sum=>[115,117,109]
 | .square=>[115,113,117,97,114,101]
 | .reach=>[114,101,97,99,104]
 | .turn=>[116,117,114,110]
 | .pair=>[112,97,105,114]
 | .ways=>[119,97,121,115]
def gt_KINDS:List Str:=[tx [99,108,117,101],tx [111,110,108,121],tx [112,108,97,99,101],tx [99,111,117,110,116],tx [115,116,101,112],tx [115,117,109],tx [115,113,117,97,114,101],tx [114,101,97,99,104],tx [116,117,114,110],tx [112,97,105,114],tx [119,97,121,115]]
def iK:List Str:=[tx [99,108,117,101],tx [111,110,108,121],tx [112,108,97,99,101],tx [115,116,101,112],tx [112,97,105,114]]
def ga:List Str:=[tx [99,111,117,110,116],tx [115,117,109],tx [119,97,121,115]]
def gd_RULES_OF_KIND:List (Str × List Str):=[(tx [111,110,108,121],[tx [117,110,108,105,107,101]]),(tx [112,108,97,99,101],[tx [117,110,108,105,107,101]]),(tx [99,111,117,110,116],[tx [99,111,117,110,116]]),(tx [115,116,101,112],[tx [114,105,115,105,110,103]]),(tx [115,117,109],[tx [115,117,109]]),(tx [115,113,117,97,114,101],[tx [110,111,115,113,117,97,114,101]]),(tx [114,101,97,99,104],[tx [106,111,105,110,101,100],tx [114,105,110,103]]),(tx [116,117,114,110],[tx [114,105,110,103]]),(tx [112,97,105,114],[tx [117,110,108,105,107,101]])]
def wsOf:TK->List Str
 | .only=>[tx [117,110,108,105,107,101]]
 | .place=>[tx [117,110,108,105,107,101]]
 | .count=>[tx [99,111,117,110,116]]
 | .step=>[tx [114,105,115,105,110,103]]
 | .sum=>[tx [115,117,109]]
 | .square=>[tx [110,111,115,113,117,97,114,101]]
 | .reach=>[tx [106,111,105,110,101,100],tx [114,105,110,103]]
 | .turn=>[tx [114,105,110,103]]
 | .pair=>[tx [117,110,108,105,107,101]]
 | _=>[]
def goesB:TK->RK->Bool
 | .ways,_=>true
 | .only,.Unlike=>true
 | .place,.Unlike=>true
 | .count,.Count=>true
 | .step,.Rising=>true
 | .sum,.Sum=>true
 | .square,.NoSquare=>true
 | .reach,.Joined=>true
 | .reach,.Ring=>true
 | .turn,.Ring=>true
 | .pair,.Unlike=>true
 | _,_=>false
def lineK:TK->Bool
 | .clue=>true
 | .only=>true
 | .place=>true
 | .step=>true
 | .pair=>true
 | _=>false
def nbrK:TK->Bool
 | .count=>true
 | .sum=>true
 | .ways=>true
 | _=>false
theorem BY(t:TK):decide (tx (tkC t)∈gt_KINDS)=true:=by cases t <;> decide+kernel
theorem CT(t:TK):decide (tx (tkC t)∈iK)=lineK t:=by cases t <;> decide+kernel
theorem D4(t:TK):decide (tx (tkC t)∈ga)=nbrK t:=by cases t <;> decide+kernel
variable{t:TK}
theorem EH(h1:t≠.clue)(h2:t≠.ways):gd_RULES_OF_KIND.lookup (tx (tkC t))=some (wsOf t):=by
 cases t <;> first | exact absurd rfl h1 | exact absurd rfl h2 | decide+kernel
theorem CU(h2:t≠.ways)(k:RK):decide (tx (nmC k)∈wsOf t)=goesB t k:=by
 cases t <;> first | exact absurd rfl h2 | (cases k <;> decide+kernel)
theorem CV(t:TK):decide (tkC t=[119,97,121,115])=decide (t=.ways):=by cases t <;> decide
theorem qJ(t:TK):decide (tkC t=[99,108,117,101])=decide (t=.clue):=by cases t <;> decide
theorem yV(t:TK):decide (tkC t=[111,110,108,121])=decide (t=.only):=by cases t <;> decide
def d9(K:Frag):Sp:=fun vs H Q _=>∃(p:Addr) (h w g i:Int),vs=[.ref p,.int i]/\IsFl H p h w g/\FlOk h w g/\Q (.bl (decide (0<=i)&&decide (i<h*w))) H
def oH(K:Frag):TS:=
 (tRet (tAndV (tCall (bp K) [] E0 (tCons (tVar 1) tNil)) (tAndV (tOp (cCmp fun i j=>decide (i<=j)) (tC (.int 0)) (tVar 1)) (tOp (cCmp fun i j=>decide (i<j)) (tVar 1) (tCall (aU K) [] E0 (tCons (tVar 0) tNil))))))
variable{K:Frag}{vs:List V}{H:Hp}{Q:VK}{E:XK}
theorem zD(h:d9 K vs H Q E):oH K (eD9 Q) (start ["floor","value"] vs) H:=by
 obtain⟨p,h,w,g,i,rfl,hp,F,q⟩:=h;show oH K _ [some (.ref p),some (.int i)] H;unfold oH;symm;refine⟨i,rfl,⟨true,rfl,iteT ?_⟩⟩;symm
 cases hb:decide (0<=i) with
 | false=>
  rw[hb,QJ] at q;exact iteF q
 | true=>
  rw[hb,QL] at q;refine iteT ?_;symm;refine⟨p,h,w,g,rfl,hp,F.h0,F.h1,?_⟩;symm;exact q
def eh(K:Frag):Sp:=fun vs H Q _=>∃(p:Addr) (h w g i:Int),vs=[.ref p,.int i]/\IsFl H p h w g/\Q (.bl (decide (1<=i)&&decide (i<=g))) H
def oI(K:Frag):TS:=
 (tRet (tCall (bg K) [] E0 (tCons (tVar 1) (tCons (tOp cIx (tVar 0) (tC (.int 2))) tNil))))
theorem zE(h:eh K vs H Q E):oI K (eD9 Q) (start ["floor","value"] vs) H:=by
 obtain⟨p,h,w,g,i,rfl,hp,q⟩:=h;show oI K _ [some (.ref p),some (.int i)] H;unfold oI;symm;refine ixT hp (v:=V.int g) rfl ?_;symm;exact⟨i,g,rfl,q⟩
def eF(K:Frag)(c:RCl RK):Sp:=fun vs H Q _=>∃(t:TK) (k:RK) (r p:Addr) (ws:List (List Nat)) (cs:List Int) (n m:Int),vs=[.str (tx (tkC t)),.ref r]/\t≠.clue/\IsRule H c k r p (nmC k::ws) cs n m/\Q (.bl (goesB t k)) H
def oJ(K:Frag)(c:RCl RK):TS:=
 (tRet (tOrV (tOp (cEq K) (tVar 0) (tC (.str (tx [119,97,121,115])))) (tOp (rInS K) (aI c c.ok "name" (qI K c) (tVar 1) tNil) (tIxG K gd_RULES_OF_KIND (tVar 0)))))
variable{c:RCl RK}
theorem zF(h:eF K c vs H Q E):oJ K c (eD9 Q) (start ["kind","rule"] vs) H:=by
 obtain⟨t,k,r,p,ws,cs,n,m,rfl,t0,x,q⟩:=h;obtain⟨dx,W,C,h1,h2,h3⟩:=x.ex;show oJ K c _ [some (.str (tx (tkC t))),some (.ref r)] H;unfold oJ;symm;rw[bv,CV];by_cases hw:t=.ways
 . subst hw;rw[QA rfl];exact iteT q
 . rw[Qx hw];refine iteF ?_;refine methE (k:=k) rfl x.ok h1 (by rfl) ?_;symm;refine⟨r,p,nmC k,ws,cs,n,m,rfl,x,?_⟩;dsimp only;rw[EG];symm;refine⟨_,_,rfl,EH t0 hw,fun qa hq=>?_⟩;refine⟨_,qa,_,rfl,rfl,hq,?_⟩;rw[CU hw];exact q
def aQ(K:Frag)(c:RCl RK):Sp:=fun vs H Q _=>∃(k:RK) (r p:Addr) (ws:List (List Nat)) (cs:List Int) (n m z:Int),vs=[.ref r,.int z]/\IsRule H c k r p ws cs n m/\cs.length<=63/\∀ l H',Same H H'->H l=none->H' l=some (.lst ((cs.filter fun x=>!decide (x=z)).map V.int))->Q (.ref l) H'
def pX(K:Frag)(c:RCl RK):TS:=
 (tRet (tComp [none,none,some 1] (iList K (aI c c.ok "spots" (bF K c) (tVar 0) tNil)) (gName 1) (tTest (tOp (cNe K) (tVar 1) (tVar 2))) (tVar 1)))
theorem AW(h:aQ K c vs H Q E):pX K c (eD9 Q) (start ["rule","cell"] vs) H:=by
 obtain⟨k,r,p,ws,cs,n,m,z,rfl,x,hn,q⟩:=h;obtain⟨dx,W,C,h1,h2,h3⟩:=x.ex;show pX K c _ [some (.ref r),some (.int z)] H;unfold pX;rw[dG,cq];refine methE (k:=k) rfl x.ok h1 (by rfl) ?_;symm;refine⟨r,p,ws,cs,n,m,rfl,x,fun l hl=>?_⟩;obtain⟨H1,z9,s1,el⟩:=aY (.lst (cs.map V.int)) hl;rw[z9];refine⟨l,rfl,⟨_,QI el⟩,?_⟩;refine bu (xs:=cs) (fun x=>!decide (x=z)) (fun x=>x) (by omega) (QI el) ?_ ?_ ?_
 . intro y H2 R hy s2 k2;show tTest _ [none,some (.int y),some (.int z)] H2 R;symm;exact k2 _ (Qy _)
 . intro y H2 Q2 hy hb s2 k2;show tVar 1 [none,some (.int y),some (.int z)] H2 Q2;symm;exact k2 _ (Qy _)
 . intro T H2 hT s2 eT;rw[RT] at eT;exact q T H2 (s1.trans s2) (s1.free hT) eT
def hitB(t:TK)(Qj:List RR)(r z:Int):Bool:=if r<0 then false else if t=.clue then decide (r=0) else match Qj[r.toNat]? with
 | none=>false
 | some x=>goesB t x.k&&decide (z∈x.cs)
def dh(K:Frag)(c:RCl RK)(d:RCl PzK):Sp:=fun vs H Q _=>∃(t:TK) (P L G:Addr) (h w g r z:Int) (Qj:List RR) (cl:List Int),vs=[.ref P,.str (tx (tkC t)),.int r,.int z]/\IsPz H c d P L G h w g Qj cl/\∀ H',Same H H'->Q (.bl (hitB t Qj r z)) H'
def jF(K:Frag)(c:RCl RK)(d:RCl PzK):TS:=
 (tSeq (tIfS (tOr (tNot (tB (tCall (bp K) [] E0 (tCons (tVar 2) tNil)))) (tTest (tOp (cCmp fun i j=>decide (i<j)) (tVar 2) (tC (.int 0))))) (tRet (tC (.bl false))) tNext)
  (tSeq (tIfS (tTest (tOp (cEq K) (tVar 1) (tC (.str (tx [99,108,117,101]))))) (tRet (tOp (cEq K) (tVar 2) (tC (.int 0)))) tNext)
  (tSeq (tAsg (aI d d.ok "rules" (bq K c d) (tVar 0) tNil) (gName 4))
  (tSeq (tIfS (tTest (tOp (cCmp fun i j=>decide (j<=i)) (tVar 2) (tCB kLen (tCons (tVar 4) tNil)))) (tRet (tC (.bl false))) tNext)
  (tRet (tAndV (tCall (eF K c) [] E0 (tCons (tVar 1) (tCons (tOp cIx (tVar 4) (tVar 2)) tNil))) (tOp (cIn K false) (tVar 3) (aI c c.ok "spots" (bF K c) (tOp cIx (tVar 4) (tVar 2)) tNil))))))))
theorem RR.ws_cons(r:RR):∃ t,r.ws=nmC r.k::t:=⟨_,rfl⟩
variable{d:RCl PzK}
theorem tH(h:dh K c d vs H Q E):jF K c d (eD9 Q) (start ["puzzle","kind","number","cell","rules"] vs) H:=by
 obtain⟨t,P,L,G,h,w,g,r,z,Qj,cl,rfl,x,q⟩:=h;obtain⟨dx,p,rs,h1,h2,h3⟩:=x.ex;have hN:=x.R.F.m;show jF K c d _ [some (.ref P),some (.str (tx (tkC t))),some (.int r),some (.int z),none] H;unfold jF;rw[aL,aA];symm;refine⟨r,rfl,⟨true,rfl,iteF ?_⟩⟩;symm;unfold hitB at q;by_cases hr:r<0
 . rw[Q6 hr] at q;rw[QA hr];exact iteT (q _ (Qy _))
 rw[QT hr] at q;rw[Qx hr];refine iteF ?_;rw[aA];symm;rw[bv,qJ];by_cases ht:t=.clue
 . rw[Q6 ht] at q;rw[QA ht];exact iteT (q _ (Qy _))
 rw[QT ht] at q;rw[Qx ht];refine iteF ?_;refine methE (k:=.Puzzle) rfl x.ok h1 (by rfl) ?_;symm;refine⟨P,L,G,h,w,g,Qj,cl,rfl,x,fun l p2 rs2 hl hp2 X=>?_⟩;have s1:Same H (upd H l (.lst (rs2.map V.ref))):=(Qy H).laid hl;generalize upd H l (.lst (rs2.map V.ref))=H1 at*;have Qq:=X.len;symm;rw[aA];symm;rw[bt X.top,Qu,Qq];symm;by_cases hge:(Qj.length:Int)<=r
 . rw[QA hge];have e:Qj[r.toNat]? =none:=Q7 (by omega);rw[e] at q;exact iteT (q _ s1)
 rw[Qx hge];have hlt:r.toNat<Qj.length:=by omega
 have er:Qj[r.toNat]? =some Qj[r.toNat]:=Qv hlt;rw[er] at q;have ea:rs2[r.toNat]? =some rs2[r.toNat]:=Qv (by omega);have X1:=X.at_ _ _ _ ea er;obtain⟨ws,ews⟩:=RR.ws_cons Qj[r.toNat];rw[ews] at X1;have eix:atI (rs2.map V.ref) r=some (V.ref rs2[r.toNat]):=gh (by omega) ea;refine iteF ?_;refine ixL X.top eix ?_;symm;refine⟨t,_,_,p2,ws,_,_,_,rfl,ht,X1,?_⟩;dsimp only at q
 cases hg:goesB t Qj[r.toNat].k with
 | false=>
  rw[hg,QJ] at q;exact⟨false,rfl,iteF (q _ s1)⟩
 | true=>
  rw[hg,QL] at q;refine⟨true,rfl,iteT ?_⟩;unfold aI;symm;obtain⟨dx1,W1,C1,g1,g2,g3⟩:=X1.ex;refine ixL X.top eix ?_;refine⟨_,Qj[r.toNat].k,dx1,_,rfl,X1.ok,g1,by rfl,?_⟩;refine⟨_,p2,_,_,_,_,rfl,X1,fun S hS=>?_⟩;have s2:Same H1 (upd H1 S (.lst (Qj[r.toNat].cs.map V.int))):=(Qy H1).laid hS;have eS:(upd H1 S (.lst (Qj[r.toNat].cs.map V.int))) S=some (.lst (Qj[r.toNat].cs.map V.int)):=ah;dsimp only;rw[mf eS];exact q _ (s1.trans s2)
structure IsTh(H:Hp)(T M:Addr)(t:TK)(r z s:Int)(ms:List Int):Prop where
 T:H T=some (.tup [.str (tx (tkC t)),.int r,.int z,.int s,.ref M])
 M:H M=some (.lst (ms.map V.int))
 n:ms.length<=100
variable{r z s:Int}{ms:List Int}
theorem IsTh.same{H':Hp}{T M:Addr}(x:IsTh H T M t r z s ms)(s':Same H H'):IsTh H' T M t r z s ms:=⟨s' _ _ x.T,s' _ _ x.M,x.n⟩
def formB(h w g:Int)(Qj:List RR)(t:TK)(r z s:Int):Bool:=(decide (0<=z)&&decide (z<h*w))&&((decide (1<=s)&&decide (s<=g))&&hitB t Qj r z)
def gt(K:Frag)(c:RCl RK)(d:RCl PzK):Sp:=fun vs H Q _=>∃(t:TK) (P L G T M:Addr) (h w g r z s:Int) (Qj:List RR) (cl ms:List Int),vs=[.ref P,.ref T]/\IsPz H c d P L G h w g Qj cl/\IsTh H T M t r z s ms/\∀ H',Same H H'->Q (.bl (formB h w g Qj t r z s)) H'
def jG(K:Frag)(c:RCl RK)(d:RCl PzK):TS:=
 (tRet (tAndV (tCB kIsi (tCons (tOp cIx (tVar 1) (tC (.int 4))) (tCons (tC (.ty "list")) tNil))) (tCB kAll (tCons (tComp [none,none] (iList K (tOp cIx (tVar 1) (tC (.int 4)))) (gName 1) tTrue (tCall (bp K) [] E0 (tCons (tVar 1) tNil))) tNil))))
def mC(K:Frag)(c:RCl RK)(d:RCl PzK):TS:=
 (tSeq (tIfS (tOr (tNot (tB (tCB kIsi (tCons (tVar 1) (tCons (tC (.ty "tuple")) tNil))))) (tOr (tTest (tOp (cNe K) (tCB kLen (tCons (tVar 1) tNil)) (tC (.int 5)))) (tB (tInG gt_KINDS true (tOp cIx (tVar 1) (tC (.int 0))))))) (tRet (tC (.bl false))) tNext)
  (tSeq (tAsg (aI d d.ok "place" (cA K c d) (tVar 0) tNil) (gName 2))
  (tSeq (tIfS (tOr (tNot (tB (tCall (d9 K) [] E0 (tCons (tVar 2) (tCons (tOp cIx (tVar 1) (tC (.int 2))) tNil))))) (tNot (tB (tCall (eh K) [] E0 (tCons (tVar 2) (tCons (tOp cIx (tVar 1) (tC (.int 3))) tNil)))))) (tRet (tC (.bl false))) tNext)
  (tSeq (tIfS (tNot (tB (tCall (dh K c d) [] E0 (tCons (tVar 0) (tCons (tOp cIx (tVar 1) (tC (.int 0))) (tCons (tOp cIx (tVar 1) (tC (.int 1))) (tCons (tOp cIx (tVar 1) (tC (.int 2))) tNil))))))) (tRet (tC (.bl false))) tNext)
  (jG K c d)))))
theorem tI{P T M:Addr}{v2:Option V}(x:IsTh H T M t r z s ms)(q:∀ H',Same H H'->Q (.bl true) H'):
  jG K c d (eD9 Q) [some (.ref P),some (.ref T),v2] H:=by
 have hn:=x.n;unfold jG;symm;refine ixT x.T (v:=V.ref M) rfl ?_;symm;refine sV x.M ?_;symm;refine ixT x.T (v:=V.ref M) rfl ?_;symm;refine⟨⟨_,QI x.M⟩,?_⟩;refine bY (xs:=ms.map V.int) (fun _=>true) (fun _=>.bl true) (by rw[Qu];omega) (QI x.M) ?_ ?_ ?_
 . intro i y H1 R hy s1 k1;exact k1 _ (Qy _)
 . intro i y H1 Q1 hy hb s1 k1;obtain⟨v,hv,rfl⟩:=aS hy;show tCall _ _ _ _ [none,some (.int v)] H1 Q1;symm;exact⟨v,rfl,k1 _ (Qy _)⟩
 . intro l H1 hl s1 el
   have eb:((List.range (ms.map V.int).length).filter fun _=>true).map (fun _=>V.bl true)=(List.replicate (ms.map V.int).length true).map V.bl:=by
    rw[bf,List.map_const',RH,Te]
   rw[eb] at el;refine lW el ?_
   have ea:(List.replicate (ms.map V.int).length true).all id=true:=by
    rw[QO];intro b hb;exact(Tf.mp hb).2
   rw[ea];exact q _ s1
theorem xa(h:gt K c d vs H Q E):mC K c d (eD9 Q) (start ["puzzle","thought","floor"] vs) H:=by
 obtain⟨t,P,L,G,T,M,h,w,g,r,z,s,Qj,cl,ms,rfl,x,y,q⟩:=h;obtain⟨dx,p,rs,h1,h2,h3⟩:=x.ex;show mC K c d _ [some (.ref P),some (.ref T),none] H;unfold mC;rw[aL,aA];symm;refine sW y.T ?_;symm;rw[sP y.T,show(([.str (tx (tkC t)),.int r,.int z,.int s,.ref M]:List V).length:Int)=5 from rfl];symm;refine ixT y.T (v:=V.str (tx (tkC t))) rfl ?_;symm;rw[BY];symm;refine methE (k:=.Puzzle) rfl x.ok h1 (by rfl) ?_;symm;refine⟨P,L,G,h,w,g,Qj,cl,rfl,x,fun p1 hp1=>?_⟩;symm;rw[aA];symm;refine ixT y.T (v:=V.int z) rfl ?_;symm;refine⟨p1,h,w,g,z,rfl,hp1,x.R.F,?_⟩;unfold formB at q
 cases hb:(decide (0<=z)&&decide (z<h*w)) with
 | false=>
  rw[hb,QJ] at q;exact⟨false,rfl,iteT (q _ (Qy _))⟩
 | true=>
  rw[hb,QL] at q;refine⟨true,rfl,iteF ?_⟩;refine ixT y.T (v:=V.int s) rfl ?_;symm;refine⟨p1,h,w,g,s,rfl,hp1,?_⟩
  cases hb2:(decide (1<=s)&&decide (s<=g)) with
  | false=>
   rw[hb2,QJ] at q;exact⟨false,rfl,iteT (q _ (Qy _))⟩
  | true=>
   rw[hb2,QL] at q;refine⟨true,rfl,iteF ?_⟩;rw[aA];symm;refine ixT y.T (v:=V.str (tx (tkC t))) rfl ?_;symm;refine ixT y.T (v:=V.int r) rfl ?_;symm;refine ixT y.T (v:=V.int z) rfl ?_;symm;refine⟨t,P,L,G,h,w,g,r,z,Qj,cl,rfl,x,fun H1 s1=>?_⟩
   cases hb3:hitB t Qj r z with
   | false=>
    rw[hb3] at q;exact⟨false,rfl,iteT (q _ s1)⟩
   | true=>
    rw[hb3] at q;refine⟨true,rfl,iteF ?_⟩;exact tI (y.same s1) fun H' s2=>q H' (s1.trans s2)
abbrev nsV(cs:List Nat):List V:=(cs.map fun(n:Nat)=>(n:Int)).map V.int
theorem rJ(xs:List V){k:Int}(h:0<=k):cutV xs none (some k)=xs.take k.toNat:=by
 unfold cutV;have e:k=((k.toNat:Nat):Int):=by omega
 have h1:HT.sIx xs.length 0 none=0:=rfl
 have h2:HT.sIx xs.length xs.length (some k)=min k.toNat xs.length:=by
  conv=>lhs;rw[e]
  exact HT.sIx_nat ..
 rw[h1,h2];show(xs.drop 0).take _=_;rw[List.drop_zero];by_cases hk:k.toNat<=xs.length
 . rw[TN hk];rfl
 . rw[SL (by omega),Ry (by omega),Ry (by omega)]
theorem AX{k:RK}{h w g:Int}{m:Nat}(hk:allK k=true)(k0:k≠.Rule)(hn:numK k=false)(hs:sgnK k=true)(m0:1<=(m:Int))(m1:(m:Int)<=g):RR.Ok ⟨k,0,m,[],rngL 0 (h*w)⟩ h w g:=by
 refine⟨k0,Rx _,fun _=>rfl,fun _=>⟨m0,m1⟩,fun e=>?_,⟨fun e=>?_,fun _=>⟨rfl,rfl⟩⟩,fun x hx=>(by cases hx),Rx _⟩
 . rw[show sgnK k=false from e] at hs;cases hs
 . rw[show allK k=false from e] at hk;cases hk
def clueB(cl:List Int)(z s:Int)(ms:List Int):Bool:=decide (ms=[])&&(!decide (cl.getD z.toNat 0=0)&&!decide (cl.getD z.toNat 0=s))
def di(K:Frag):Sp:=fun vs H Q _=>∃(C M:Addr) (z s:Int) (cl ms:List Int),vs=[.ref C,.int z,.int s,.ref M]/\H C=some (.lst (cl.map V.int))/\0<=z/\z<cl.length/\H M=some (.lst (ms.map V.int))/\∀ H',Same H H'->Q (.bl (clueB cl z s ms)) H'
def jH(K:Frag):TS:=
 (tRet (tAndV (tOp (cEq K) (tVar 3) (tLst tNil)) (tAndV (tOp (cNe K) (tOp cIx (tVar 0) (tVar 1)) (tC (.int 0))) (tOp (cNe K) (tOp cIx (tVar 0) (tVar 1)) (tVar 2)))))
theorem tJ(h:di K vs H Q E):jH K (eD9 Q) (start ["clues","cell","sign","more"] vs) H:=by
 obtain⟨C,M,z,s,cl,ms,rfl,hC,z0,z1,hM,q⟩:=h;show jH K _ [some (.ref C),some (.int z),some (.int s),some (.ref M)] H;unfold jH;symm;refine⟨aT (by decide),fun l hl=>?_⟩;obtain⟨H1,z9,s1,el⟩:∃ z,upd H l (.lst [])=z/\Same H z/\z l=some (.lst (([]:List Int).map V.int)):=aY _ hl;rw[z9];refine qD (s1 _ _ hM) el ?_;have q1:=q _ s1;unfold clueB at q1
 cases hb:decide (ms=[]) with
 | false=>
  rw[hb,QJ] at q1;exact⟨false,rfl,iteF q1⟩
 | true=>
  rw[hb,QL] at q1;refine⟨true,rfl,iteT ?_⟩;symm;refine ixI (s1 _ _ hC) z0 z1 ?_;symm
  cases hb2:decide (cl.getD z.toNat 0=0) with
  | true=>
   rw[hb2,Sc,QJ] at q1;exact iteF q1
  | false=>
   rw[hb2,Sl,QL] at q1;refine iteT ?_;refine ixI (s1 _ _ hC) z0 z1 ?_;symm;exact q1
def onlyB(cs Qh:List Int)(z s:Int)(ms:List Int):Bool:=decide (ms.length=1)&&(decide (ms.getD 0 0∈cs.filter fun x=>!decide (x=z))&&decide (woI (Qh.getD (ms.getD 0 0).toNat 0) s=0))
def dj(K:Frag)(c:RCl RK):Sp:=fun vs H Q _=>∃(k:RK) (r p A M:Addr) (ws:List (List Nat)) (cs Qh ms:List Int) (n m z s:Int),vs=[.ref r,.ref A,.int z,.int s,.ref M]/\IsRule H c k r p ws cs n m/\aN cs Qh.length/\H A=some (.lst (Qh.map V.int))/\H M=some (.lst (ms.map V.int))/\s<=1000/\∀ H',Same H H'->Q (.bl (onlyB cs Qh z s ms)) H'
def jI(K:Frag)(c:RCl RK):TS:=
 (tRet (tAndV (tOp (cEq K) (tCB kLen (tCons (tVar 4) tNil)) (tC (.int 1))) (tAndV (tOp (cIn K false) (tOp cIx (tVar 4) (tC (.int 0))) (tCall (aQ K c) [] E0 (tCons (tVar 0) (tCons (tVar 2) tNil)))) (tCall (bd K) [] E0 (tCons (tOp cIx (tVar 1) (tOp cIx (tVar 4) (tC (.int 0)))) (tCons (tVar 3) tNil))))))
theorem tK(h:dj K c vs H Q E):jI K c (eD9 Q) (start ["rule","masks","cell","sign","more"] vs) H:=by
 obtain⟨k,r,p,A,M,ws,cs,Qh,ms,n,m,z,s,rfl,x,hC,hA,hM,hs,q⟩:=h;show jI K c _ [some (.ref r),some (.ref A),some (.int z),some (.int s),some (.ref M)] H;unfold jI;symm;rw[bt hM,Qu];symm;unfold onlyB at q
 have e1:decide ((ms.length:Int)=1)=decide (ms.length=1):=by
  rw[Q0,QB,QB];omega
 rw[e1]
 cases hb:decide (ms.length=1) with
 | false=>
  rw[hb,QJ] at q;exact iteF (q _ (Qy _))
 | true=>
  rw[hb,QL] at q;have hl:=QU hb;refine iteT ?_;refine ixI hM (by decide) (by omega) ?_;rw[show(0:Int).toNat=0 from rfl];symm;refine⟨k,r,p,ws,cs,n,m,z,rfl,x,hC.1,fun l H1 s1 hl1 el=>?_⟩;dsimp only;rw[mf el]
  cases hb2:decide (ms.getD 0 0∈cs.filter fun x=>!decide (x=z)) with
  | false=>
   rw[hb2,QJ] at q;exact⟨false,rfl,iteF (q _ s1)⟩
  | true=>
   rw[hb2,QL] at q;have hm:=QW.mp (QU hb2);have hc:=hC.2 _ hm.1;refine⟨true,rfl,iteT ?_⟩;symm;refine ixI (s1 _ _ hM) (by decide) (by omega) ?_;rw[show(0:Int).toNat=0 from rfl];symm;refine ixI (s1 _ _ hA) hc.1 hc.2 ?_;symm;exact⟨_,s,rfl,by omega,q _ s1⟩
theorem RR.cin22{r:RR}{h w g:Int}(O:r.Ok h w g)(F:FlOk h w g):aN r.cs (h*w).toNat:=by
 obtain⟨h0,h1,w0,w1,m16,g0,g1⟩:=id F;have mpos:0<=h*w:=SB (by omega) (by omega)
 cases hk:allK r.k with
 | false=>
  obtain⟨c1,c2,c3,c4,e⟩:=O.cl.told hk;rw[e];refine⟨by rw[Qu];omega,fun c hc=>?_⟩;obtain⟨n,hn,rfl⟩:=QS.mp hc;have:=c3 n hn;omega
 | true=>
  obtain⟨_,e⟩:=O.cl.all hk;rw[e];refine⟨by rw[kg];omega,fun c hc=>?_⟩;have:=uL hc;omega
abbrev Tt:=@RR.cin22
structure Asks(H:Hp)(c:RCl RK)(d:RCl PzK)(P L G A T M:Addr)(h w g:Int)(Qj:List RR)(cl Qh:List Int)(t:TK)(r z s:Int)(ms:List Int):Prop where
 P:IsPz H c d P L G h w g Qj cl
 T:IsTh H T M t r z s ms
 A:H A=some (.lst (Qh.map V.int))
 n:Qh.length=(h*w).toNat
variable{Qj:List RR}
theorem Asks.same{H':Hp}{P L G A T M:Addr}{h w g:Int}{cl Qh:List Int}(x:Asks H c d P L G A T M h w g Qj cl Qh t r z s ms)(s':Same H H'):Asks H' c d P L G A T M h w g Qj cl Qh t r z s ms:=⟨x.P.same s',x.T.same s',s' _ _ x.A,x.n⟩
theorem gu{h w g:Int}(f:formB h w g Qj t r z s=true):0<=z/\z<h*w/\1<=s/\s<=g/\hitB t Qj r z=true:=by
 unfold formB at f;simp only[Rk,QB] at f;exact⟨f.1.1,f.1.2,f.2.1.1,f.2.1.2,f.2.2⟩
theorem qK(ht:t≠.clue)(f:hitB t Qj r z=true):0<=r/\∃ x,Qj[r.toNat]? =some x/\goesB t x.k=true/\z∈x.cs:=by
 unfold hitB at f;by_cases hr:r<0
 . rw[Q6 hr] at f;cases f
 rw[QT hr,QT ht] at f
 cases e:Qj[r.toNat]? with
 | none=>rw[e] at f;cases f
 | some x=>
  rw[e] at f;simp only[Rk,QB] at f;exact⟨by omega,x,rfl,f.1,f.2⟩
def aZ(K:Frag):Sp:=fun vs H Q _=>∃(A C:Addr) (Qh cs:List Int),vs=[.ref A,.ref C]/\H A=some (.lst (Qh.map V.int))/\H C=some (.lst (cs.map V.int))/\aN cs Qh.length/\∀ l H',Same H H'->H l=none->H' l=some (.lst ((sgAt Qh cs).map V.int))->Q (.ref l) H'
def nG(K:Frag):TS:=
 (tRet (tComp [none,none,some 0] (iList K (tVar 1)) (gName 1) tTrue (tOp cIx (tVar 2) (tVar 1))))
theorem yj(h:aZ K vs H Q E):nG K (eD9 Q) (start ["masks","cells"] vs) H:=by
 obtain⟨A,C,Qh,cs,rfl,hA,hC,⟨hn,hc⟩,q⟩:=h;show nG K _ [some (.ref A),some (.ref C)] H;unfold nG;symm;refine⟨⟨_,QI hC⟩,?_⟩;refine bu (xs:=cs) (fun _=>true) (fun c=>Qh.getD c.toNat 0) (by omega) (QI hC) ?_ ?_ ?_
 . intro x H1 R hx s1 k1;exact k1 _ (Qy _)
 . intro z H1 Q1 hz hb s1 k1;show tOp cIx _ _ [none,some (.int z),some (.ref A)] H1 Q1;symm;have:=hc z hz;exact ixI (s1 _ _ hA) this.1 (by omega) (k1 _ (Qy _))
 . intro l H1 hl s1 el;rw[bf] at el;exact q l H1 s1 hl el
def bV(K:Frag):Sp:=fun vs H Q _=>∃(C:Addr) (ms:List Int) (s:Int),vs=[.ref C,.int s]/\H C=some (.lst (ms.map V.int))/\ms.length<=63/\∀ H',Same H H'->Q (.int ((ms.filter fun m=>stB m s).length:Nat)) H'
def nI(K:Frag):TS:=
 (tRet (tCB kLen (tCons (tComp [none,none,some 1] (iList K (tVar 0)) (gName 1) (tB (tCall (bT K) [] E0 (tCons (tVar 1) (tCons (tVar 2) tNil)))) (tVar 1)) tNil)))
theorem yn(h:bV K vs H Q E):nI K (eD9 Q) (start ["some","sign"] vs) H:=by
 obtain⟨C,ms,s,rfl,hC,hn,q⟩:=h;show nI K _ [some (.ref C),some (.int s)] H;unfold nI;symm;refine⟨⟨_,QI hC⟩,?_⟩;refine bu (xs:=ms) (fun m=>stB m s) (fun m=>m) (by omega) (QI hC) ?_ ?_ ?_
 . intro x H1 R hx s1 k1;show tB _ [none,some (.int x),some (.int s)] H1 R;symm;exact⟨x,s,rfl,_,rfl,k1 _ (Qy _)⟩
 . intro z H1 Q1 hz hb s1 k1;show tVar 1 [none,some (.int z),some (.int s)] H1 Q1;symm;exact k1 _ (Qy _)
 . intro l H1 hl s1 el;rw[RT] at el;rw[bt el,Qu];exact q _ s1
def xb(g:Int)(cs Qh:List Int)(z s:Int)(ms:List Int):Bool:=decide ((cs.length:Int)=g)&&(decide (ms.length=1)&&(!decide (ms.getD 0 0=s)&&((decide (1<=ms.getD 0 0)&&decide (ms.getD 0 0<=g))&&decide (((sgAt Qh (cs.filter fun x=>!decide (x=z))).filter fun m=>stB m (ms.getD 0 0)).length=0))))
def cV(K:Frag)(c:RCl RK):Sp:=fun vs H Q _=>∃(k:RK) (f r p A M:Addr) (ws:List (List Nat)) (cs Qh ms:List Int) (n m z s h w g:Int),vs=[.ref f,.ref r,.ref A,.int z,.int s,.ref M]/\IsFl H f h w g/\IsRule H c k r p ws cs n m/\aN cs Qh.length/\H A=some (.lst (Qh.map V.int))/\H M=some (.lst (ms.map V.int))/\∀ H',Same H H'->Q (.bl (xb g cs Qh z s ms)) H'
def fK(K:Frag)(c:RCl RK):TS:=
 (tRet (tOp (cEq K) (tCall (bV K) [] E0 (tCons (tCall (aZ K) [] E0 (tCons (tVar 2) (tCons (tCall (aQ K c) [] E0 (tCons (tVar 1) (tCons (tVar 3) tNil))) tNil))) (tCons (tOp cIx (tVar 5) (tC (.int 0))) tNil))) (tC (.int 0))))
def kb(K:Frag)(c:RCl RK):TS:=
 (tSeq (tIfS (tOr (tTest (tOp (cEq K) (tOp cIx (tVar 5) (tC (.int 0))) (tVar 4))) (tNot (tB (tCall (eh K) [] E0 (tCons (tVar 0) (tCons (tOp cIx (tVar 5) (tC (.int 0))) tNil)))))) (tRet (tC (.bl false))) tNext)
  (fK K c))
def iW(K:Frag)(c:RCl RK):TS:=
 (tSeq (tIfS (tOr (tTest (tOp (cNe K) (tCB kLen (tCons (aI c c.ok "spots" (bF K c) (tVar 1) tNil) tNil)) (tOp cIx (tVar 0) (tC (.int 2))))) (tTest (tOp (cNe K) (tCB kLen (tCons (tVar 5) tNil)) (tC (.int 1))))) (tRet (tC (.bl false))) tNext)
  (kb K c))
theorem pi {k:RK} {f r p A M:Addr} {ws:List (List Nat)} {cs Qh:List Int} {n m:Int} (x:IsRule H c k r p ws cs n m) (hC:aN cs Qh.length) (hA:H A=some (.lst (Qh.map V.int))) (hM:H M=some (.lst (ms.map V.int))) (hl:ms.length=1)
  (q:∀ H',Same H H'->Q (.bl (decide (((sgAt Qh (cs.filter fun x=>!decide (x=z))).filter fun m=>stB m (ms.getD 0 0)).length=0))) H'):
  fK K c (eD9 Q) [some (.ref f),some (.ref r),some (.ref A),some (.int z),some (.int s),some (.ref M)] H:=by
 unfold fK;symm;refine⟨k,r,p,ws,cs,n,m,z,rfl,x,hC.1,fun O H1 s1 hO eO=>?_⟩;symm;have hC2:aN (cs.filter fun x=>!decide (x=z)) Qh.length:=⟨QG (QE _ _) hC.1,fun y hy=>hC.2 y (QW.mp hy).1⟩;refine⟨A,O,Qh,_,rfl,s1 _ _ hA,eO,hC2,fun B H2 s2 hB eB=>?_⟩;dsimp only;refine ixI ((s1.trans s2) _ _ hM) (by decide) (by omega) ?_;rw[show(0:Int).toNat=0 from rfl];symm;refine⟨B,_,_,rfl,eB,by unfold sgAt;rw[Qu];exact hC2.1,fun H3 s3=>?_⟩;symm;have q1:=q H3 ((s1.trans s2).trans s3)
 have e:decide ((((sgAt Qh (cs.filter fun x=>!decide (x=z))).filter fun m=>stB m (ms.getD 0 0)).length:Int)=0)=decide (((sgAt Qh (cs.filter fun x=>!decide (x=z))).filter fun m=>stB m (ms.getD 0 0)).length=0):=by
  rw[Q0,QB,QB];omega
 rw[e];exact q1
theorem rK(h:cV K c vs H Q E):iW K c (eD9 Q) (start ["floor","rule","masks","cell","sign","more"] vs) H:=by
 obtain⟨k,f,r,p,A,M,ws,cs,Qh,ms,n,m,z,s,h,w,g,rfl,hf,x,hC,hA,hM,q⟩:=h;obtain⟨dx,W,C,h1,h2,h3⟩:=x.ex;show iW K c _ [some (.ref f),some (.ref r),some (.ref A),some (.int z),some (.int s),some (.ref M)] H;unfold iW;rw[aL,aA];symm;refine methE (k:=k) rfl x.ok h1 (by rfl) ?_;symm;refine⟨r,p,ws,cs,n,m,rfl,x,fun l hl=>?_⟩;obtain⟨H1,z9,s1,el⟩:=aY (.lst (cs.map V.int)) hl;rw[z9]
 try dsimp only
 rw[bt el,Qu];refine ixT (s1 _ _ hf) (v:=V.int g) rfl ?_;symm;unfold xb at q
 cases hb:decide ((cs.length:Int)=g) with
 | false=>
  rw[hb,QJ] at q;symm;exact q _ s1
 | true=>
  rw[hb,QL] at q;symm;rw[bt (s1 _ _ hM),Qu];symm
  have e1:decide ((ms.length:Int)=1)=decide (ms.length=1):=by
   rw[Q0,QB,QB];omega
  rw[e1]
  cases hb2:decide (ms.length=1) with
  | false=>
   rw[hb2,QJ] at q;symm;exact q _ s1
  | true=>
   rw[hb2,QL] at q;have hl1:=QU hb2;symm;unfold kb;rw[aL,aA];symm;refine ixI (s1 _ _ hM) (by decide) (by omega) ?_;rw[show(0:Int).toNat=0 from rfl];symm
   cases hb3:decide (ms.getD 0 0=s) with
   | true=>
    rw[hb3,Sc,QJ] at q;refine iteT ?_;symm;exact q _ s1
   | false=>
    rw[hb3,Sl,QL] at q;refine iteF ?_;refine ixI (s1 _ _ hM) (by decide) (by omega) ?_;rw[show(0:Int).toNat=0 from rfl];symm;refine⟨f,h,w,g,_,rfl,s1 _ _ hf,?_⟩
    cases hb4:(decide (1<=ms.getD 0 0)&&decide (ms.getD 0 0<=g)) with
    | false=>
     rw[hb4,QJ] at q;refine⟨false,rfl,iteT ?_⟩;symm;exact q _ s1
    | true=>
     rw[hb4,QL] at q;refine⟨true,rfl,iteF ?_⟩;exact pi (x.same s1) hC (s1 _ _ hA) (s1 _ _ hM) hl1 fun H' s2=>q H' (s1.trans s2)
theorem xc(t:TK):decide (tkC t=[112,108,97,99,101])=decide (t=.place):=by cases t <;> decide
local macro_rules | `(tactic| walk_at "w")=>`(tactic| (first | simp only [aL,k8,nh,gk,k9,jh,ji,ni,nc,k7,ng,if_true,if_false,Bool.false_eq_true,decide_true,decide_false,gN,gO,lY,dZ,dg,gL,jq,gM,dX,jo,jp,dW,lV,d0,d2,d4,d5,d6,d7,d3,jr,js,jt,jm,lX,Bool.not_true,Bool.not_false,dJ,cp,bo,gI,w_c,iN,dG,e7,dL,e8,w_b,w_not,im,lj,fc,fe,io,gJ,dM,lm,ff,ip,gK,kf,iq,dN,fg,fh,fj,c9,da,cq,cr,cu,b8,iu,iw,iy,iz,iA,iB,iC,iD,iE,iF,iG,iH,lp,fk,cw,fm,lq,fq,db,cy,iI,iJ,ft,fu,fv,
 List.getElem?_cons_zero,List.getElem?_cons_succ,Option.some.injEq,exists_eq_left',exists_eq_left,List.set_cons_zero,List.set_cons_succ,ce,V.int.injEq,V.bl.injEq,V.ref.injEq,V.str.injEq,List.append_nil,List.nil_append,List.cons_append] | dsimp only | skip))
def bL(K:Frag):Sp:=fun vs H Q _=>∃(C:Addr) (ms:List Int) (s:Int),vs=[.ref C,.int s]/\H C=some (.lst (ms.map V.int))/\ms.length<=63/\s<=100000/\∀ H',Same H H'->Q (.int ((ms.filter fun m=>decide (woI m s=0)).length:Nat)) H'
def mD(K:Frag):TS:=
 (tRet (tCB kLen (tCons (tComp [none,none,some 1] (iList K (tVar 0)) (gName 1) (tB (tCall (bd K) [] E0 (tCons (tVar 1) (tCons (tVar 2) tNil)))) (tVar 1)) tNil)))
variable{K:Frag}{vs:List V}{H:Hp}{Q:VK}{E:XK}
theorem xf(h:bL K vs H Q E):mD K (eD9 Q) (start ["some","sign"] vs) H:=by
 obtain⟨C,ms,s,rfl,hC,hn,hs,q⟩:=h;show mD K _ [some (.ref C),some (.int s)] H;unfold mD;symm;refine⟨⟨_,QI hC⟩,?_⟩;refine bu (xs:=ms) (fun m=>decide (woI m s=0)) (fun m=>m) (by omega) (QI hC) ?_ ?_ ?_
 . intro x H1 R hx s1 k1;show tB _ [none,some (.int x),some (.int s)] H1 R;symm;exact⟨x,s,rfl,hs,_,rfl,k1 _ (Qy _)⟩
 . intro z H1 Q1 hz hb s1 k1;show tVar 1 [none,some (.int z),some (.int s)] H1 Q1;symm;exact k1 _ (Qy _)
 . intro l H1 hl s1 el;rw[RT] at el;rw[bt el,Qu];exact q _ s1
def rosP(c z:Int)(q:List Int):Bool:=decide (q.getD 0 0=c)&&decide (z∈q)
def rosL(h w c z:Int):List Int:=match (squL h w).find? (rosP c z) with
 | none=>[]
 | some q=>q.filter fun x=>!decide (x=z)
variable{h w:Int}
theorem uM{q:List Int}(hq:q∈squL h w):∃ i:Nat,i < (h*w).toNat/\cornB h w i=true/\q=sqL w i:=by
 unfold squL at hq;obtain⟨i,hi,rfl⟩:=QS.mp hq;obtain⟨hi,hc⟩:=QW.mp hi;exact⟨i,QQ.mp hi,hc,rfl⟩
theorem CW{c:Int}(w0:1<=w)(c0:0<=c)(hc:cornB h w c=true):c+w+1<h*w:=by
 unfold cornB at hc;rw[Rk,QB,QB] at hc;have e:=Int.mul_ediv_add_emod c w;have m:=Int.mul_le_mul_of_nonneg_left (show c/w+2<=h by omega) (show 0<=w by omega);rw[Int.mul_add] at m;rw[Int.mul_comm h w];omega
theorem EI{c x:Int}(w0:1<=w)(c0:0<=c)(hc:cornB h w c=true)(hx:x∈sqL w c):0<=x/\x<h*w:=by
 have:=CW w0 c0 hc;simp[sqL] at hx;omega
variable{z:Int}
theorem D5{g c:Int}{n:Nat}(F:FlOk h w g)(hn:n=(h*w).toNat):aN (rosL h w c z) n:=by
 have w0:=F.w0;unfold rosL
 cases e:(squL h w).find? (rosP c z) with
 | none=>exact⟨by show(0:Nat)<=63;omega,fun x hx=>by cases hx⟩
 | some q=>
  obtain⟨i,hi,hc,rfl⟩:=uM (List.mem_of_find?_eq_some e);refine⟨QG (QE _ _) (by show(4:Nat)<=63;omega),fun x hx=>?_⟩;have:=EI w0 (by omega) hc (QW.mp hx).1;omega
def cD(K:Frag):Sp:=fun vs H Q _=>∃(f:Addr) (h w g c z:Int),vs=[.ref f,.int c,.int z]/\IsFl H f h w g/\FlOk h w g/\∀ l H',Same H H'->H l=none->H' l=some (.lst ((rosL h w c z).map V.int))->Q (.ref l) H'
def gR(K:Frag):TS:=
 (tSeq (tFor (iList K (tCall (cH K) [] E0 (tCons (tVar 0) tNil))) (gName 3)
  (tIfS (tAnd (tTest (tOp (cEq K) (tOp cIx (tVar 3) (tC (.int 0))) (tVar 1))) (tTest (tOp (cIn K false) (tVar 2) (tVar 3)))) (tRet (tComp [none,none,some 2] (iList K (tVar 3)) (gName 1) (tTest (tOp (cNe K) (tVar 1) (tVar 2))) (tVar 1))) tNext))
  (tRet (tLst tNil)))
theorem qO(h:cD K vs H Q E):gR K (eD9 Q) (start ["floor","corner","cell","square"] vs) H:=by
 obtain⟨f,h,w,g,c,z,rfl,hf,F,q⟩:=h;show gR K _ [some (.ref f),some (.int c),some (.int z),none] H;unfold gR;rw[aL];symm;refine⟨f,h,w,g,rfl,hf,F,fun l as H1 s1 hl x nd nl hn=>?_⟩;refine⟨l,rfl,⟨_,QI x.top⟩,?_⟩;refine bx (K:=K) (xs:=as.map V.ref) (fun i σ H'=>∃ sv:Option V,σ=[some (.ref f),some (.int c),some (.int z),sv]/\Same H1 H'/\∀(j:Nat) (q:List Int),j<i->(squL h w)[j]? =some q->rosP c z q=false) ⟨none,rfl,Qy _,fun j q hj=>by omega⟩ (fun i σ H' _ ⟨_,_,s,_⟩=>s.seq (QI x.top)) ?_ ?_
 . rintro i v σ H2 hv ⟨sv,rfl,s2,hno⟩;rw[QD] at hv
   cases ha:as[i]? with
   | none=>rw[ha] at hv;cases hv
   | some a=>
   rw[ha] at hv;cases hv;have hlt:i < (squL h w).length:=by rw[← x.len];exact(Qz.mp ha).1
   have eq:(squL h w)[i]? =some (squL h w)[i]:=Qv hlt;have ea:=(x.same s2).at_ i a _ ha eq
   have q4:((squL h w)[i]).length=4:=by
    obtain⟨k,_,_,e⟩:=uM (QX hlt);rw[e];rfl
   have nx:rosP c z (squL h w)[i]=false->∀(j:Nat) (q:List Int),j<i+1->(squL h w)[j]? =some q->rosP c z q=false:=fun hf j q hj hq=>by
    by_cases hji:j=i
    . subst hji;rw[eq] at hq;cases hq;exact hf
    . exact hno j q (by omega) hq
   have fo:rosP c z (squL h w)[i]=true->rosL h w c z=(squL h w)[i].filter fun x=>!decide (x=z):=fun ht=>by
    have e:(squL h w).find? (rosP c z)=some (squL h w)[i]:=by
     rw[SM];refine⟨ht,i,hlt,rfl,fun j hj=>?_⟩;rw[hno j _ hj (Qv (by omega))];rfl
    unfold rosL;rw[e]
   generalize (squL h w)[i]=sq at*;unfold rosP at nx fo;symm;rw[aA];symm;refine ixI ea (by decide) (by omega) ?_;rw[show(0:Int).toNat=0 from rfl];symm
   cases hb:decide (sq.getD 0 0=c) with
   | false=>
    rw[hb,QJ] at nx;refine iteF ?_;symm;exact⟨_,rfl,s2,nx rfl⟩
   | true=>
    rw[hb,QL] at nx fo;refine iteT ?_;rw[mf ea]
    cases hb2:decide (z∈sq) with
    | false=>
     rw[hb2] at nx;refine⟨false,rfl,?_⟩;symm;exact⟨_,rfl,s2,nx rfl⟩
    | true=>
     rw[hb2] at fo;refine⟨true,rfl,?_⟩;symm;refine⟨⟨_,QI ea⟩,?_⟩;refine bu (xs:=sq) (fun x=>!decide (x=z)) (fun x=>x) (by omega) (QI ea) ?_ ?_ ?_
     . intro y H3 R hy s3 k3;show tTest _ [none,some (.int y),some (.int z)] H3 R;symm;exact k3 _ (Qy _)
     . intro y H3 Q3 hy hb s3 k3;show tVar 1 [none,some (.int y),some (.int z)] H3 Q3;symm;exact k3 _ (Qy _)
     . intro T H3 hT s3 eT;rw[RT,← fo rfl] at eT;exact q T H3 ((s1.trans s2).trans s3) ((s1.trans s2).free hT) eT
 . rintro σ H2 ⟨sv,rfl,s2,hno⟩
   have e:rosL h w c z=[]:=by
    have e:(squL h w).find? (rosP c z)=none:=by
     rw[List.find?_eq_none];intro q hq;obtain⟨i,hi⟩:=List.getElem?_of_mem hq;rw[hno i q (by rw[Qu,x.len];exact(Qz.mp hi).1) hi];decide
    unfold rosL;rw[e]
   symm;refine⟨aT (by decide),fun T hT=>?_⟩;exact q T _ ((s1.trans s2).trans ((Qy H2).laid hT)) ((s1.trans s2).free hT) (by rw[ah,e];rfl)
def squB(h w m:Int)(Qh:List Int)(z s:Int)(ms:List Int):Bool:=decide (s=m)&&(decide (ms.length=1)&&(!decide (rosL h w (ms.getD 0 0) z=[])&&decide (((sgAt Qh (rosL h w (ms.getD 0 0) z)).filter fun k=>decide (woI k s=0)).length=(rosL h w (ms.getD 0 0) z).length)))
def cE(K:Frag)(c:RCl RK):Sp:=fun vs H Q _=>∃(k:RK) (f r p A M:Addr) (ws:List (List Nat)) (cs Qh ms:List Int) (n m z s h w g:Int),vs=[.ref f,.ref r,.ref A,.int z,.int s,.ref M]/\IsFl H f h w g/\FlOk h w g/\IsRule H c k r p ws cs n m/\Qh.length=(h*w).toNat/\H A=some (.lst (Qh.map V.int))/\H M=some (.lst (ms.map V.int))/\s<=1000/\∀ H',Same H H'->Q (.bl (squB h w m Qh z s ms)) H'
def eI(K:Frag)(c:RCl RK):TS:=
 (tSeq (tAsg (tCall (cD K) [] E0 (tCons (tVar 0) (tCons (tOp cIx (tVar 5) (tC (.int 0))) (tCons (tVar 3) tNil)))) (gName 6))
  (tRet (tAndV (tOp (cNe K) (tVar 6) (tLst tNil)) (tOp (cEq K) (tCall (bL K) [] E0 (tCons (tCall (aZ K) [] E0 (tCons (tVar 2) (tCons (tVar 6) tNil))) (tCons (tVar 4) tNil))) (tCB kLen (tCons (tVar 6) tNil))))))
def gS(K:Frag)(c:RCl RK):TS:=
 (tSeq (tIfS (tOr (tTest (tOp (cNe K) (tVar 4) (aI c c.ok "sign" (cO K c) (tVar 1) tNil))) (tTest (tOp (cNe K) (tCB kLen (tCons (tVar 5) tNil)) (tC (.int 1))))) (tRet (tC (.bl false))) tNext)
  (eI K c))
variable{c:RCl RK}{Qh:List Int}
theorem oK {f A M:Addr} {v1:V} {ms:List Int} {s g:Int} (hf:IsFl H f h w g) (F:FlOk h w g) (hml:Qh.length=(h*w).toNat) (hA:H A=some (.lst (Qh.map V.int))) (hM:H M=some (.lst (ms.map V.int))) (hl:ms.length=1) (hs:s<=1000)
  (q:∀ H',Same H H'->Q (.bl (!decide (rosL h w (ms.getD 0 0) z=[])&&decide (((sgAt Qh (rosL h w (ms.getD 0 0) z)).filter fun k=>decide (woI k s=0)).length=(rosL h w (ms.getD 0 0) z).length))) H'):
  eI K c (eD9 Q) [some (.ref f),some v1,some (.ref A),some (.int z),some (.int s),some (.ref M),none] H:=by
 have hin:=D5 (c:=ms.getD 0 0) (z:=z) F hml;unfold eI;symm;refine ixI hM (by decide) (by omega) ?_;rw[show(0:Int).toNat=0 from rfl];symm;refine⟨f,h,w,g,_,z,rfl,hf,F,fun R H1 s1 hR eR=>?_⟩;symm;refine⟨aT (by decide),fun Z hZ=>?_⟩;obtain⟨H2,z9,s2,eZ⟩:∃ z,upd H1 Z (.lst [])=z/\Same H1 z/\z Z=some (.lst (([]:List Int).map V.int)):=aY _ hZ;rw[z9];have s12:=s1.trans s2;refine ox (s2 _ _ eR) eZ ?_;generalize hros:rosL h w (ms.getD 0 0) z=ros at*
 cases hb:decide (ros=[]) with
 | true=>
  rw[hb,Sc] at q;refine⟨false,rfl,iteF ?_⟩;exact q _ s12
 | false=>
  rw[hb,Sl] at q;refine⟨true,rfl,iteT ?_⟩;symm;refine⟨A,R,Qh,ros,rfl,s12 _ _ hA,s2 _ _ eR,hin,fun B H3 s3 hB eB=>?_⟩;dsimp only;refine⟨B,_,s,rfl,eB,by unfold sgAt;rw[Qu];exact hin.1,by omega,fun H4 s4=>?_⟩;symm;rw[bt (((s2.trans s3).trans s4) _ _ eR),Qu];symm;have q1:=q H4 ((s12.trans s3).trans s4)
  have e:decide ((((sgAt Qh ros).filter fun k=>decide (woI k s=0)).length:Int)=(ros.length:Int))=decide (((sgAt Qh ros).filter fun k=>decide (woI k s=0)).length=ros.length):=by
   rw[Q0,QB,QB];omega
  rw[e];exact q1
theorem qP(h:cE K c vs H Q E):gS K c (eD9 Q) (start ["floor","rule","masks","cell","sign","more","rest"] vs) H:=by
 obtain⟨k,f,r,p,A,M,ws,cs,Qh,ms,n,m,z,s,h,w,g,rfl,hf,F,x,hml,hA,hM,hs,q⟩:=h;obtain⟨dx,W,C,h1,h2,h3⟩:=x.ex;show gS K c _ [some (.ref f),some (.ref r),some (.ref A),some (.int z),some (.int s),some (.ref M),none] H;unfold gS;rw[aL,aA];symm;refine methE (k:=k) rfl x.ok h1 (by rfl) ?_;symm;refine⟨r,p,ws,cs,n,m,rfl,x,?_⟩;symm;unfold squB at q
 cases hb:decide (s=m) with
 | false=>
  rw[hb,QJ] at q;symm;exact q _ (Qy _)
 | true=>
  rw[hb,QL] at q;symm;rw[bt hM,Qu];symm
  have e1:decide ((ms.length:Int)=1)=decide (ms.length=1):=by
   rw[Q0,QB,QB];omega
  rw[e1]
  cases hb2:decide (ms.length=1) with
  | false=>
   rw[hb2,QJ] at q;symm;exact q _ (Qy _)
  | true=>
   rw[hb2,QL] at q;symm;exact oK hf F hml hA hM (QU hb2) hs q
theorem vC(t:TK):decide (tkC t=[115,113,117,97,114,101])=decide (t=.square):=by cases t <;> decide
def othL(cs:List Int)(z:Int):List Int:=cs.filter fun x=>!decide (x=z)
def cntB(cs:List Int)(n m:Int)(Qh:List Int)(z s:Int)(ms:List Int):Bool:=
 decide (ms=[])&&(if s=m then decide (n<=(((sgAt Qh (othL cs z)).filter fun k=>decide (woI k s=0)).length:Int)) else decide ((((sgAt Qh (othL cs z)).filter fun k=>stB k m).length:Int)<n))
def cW(K:Frag)(c:RCl RK):Sp:=fun vs H Q _=>∃(k:RK) (r p A M:Addr) (ws:List (List Nat)) (cs Qh ms:List Int) (n m z s:Int),vs=[.ref r,.ref A,.int z,.int s,.ref M]/\IsRule H c k r p ws cs n m/\aN cs Qh.length/\H A=some (.lst (Qh.map V.int))/\H M=some (.lst (ms.map V.int))/\s<=1000/\∀ H',Same H H'->Q (.bl (cntB cs n m Qh z s ms)) H'
def fL(K:Frag)(c:RCl RK):TS:=
 (tSeq (tAsg (tCall (aZ K) [] E0 (tCons (tVar 1) (tCons (tCall (aQ K c) [] E0 (tCons (tVar 0) (tCons (tVar 2) tNil))) tNil))) (gName 5))
  (tSeq (tIfS (tTest (tOp (cEq K) (tVar 3) (aI c c.ok "sign" (cO K c) (tVar 0) tNil))) (tRet (tOp (cCmp fun i j=>decide (j<=i)) (tCall (bL K) [] E0 (tCons (tVar 5) (tCons (tVar 3) tNil))) (aI c c.ok "number" (dU K c) (tVar 0) tNil))) tNext)
  (tRet (tOp (cCmp fun i j=>decide (i<j)) (tCall (bV K) [] E0 (tCons (tVar 5) (tCons (aI c c.ok "sign" (cO K c) (tVar 0) tNil) tNil))) (aI c c.ok "number" (dU K c) (tVar 0) tNil)))))
def iX(K:Frag)(c:RCl RK):TS:=
 (tSeq (tIfS (tTest (tOp (cNe K) (tVar 4) (tLst tNil))) (tRet (tC (.bl false))) tNext)
  (fL K c))
variable{cs:List Int}{m:Int}
theorem pj {k:RK} {r p A M:Addr} {ws:List (List Nat)} {n s:Int} (x:IsRule H c k r p ws cs n m) (hC:aN cs Qh.length) (hA:H A=some (.lst (Qh.map V.int))) (hs0:s<=1000)
  (q:∀ H',Same H H'->Q (.bl (if s=m then decide (n<=(((sgAt Qh (othL cs z)).filter fun k=>decide (woI k s=0)).length:Int)) else decide ((((sgAt Qh (othL cs z)).filter fun k=>stB k m).length:Int)<n))) H'):
  fL K c (eD9 Q) [some (.ref r),some (.ref A),some (.int z),some (.int s),some (.ref M),none] H:=by
 have hC2:aN (othL cs z) Qh.length:=⟨QG (QE _ _) hC.1,fun y hy=>hC.2 y (QW.mp hy).1⟩;have Qq:(sgAt Qh (othL cs z)).length<=63:=by unfold sgAt;rw[Qu];exact hC2.1
 unfold fL;symm;refine⟨k,r,p,ws,cs,n,m,z,rfl,x,hC.1,fun O H1 s1 hO eO=>?_⟩;symm;refine⟨A,O,Qh,othL cs z,rfl,s1 _ _ hA,eO,hC2,fun B H2 s2 hB eB=>?_⟩;have s12:=s1.trans s2;have x2:=x.same s12;obtain⟨dx,W,C,h1,h2,h3⟩:=x2.ex;symm;rw[aA];symm;refine methE (k:=k) rfl x2.ok h1 (by rfl) ?_;symm;refine⟨r,p,ws,cs,n,m,rfl,x2,?_⟩;symm;by_cases hs:s=m
 . rw[Q6 hs] at q;rw[QA hs];symm;refine⟨B,_,_,rfl,eB,Qq,by omega,fun H3 s3=>?_⟩;have x3:=x2.same s3;obtain⟨dx3,W3,C3,g1,g2,g3⟩:=x3.ex;refine methE (k:=k) rfl x3.ok g1 (by rfl) ?_;symm;refine⟨r,p,ws,cs,n,m,rfl,x3,?_⟩;symm;exact q _ (s12.trans s3)
 . rw[QT hs] at q;rw[Qx hs];symm;refine methE (k:=k) rfl x2.ok h1 (by rfl) ?_;symm;refine⟨r,p,ws,cs,n,m,rfl,x2,?_⟩;symm;refine⟨B,_,_,rfl,eB,Qq,fun H3 s3=>?_⟩;have x3:=x2.same s3;obtain⟨dx3,W3,C3,g1,g2,g3⟩:=x3.ex;refine methE (k:=k) rfl x3.ok g1 (by rfl) ?_;symm;refine⟨r,p,ws,cs,n,m,rfl,x3,?_⟩;symm;exact q _ (s12.trans s3)
theorem rL(h:cW K c vs H Q E):iX K c (eD9 Q) (start ["rule","masks","cell","sign","more","some"] vs) H:=by
 obtain⟨k,r,p,A,M,ws,cs,Qh,ms,n,m,z,s,rfl,x,hC,hA,hM,hs,q⟩:=h;show iX K c _ [some (.ref r),some (.ref A),some (.int z),some (.int s),some (.ref M),none] H;unfold iX;rw[aL,aA];symm;refine⟨aT (by decide),fun Z hZ=>?_⟩;obtain⟨H1,z9,s1,eZ⟩:∃ z,upd H Z (.lst [])=z/\Same H z/\z Z=some (.lst (([]:List Int).map V.int)):=aY _ hZ;rw[z9];refine ox (s1 _ _ hM) eZ ?_;unfold cntB at q
 cases hb:decide (ms=[]) with
 | false=>
  rw[hb,QJ] at q;refine⟨true,rfl,?_⟩;symm;exact q _ s1
 | true=>
  rw[hb,QL] at q;refine⟨false,rfl,?_⟩;symm;exact pj (x.same s1) hC (s1 _ _ hA) hs fun H' s2=>q H' (s1.trans s2)
theorem BZ(t:TK):decide (tkC t=[99,111,117,110,116])=decide (t=.count):=by cases t <;> decide
variable{xs:List Int}
theorem kj{q:Addr}{x:Int}(hq:H q=some (.lst (xs.map V.int)))(hm:x∈xs)(hn:xs.length<=900)(h:Q (.int (xs.findIdx (· ==x):Nat)) H):jl K (.ref q) [.int x] H Q:=by
 have hlt:xs.findIdx (· ==x)<xs.length:=SE ⟨x,hm,by simp⟩
 have ev:∀ a b:Int,PyData.eqv (.int a) (.int b)=decide (a=b):=fun a b=>by
  rw[PyData.eqv];by_cases h:a=b
  . subst h;simp
  . simp[h]
 refine⟨xs.map PyData.int,.int x,xs.findIdx (· ==x),.lst (QI hq) (.ints xs),.int x,ou xs,rfl,?_,by omega,⟨PyData.int xs[xs.findIdx (· ==x)],?_,?_⟩,fun m e hm2 he=>?_,h⟩
 . rw[lU];omega
 . rw[QD,Qv hlt];rfl
 . have:=List.findIdx_getElem (w:=hlt);rw[ev,QB]
   simpa using this
 . have hml:m<xs.length:=by omega
   rw[QD,Qv hml] at he;cases he;have:=List.not_of_lt_findIdx hm2;rw[ev,decide_eq_false_iff_not]
   simpa using this
def jJ(xs:List Int)(x:Int):Nat:=xs.findIdx (· ==x)
def ordB(cs ms:List Int):Bool:=decide (ms.length=2)&&(decide (ms.getD 0 0∈cs)&&(decide (ms.getD 1 0∈cs)&&decide (jJ cs (ms.getD 0 0)<jJ cs (ms.getD 1 0))))
def b3(K:Frag):Sp:=fun vs H Q _=>∃(C M:Addr) (cs ms:List Int),vs=[.ref C,.ref M]/\H C=some (.lst (cs.map V.int))/\cs.length<=63/\H M=some (.lst (ms.map V.int))/\Q (.bl (ordB cs ms)) H
def eJ(K:Frag):TS:=
 (tSeq (tIfS (tOr (tTest (tOp (cNe K) (tCB kLen (tCons (tVar 1) tNil)) (tC (.int 2)))) (tOr (tTest (tOp (cIn K true) (tOp cIx (tVar 1) (tC (.int 0))) (tVar 0))) (tTest (tOp (cIn K true) (tOp cIx (tVar 1) (tC (.int 1))) (tVar 0))))) (tRet (tC (.bl false))) tNext)
  (tRet (tOp (cCmp fun i j=>decide (i<j)) (tBM K "list" (jl K) (tVar 0) (tCons (tOp cIx (tVar 1) (tC (.int 0))) tNil)) (tBM K "list" (jl K) (tVar 0) (tCons (tOp cIx (tVar 1) (tC (.int 1))) tNil)))))
theorem oM(h:b3 K vs H Q E):eJ K (eD9 Q) (start ["cells","more"] vs) H:=by
 obtain⟨C,M,cs,ms,rfl,hC,hn,hM,q⟩:=h;show eJ K _ [some (.ref C),some (.ref M)] H;unfold eJ;rw[aL,aA];symm;rw[bt hM,Qu];symm;unfold ordB at q
 have e1:decide ((ms.length:Int)=2)=decide (ms.length=2):=by
  rw[Q0,QB,QB];omega
 rw[e1]
 cases hb:decide (ms.length=2) with
 | false=>
  rw[hb,QJ] at q;symm;exact q
 | true=>
  rw[hb,QL] at q;have hl:=QU hb;symm;refine ixI hM (by decide) (by omega) ?_;rw[show(0:Int).toNat=0 from rfl];symm;rw[m6 hC]
  cases hb2:decide (ms.getD 0 0∈cs) with
  | false=>
   rw[hb2,QJ] at q;refine⟨true,rfl,iteT ?_⟩;symm;exact q
  | true=>
   rw[hb2,QL] at q;refine⟨false,rfl,iteF ?_⟩;symm;refine ixI hM (by decide) (by omega) ?_;rw[show(1:Int).toNat=1 from rfl];symm;rw[m6 hC]
   cases hb3:decide (ms.getD 1 0∈cs) with
   | false=>
    rw[hb3,QJ] at q;refine⟨true,rfl,iteT ?_⟩;symm;exact q
   | true=>
    rw[hb3,QL] at q;refine⟨false,rfl,iteF ?_⟩;symm;refine⟨bj hC,?_⟩;refine ixI hM (by decide) (by omega) ?_;rw[show(0:Int).toNat=0 from rfl];symm;refine kj hC (QU hb2) (by omega) ?_;symm;refine⟨bj hC,?_⟩;refine ixI hM (by decide) (by omega) ?_;rw[show(1:Int).toNat=1 from rfl];symm;refine kj hC (QU hb3) (by omega) ?_;symm
    have e2:decide (((cs.findIdx (· ==ms.getD 0 0):Nat):Int) < ((cs.findIdx (· ==ms.getD 1 0):Nat):Int))=decide (jJ cs (ms.getD 0 0)<jJ cs (ms.getD 1 0)):=by
     rw[Q0,QB,QB];unfold jJ;omega
    rw[e2];exact q
def orM(Qh:List Int)(ms:List Int):Int:=Builtin.bitOr (Qh.getD (ms.getD 0 0).toNat 0) (Qh.getD (ms.getD 1 0).toNat 0)
def pairB(cs Qh:List Int)(z s:Int)(ms:List Int):Bool:=ordB (cs.filter fun x=>!decide (x=z)) ms&&decide (((sgL (orM Qh ms)).filter fun x=>!decide (x=s)).length<=1)
theorem D6:((List.range 64).all fun a=>(List.range 64).all fun b=>decide (0<=Builtin.bitOr (a:Int) (b:Int))&&decide (Builtin.bitOr (a:Int) (b:Int)<64))=true:=by decide+kernel
theorem EJ{a b:Int}(a0:0<=a)(a1:a<64)(b0:0<=b)(b1:b<64):0<=Builtin.bitOr a b/\Builtin.bitOr a b<64:=by
 have t:=QO.mp (QO.mp D6 a.toNat (QQ.mpr (by omega))) b.toNat (QQ.mpr (by omega));have e1:((a.toNat:Nat):Int)=a:=by omega
 have e2:((b.toNat:Nat):Int)=b:=by omega
 rw[e1,e2] at t
 simpa using t
theorem D7:((List.range 64).all fun m=>decide (Builtin.Int.intBits (m:Int)<=6)&&decide (sgL (m:Int)=(([0,1,2,3,4,5]:List Nat).filter fun(i:Nat)=>stB (m:Int) (1+(i:Int))).map fun(i:Nat)=>1+(i:Int)))=true:=by decide+kernel
theorem ie(m0:0<=m)(m1:m<64):Builtin.Int.intBits m<=6/\sgL m=(([0,1,2,3,4,5]:List Nat).filter fun(i:Nat)=>stB m (1+(i:Int))).map fun(i:Nat)=>1+(i:Int):=by
 have t:=QO.mp D7 m.toNat (QQ.mpr (by omega));have e1:((m.toNat:Nat):Int)=m:=by omega
 rw[e1,Rk,QB,QB] at t;exact t
theorem tL{i:Int}(mm:∀ m∈Qh,0<=m/\m<64)(i0:0<=i)(i1:i<Qh.length):0<=Qh.getD i.toNat 0/\Qh.getD i.toNat 0<64:=by
 have hlt:i.toNat<Qh.length:=by omega
 rw[List.getD,Qv hlt];exact mm _ (QX hlt)
def dk(K:Frag)(c:RCl RK):Sp:=fun vs H Q _=>∃(k:RK) (r p A M:Addr) (ws:List (List Nat)) (cs Qh ms:List Int) (n m z s:Int),vs=[.ref r,.ref A,.int z,.int s,.ref M]/\IsRule H c k r p ws cs n m/\aN cs Qh.length/\(∀ m∈Qh,0<=m/\m<64)/\H A=some (.lst (Qh.map V.int))/\H M=some (.lst (ms.map V.int))/\∀ H',Same H H'->Q (.bl (pairB cs Qh z s ms)) H'
def gw(K:Frag)(c:RCl RK):TS:=
 (tSeq (tAsg (tCall (aP K) [] E0 (tCons (tOp cOr (tOp cIx (tVar 1) (tOp cIx (tVar 4) (tC (.int 0)))) (tOp cIx (tVar 1) (tOp cIx (tVar 4) (tC (.int 1))))) tNil)) (gName 5))
  (tRet (tOp (cCmp fun i j=>decide (i<=j)) (tCB kLen (tCons (tComp [none,none,some 3] (iList K (tVar 5)) (gName 1) (tTest (tOp (cNe K) (tVar 1) (tVar 2))) (tVar 1)) tNil)) (tC (.int 1)))))
def jK(K:Frag)(c:RCl RK):TS:=
 (tSeq (tIfS (tNot (tB (tCall (b3 K) [] E0 (tCons (tCall (aQ K c) [] E0 (tCons (tVar 0) (tCons (tVar 2) tNil))) (tCons (tVar 4) tNil))))) (tRet (tC (.bl false))) tNext)
  (gw K c))
theorem pY {A M:Addr} {ms:List Int} {s:Int} {v0:V} (hC:aN cs Qh.length) (mm:∀ m∈Qh,0<=m/\m<64) (hA:H A=some (.lst (Qh.map V.int))) (hM:H M=some (.lst (ms.map V.int))) (ho:ordB (cs.filter fun x=>!decide (x=z)) ms=true)
  (q:∀ H',Same H H'->Q (.bl (decide (((sgL (orM Qh ms)).filter fun x=>!decide (x=s)).length<=1))) H'):
  gw K c (eD9 Q) [some v0,some (.ref A),some (.int z),some (.int s),some (.ref M),none] H:=by
 unfold ordB at ho;simp only[Rk,QB] at ho;obtain⟨hl,m0,m1,_⟩:=ho;have c0:=hC.2 _ (QW.mp m0).1;have c1:=hC.2 _ (QW.mp m1).1;have k0:=tL mm c0.1 c0.2;have k1:=tL mm c1.1 c1.2;have ol:=EJ k0.1 k0.2 k1.1 k1.2;have sb:=(ie ol.1 ol.2).1;unfold gw;symm;refine ixI hM (by decide) (by omega) ?_;rw[show(0:Int).toNat=0 from rfl];symm;refine ixI hA c0.1 c0.2 ?_;symm;refine ixI hM (by decide) (by omega) ?_;rw[show(1:Int).toNat=1 from rfl];symm;refine ixI hA c1.1 c1.2 ?_;symm;refine⟨_,rfl,by omega,fun l H1 s1 hl1 el=>?_⟩;have el2:H1 l=some (.lst ((sgL (orM Qh ms)).map V.int)):=el
 have hsl:(sgL (orM Qh ms)).length<=6:=by
  unfold orM;rw[(ie ol.1 ol.2).2,Qu];exact QE _ _
 symm;refine⟨⟨_,QI el2⟩,?_⟩;refine bu (xs:=sgL (orM Qh ms)) (fun x=>!decide (x=s)) (fun x=>x) (by omega) (QI el2) ?_ ?_ ?_
 . intro x H2 R hx s2 k2;show tTest _ [none,some (.int x),some (.int s)] H2 R;symm;exact k2 _ (Qy _)
 . intro x H2 Q2 hx hb s2 k2;show tVar 1 [none,some (.int x),some (.int s)] H2 Q2;symm;exact k2 _ (Qy _)
 . intro T H2 hT s2 eT;rw[RT] at eT;symm;rw[bt eT,Qu];symm
   have e2:decide ((((sgL (orM Qh ms)).filter fun x=>!decide (x=s)).length:Int)<=1)=decide (((sgL (orM Qh ms)).filter fun x=>!decide (x=s)).length<=1):=by
    rw[Q0,QB,QB];omega
   rw[e2];exact q _ (s1.trans s2)
theorem tN(h:dk K c vs H Q E):jK K c (eD9 Q) (start ["rule","masks","cell","sign","more","together"] vs) H:=by
 obtain⟨k,r,p,A,M,ws,cs,Qh,ms,n,m,z,s,rfl,x,hC,mm,hA,hM,q⟩:=h;show jK K c _ [some (.ref r),some (.ref A),some (.int z),some (.int s),some (.ref M),none] H;unfold jK;rw[aL,aA];symm;refine⟨k,r,p,ws,cs,n,m,z,rfl,x,hC.1,fun O H1 s1 hO eO=>?_⟩;symm;refine⟨O,M,_,ms,rfl,eO,QG (QE _ _) hC.1,s1 _ _ hM,?_⟩;unfold pairB at q
 cases hb:ordB (cs.filter fun x=>!decide (x=z)) ms with
 | false=>
  rw[hb,QJ] at q;refine⟨false,rfl,iteT ?_⟩;symm;exact q _ s1
 | true=>
  rw[hb,QL] at q;refine⟨true,rfl,iteF ?_⟩;exact pY hC mm (s1 _ _ hA) (s1 _ _ hM) hb fun H' s2=>q H' (s1.trans s2)
theorem CY(t:TK):decide (tkC t=[115,116,101,112])=decide (t=.step):=by cases t <;> decide
theorem yW(xs:List V){a b:Nat}(hab:a<=b):cutV xs (some (a:Int)) (some (b:Int))=(xs.drop a).take (b-a):=by
 have h1:HT.sIx xs.length 0 (some (a:Int))=min a xs.length:=by rw[HT.sIx_nat]
 have h2:HT.sIx xs.length xs.length (some (b:Int))=min b xs.length:=by rw[HT.sIx_nat]
 unfold cutV;rw[h1,h2];by_cases ha:a<=xs.length
 . rw[TN ha];by_cases hb:b<=xs.length
   . rw[TN hb]
   . rw[SL (by omega),Ry (by simp),Ry (by simp;omega)]
 . rw[SL (by omega),SL (by omega),SN,TD (by omega)];simp
theorem kY {k:Nat} {a:Addr} {te:TE} {fin:Addr->Hp->Prop} {σ0:St} {H1:Hp} (f:Int->Bool) (hn:xs.length<=900) (hq:SqL K H1 a (xs.map V.int))
  (he:∀ x H Q,x∈xs->Same H1 H->(∀ H',Same H H'->Q (.bl (f x)) H')->te (σ0.set k (some (.int x))) H Q)
  (hd:∀ l H,H1 l=none->Same H1 H->H l=some (.lst ((xs.map f).map V.bl))->fin l H):
  CompR (Itl K a) (gName k) tTrue te fin σ0 H1:=by
 refine bY (xs:=xs.map V.int) (fun _=>true) (fun i=>.bl (f (xs.getD i 0))) (by rw[Qu];exact hn) hq ?_ ?_ ?_
 . intro i x H R hx s1 k1;exact k1 _ (Qy _)
 . intro i x H Q hx hb s1 h;obtain⟨z,hz,rfl⟩:=aS hx;have h2:=h;simp only[fJ hz] at h2;exact he z H Q (QC hz) s1 h2
 . intro l H hl s1 el;refine hd l H hl s1 ?_;rw[el,bf,Qu,Re]
   congr 2
   exact pf xs fun x=>V.bl (f x)
def ahdL(cs:List Int)(z:Int):List Int:=if 0<jJ cs z then [cs.getD (jJ cs z-1) 0] else []
def behL(cs:List Int)(z:Int):List Int:=if jJ cs z+1<cs.length then [cs.getD (jJ cs z+1) 0] else []
theorem Ce(h:z∈cs):jJ cs z<cs.length:=SE ⟨z,h,by simp⟩
theorem CZ{o:Int}(h:z∈cs)(ho:o∈ahdL cs z):o∈cs:=by
 have:=Ce h;unfold ahdL at ho
 split at ho
 . rw[QF.mp ho,List.getD,Qv (by omega)];exact QX _
 . cases ho
theorem C0{o:Int}(ho:o∈behL cs z):o∈cs:=by
 unfold behL at ho
 split at ho
 . rename_i h
   rw[QF.mp ho,List.getD,Qv h];exact QX _
 . cases ho
theorem xg(cs:List Int)(k:Nat):(cs.drop k).take 1=if k<cs.length then [cs.getD k 0] else []:=by
 by_cases h:k<cs.length
 . rw[Q6 h,RN h,List.getD,Qv h];rfl
 . rw[QT h,TD (by omega)];rfl
def ig(K:Frag)(c:RCl RK):Sp:=fun vs H Q _=>∃(k:RK) (r p:Addr) (ws:List (List Nat)) (cs:List Int) (n m z:Int),vs=[.ref r,.int z]/\IsRule H c k r p ws cs n m/\cs.length<=63/\z∈cs/\∀ l H',Same H H'->H l=none->H' l=some (.lst ((ahdL cs z).map V.int))->Q (.ref l) H'
def nJ(K:Frag)(c:RCl RK):TS:=
 (tSeq (tAsg (aI c c.ok "spots" (bF K c) (tVar 0) tNil) (gName 2))
  (tSeq (tAsg (tBM K "list" (jl K) (tVar 2) (tCons (tVar 1) tNil)) (gName 3))
  (tRet (tIf (tTest (tOp (cCmp fun i j=>decide (j<i)) (tVar 3) (tC (.int 0)))) (tSl ln (tVar 2) (tPart (tOp cSub (tVar 3) (tC (.int 1)))) (tPart (tVar 3))) (tLst tNil)))))
theorem yo(h:ig K c vs H Q E):nJ K c (eD9 Q) (start ["rule","cell","spots","place"] vs) H:=by
 obtain⟨k,r,p,ws,cs,n,m,z,rfl,x,hn,hz,q⟩:=h;obtain⟨dx,W,C,h1,h2,h3⟩:=x.ex;have hlt:=Ce hz;show nJ K c _ [some (.ref r),some (.int z),none,none] H;unfold nJ;rw[aL,cp];refine methE (k:=k) rfl x.ok h1 (by rfl) ?_;symm;refine⟨r,p,ws,cs,n,m,rfl,x,fun S hS=>?_⟩;obtain⟨H1,z9,s1,eS⟩:=aY (.lst (cs.map V.int)) hS;rw[z9];symm;refine⟨bj eS,?_⟩;refine kj eS hz (by omega) ?_;have ei:(cs.findIdx (· ==z))=jJ cs z:=rfl;rw[ei];unfold ahdL at q;generalize jJ cs z=j at*;symm;by_cases hj:0<j
 . rw[Q6 hj] at q;rw[QA (show(0:Int) < (j:Int) by omega)];refine iteT ?_;refine qE eS fun l hl=>?_;have ej:(j:Int)-1=((j-1:Nat):Int):=by omega
   rw[ej,yW _ (by omega),show j - (j-1)=1 by omega,← List.map_drop,← SQ,xg,Q6 (by omega)];exact q l _ (s1.laid hl) (s1.free hl) ah
 . rw[QT hj] at q;rw[Qx (show ¬ (0:Int) < (j:Int) by omega)];refine iteF ?_;refine⟨aT (by decide),fun l hl=>?_⟩;exact q l _ (s1.laid hl) (s1.free hl) ah
def ld(K:Frag)(c:RCl RK):Sp:=fun vs H Q _=>∃(k:RK) (r p:Addr) (ws:List (List Nat)) (cs:List Int) (n m z:Int),vs=[.ref r,.int z]/\IsRule H c k r p ws cs n m/\cs.length<=63/\z∈cs/\∀ l H',Same H H'->H l=none->H' l=some (.lst ((behL cs z).map V.int))->Q (.ref l) H'
def pZ(K:Frag)(c:RCl RK):TS:=
 (tSeq (tAsg (aI c c.ok "spots" (bF K c) (tVar 0) tNil) (gName 2))
  (tSeq (tAsg (tBM K "list" (jl K) (tVar 2) (tCons (tVar 1) tNil)) (gName 3))
  (tRet (tSl ln (tVar 2) (tPart (tOp cAdd (tVar 3) (tC (.int 1)))) (tPart (tOp cAdd (tVar 3) (tC (.int 2))))))))
theorem AY(h:ld K c vs H Q E):pZ K c (eD9 Q) (start ["rule","cell","spots","place"] vs) H:=by
 obtain⟨k,r,p,ws,cs,n,m,z,rfl,x,hn,hz,q⟩:=h;obtain⟨dx,W,C,h1,h2,h3⟩:=x.ex;show pZ K c _ [some (.ref r),some (.int z),none,none] H;unfold pZ;rw[aL,cp];refine methE (k:=k) rfl x.ok h1 (by rfl) ?_;symm;refine⟨r,p,ws,cs,n,m,rfl,x,fun S hS=>?_⟩;obtain⟨H1,z9,s1,eS⟩:=aY (.lst (cs.map V.int)) hS;rw[z9];symm;refine⟨bj eS,?_⟩;refine kj eS hz (by omega) ?_;have ei:(cs.findIdx (· ==z))=jJ cs z:=rfl;rw[ei];unfold behL at q;generalize jJ cs z=j at*;symm;refine qE eS fun l hl=>?_;have ej:(j:Int)+1=((j+1:Nat):Int):=by omega
 have ek:(j:Int)+2=((j+2:Nat):Int):=by omega
 rw[ej,ek,yW _ (by omega),show j+2 - (j+1)=1 by omega,← List.map_drop,← SQ,xg];exact q l _ (s1.laid hl) (s1.free hl) ah
def nogB(s m:Int):Bool:=(sgL m).all fun x=>decide (s<=x)
def nolB(s m:Int):Bool:=(sgL m).all fun x=>decide (x<=s)
theorem Cf(m0:0<=m)(m1:m<64):(sgL m).length<=6:=by
 rw[(ie m0 m1).2,Qu];exact QE _ _
def cX(K:Frag):Sp:=fun vs H Q _=>∃ s m:Int,vs=[.int s,.int m]/\0<=m/\m<64/\∀ H',Same H H'->Q (.bl (nogB s m)) H'
def iY(K:Frag):TS:=
 (tRet (tCB kAll (tCons (tComp [none,none,some 0] (iList K (tCall (aP K) [] E0 (tCons (tVar 1) tNil))) (gName 1) tTrue (tOp (cCmp fun i j=>decide (i<=j)) (tVar 2) (tVar 1))) tNil)))
theorem rM(h:cX K vs H Q E):iY K (eD9 Q) (start ["sign","mask"] vs) H:=by
 obtain⟨s,m,rfl,m0,m1,q⟩:=h;have sb:=(ie m0 m1).1;have sl:=Cf m0 m1;show iY K _ [some (.int s),some (.int m)] H;unfold iY;symm;refine⟨m,rfl,by omega,fun l H1 s1 hl el=>?_⟩;refine⟨l,rfl,⟨_,QI el⟩,?_⟩;refine kY (xs:=sgL m) (fun x=>decide (s<=x)) (by omega) (QI el) ?_ ?_
 . intro x H2 Q2 hx s2 k2;show tOp _ _ _ [none,some (.int x),some (.int s)] H2 Q2;symm;exact k2 _ (Qy _)
 . intro l2 H2 hl2 s2 el2;symm;refine lW el2 ?_;rw[Sh];exact q _ (s1.trans s2)
def fC(K:Frag):Sp:=fun vs H Q _=>∃ s m:Int,vs=[.int s,.int m]/\0<=m/\m<64/\∀ H',Same H H'->Q (.bl (nolB s m)) H'
def lA(K:Frag):TS:=
 (tRet (tCB kAll (tCons (tComp [none,none,some 0] (iList K (tCall (aP K) [] E0 (tCons (tVar 1) tNil))) (gName 1) tTrue (tOp (cCmp fun i j=>decide (j<=i)) (tVar 2) (tVar 1))) tNil)))
theorem vN(h:fC K vs H Q E):lA K (eD9 Q) (start ["sign","mask"] vs) H:=by
 obtain⟨s,m,rfl,m0,m1,q⟩:=h;have sb:=(ie m0 m1).1;have sl:=Cf m0 m1;show lA K _ [some (.int s),some (.int m)] H;unfold lA;symm;refine⟨m,rfl,by omega,fun l H1 s1 hl el=>?_⟩;refine⟨l,rfl,⟨_,QI el⟩,?_⟩;refine kY (xs:=sgL m) (fun x=>decide (x<=s)) (by omega) (QI el) ?_ ?_
 . intro x H2 Q2 hx s2 k2;show tOp _ _ _ [none,some (.int x),some (.int s)] H2 Q2;symm;exact k2 _ (Qy _)
 . intro l2 H2 hl2 s2 el2;symm;refine lW el2 ?_;rw[Sh];exact q _ (s1.trans s2)
def stpB(cs Qh:List Int)(z s:Int):Bool:=((ahdL cs z).any fun o=>nogB s (Qh.getD o.toNat 0))||((behL cs z).any fun o=>nolB s (Qh.getD o.toNat 0))
def stepB(cs Qh:List Int)(z s:Int)(ms:List Int):Bool:=decide (ms=[])&&stpB cs Qh z s
def dm(K:Frag)(c:RCl RK):Sp:=fun vs H Q _=>∃(k:RK) (r p A M:Addr) (ws:List (List Nat)) (cs Qh ms:List Int) (n m z s:Int),vs=[.ref r,.ref A,.int z,.int s,.ref M]/\IsRule H c k r p ws cs n m/\aN cs Qh.length/\z∈cs/\(∀ m∈Qh,0<=m/\m<64)/\H A=some (.lst (Qh.map V.int))/\H M=some (.lst (ms.map V.int))/\∀ H',Same H H'->Q (.bl (stepB cs Qh z s ms)) H'
def gx(K:Frag)(c:RCl RK):TS:=
 (tSeq (tIfS (tB (tCB kAny (tCons (tComp [none,none,some 1,some 3] (iList K (tCall (ig K c) [] E0 (tCons (tVar 0) (tCons (tVar 2) tNil)))) (gName 1) tTrue (tCall (cX K) [] E0 (tCons (tVar 3) (tCons (tOp cIx (tVar 2) (tVar 1)) tNil)))) tNil))) (tRet (tC (.bl true))) tNext)
  (tRet (tCB kAny (tCons (tComp [none,none,some 1,some 3] (iList K (tCall (ld K c) [] E0 (tCons (tVar 0) (tCons (tVar 2) tNil)))) (gName 1) tTrue (tCall (fC K) [] E0 (tCons (tVar 3) (tCons (tOp cIx (tVar 2) (tVar 1)) tNil)))) tNil))))
def jL(K:Frag)(c:RCl RK):TS:=
 (tSeq (tIfS (tTest (tOp (cNe K) (tVar 4) (tLst tNil))) (tRet (tC (.bl false))) tNext)
  (gx K c))
theorem p5 {k:RK} {r p A M:Addr} {ws:List (List Nat)} {n s:Int} (x:IsRule H c k r p ws cs n m) (hC:aN cs Qh.length) (hz:z∈cs) (mm:∀ m∈Qh,0<=m/\m<64) (hA:H A=some (.lst (Qh.map V.int)))
  (q:∀ H',Same H H'->Q (.bl (stpB cs Qh z s)) H'):
  gx K c (eD9 Q) [some (.ref r),some (.ref A),some (.int z),some (.int s),some (.ref M)] H:=by
 have la:(ahdL cs z).length<=1:=by unfold ahdL;split <;> simp
 have lb:(behL cs z).length<=1:=by unfold behL;split <;> simp
 unfold gx;rw[aL,aA];symm;refine⟨k,r,p,ws,cs,n,m,z,rfl,x,hC.1,hz,fun l H1 s1 hl el=>?_⟩;refine⟨l,rfl,⟨_,QI el⟩,?_⟩;refine kY (xs:=ahdL cs z) (fun o=>nogB s (Qh.getD o.toNat 0)) (by omega) (QI el) ?_ ?_
 . intro o H2 Q2 ho s2 k2;have ci:=hC.2 o (CZ hz ho);have mi:=tL mm ci.1 ci.2;show tCall _ _ _ _ [none,some (.int o),some (.ref A),some (.int s)] H2 Q2;symm;refine ixI ((s1.trans s2) _ _ hA) ci.1 ci.2 ?_;exact⟨s,_,rfl,mi.1,mi.2,k2⟩
 . intro l2 H2 hl2 s2 el2;symm;refine zv el2 ?_;have s12:=s1.trans s2;rw[T6];unfold stpB at q;have ea:(ahdL cs z).any (id ∘ fun o=>nogB s (Qh.getD o.toNat 0))=(ahdL cs z).any fun o=>nogB s (Qh.getD o.toNat 0):=rfl;rw[ea]
   cases hb:(ahdL cs z).any fun o=>nogB s (Qh.getD o.toNat 0) with
   | true=>
    rw[hb,Sz] at q;refine⟨true,rfl,iteT ?_⟩;symm;exact q _ s12
   | false=>
    rw[hb,RQ] at q;refine⟨false,rfl,iteF ?_⟩;symm;refine⟨k,r,p,ws,cs,n,m,z,rfl,x.same s12,hC.1,hz,fun l3 H3 s3 hl3 el3=>?_⟩;refine⟨l3,rfl,⟨_,QI el3⟩,?_⟩;refine kY (xs:=behL cs z) (fun o=>nolB s (Qh.getD o.toNat 0)) (by omega) (QI el3) ?_ ?_
    . intro o H4 Q4 ho s4 k4;have ci:=hC.2 o (C0 ho);have mi:=tL mm ci.1 ci.2;show tCall _ _ _ _ [none,some (.int o),some (.ref A),some (.int s)] H4 Q4;symm;refine ixI (((s12.trans s3).trans s4) _ _ hA) ci.1 ci.2 ?_;exact⟨s,_,rfl,mi.1,mi.2,k4⟩
    . intro l4 H4 hl4 s4 el4;symm;refine zv el4 ?_;rw[T6];exact q _ ((s12.trans s3).trans s4)
theorem tO(h:dm K c vs H Q E):jL K c (eD9 Q) (start ["rule","masks","cell","sign","more"] vs) H:=by
 obtain⟨k,r,p,A,M,ws,cs,Qh,ms,n,m,z,s,rfl,x,hC,hz,mm,hA,hM,q⟩:=h;show jL K c _ [some (.ref r),some (.ref A),some (.int z),some (.int s),some (.ref M)] H;unfold jL;rw[aL,aA];symm;refine⟨aT (by decide),fun Z hZ=>?_⟩;obtain⟨H1,z9,s1,eZ⟩:∃ z,upd H Z (.lst [])=z/\Same H z/\z Z=some (.lst (([]:List Int).map V.int)):=aY _ hZ;rw[z9];refine ox (s1 _ _ hM) eZ ?_;unfold stepB at q
 cases hb:decide (ms=[]) with
 | false=>
  rw[hb,QJ] at q;refine⟨true,rfl,?_⟩;symm;exact q _ s1
 | true=>
  rw[hb,QL] at q;refine⟨false,rfl,?_⟩;symm;exact p5 (x.same s1) hC hz mm (s1 _ _ hA) fun H' s2=>q H' (s1.trans s2)
section
variable{X:Cx}
def minI(ns:List Int):Int:=ns.getD (argBest (fun i j=>decide (ns.getD i 0<ns.getD j 0)) (ns.length-1)) 0
def maxI(ns:List Int):Int:=ns.getD (argBest (fun i j=>decide (ns.getD i 0>ns.getD j 0)) (ns.length-1)) 0
end
local macro_rules | `(tactic| walk_at "w")=>`(tactic| (first | simp only [aL,k8,nh,gk,k9,jh,ji,ni,nc,k7,ng,if_true,if_false,Bool.false_eq_true,decide_true,decide_false,gN,gO,lY,dZ,dg,gL,jq,gM,dX,jo,jp,dW,lV,d0,d2,d4,d5,d6,d7,d3,jr,js,jt,jm,lX,Bool.not_true,Bool.not_false,dJ,cp,bo,gI,w_c,iN,dG,e7,dL,e8,w_b,w_not,im,lj,fc,fe,io,gJ,dM,lm,ff,ip,gK,kf,iq,dN,fg,fh,fj,c9,da,cq,cr,cu,b8,iu,iw,iy,iz,iA,iB,iC,iD,iE,iF,iG,iH,lp,fk,cw,fm,lq,fq,db,cy,iI,iJ,ft,fu,fv,
 List.getElem?_cons_zero,List.getElem?_cons_succ,Option.some.injEq,exists_eq_left',exists_eq_left,List.set_cons_zero,List.set_cons_succ,ce,V.int.injEq,V.bl.injEq,V.ref.injEq,V.str.injEq,List.append_nil,List.nil_append,List.cons_append] | dsimp only | skip))
theorem ph(xs:List Int):xs.filter (fun _=>true)=xs:=List.filter_eq_self.mpr fun _ _=>rfl
def loM(m:Int):Int:=(sgL m).getD 0 0
def hiM(m:Int):Int:=(sgL m).getD ((sgL m).length-1) 0
theorem D8:((List.range 64).all fun m=>decide (m=0)||(decide (0 < (sgL (m:Int)).length/\(sgL (m:Int)).length<=6)&&(decide (minI (sgL (m:Int))=loM (m:Int)/\maxI (sgL (m:Int))=hiM (m:Int))&&decide ((1<=loM (m:Int)/\loM (m:Int)<=6)/\1<=hiM (m:Int)/\hiM (m:Int)<=6))))=true:=by decide+kernel
theorem Cg{m:Int}(m0:0<=m)(m1:m<64)(hm:m≠0):(0 < (sgL m).length/\(sgL m).length<=6)/\(minI (sgL m)=loM m/\maxI (sgL m)=hiM m)/\(1<=loM m/\loM m<=6)/\1<=hiM m/\hiM m<=6:=by
 have t:=QO.mp D8 m.toNat (QQ.mpr (by omega));have e1:((m.toNat:Nat):Int)=m:=by omega
 rw[e1,TL,QB,Rk,Rk,QB,QB,QB] at t;rcases t with t | t
 . omega
 . exact t
theorem D9:sgL 0=[]:=by decide+kernel
theorem zG{xs:List Int}(h:0<xs.length):atI (xs.map V.int) (-1)=some (V.int (xs.getD (xs.length-1) 0)):=by
 unfold atI ixN;rw[Qu,QT (by decide),Q6 (by omega)];show(xs.map V.int)[((xs.length:Int)+ -1).toNat]? =_;rw[show((xs.length:Int)+ -1).toNat=xs.length-1 by omega,QD,Qv (by omega),List.getD,Qv (by omega)];rfl
def smB(os:List Int)(n s:Int):Bool:=decide (0∈os)||(decide (n<s+(os.map loM).sum)||decide (s+(os.map hiM).sum<n))
def sumB(cs:List Int)(n:Int)(Qh:List Int)(z s:Int)(ms:List Int):Bool:=decide (ms=[])&&smB (sgAt Qh (othL cs z)) n s
def bC(K:Frag):Sp:=fun vs H Q _=>∃(A:Addr) (ms:List Int),vs=[.ref A]/\H A=some (.lst (ms.map V.int))/\Q (.bl (decide (0∈ms))) H
def oN(K:Frag):TS:=
 (tRet (tOp (cIn K false) (tC (.int 0)) (tVar 0)))
variable{K:Frag}{vs:List V}{H:Hp}{Q:VK}{E:XK}
theorem zH(h:bC K vs H Q E):oN K (eD9 Q) (start ["masks"] vs) H:=by
 obtain⟨A,ms,rfl,hA,q⟩:=h;show oN K _ [some (.ref A)] H;unfold oN;symm;rw[mf hA];exact q
variable{cs:List Int}
theorem EK{Qh:List Int}{z:Int}(hC:aN cs Qh.length)(mm:∀ m∈Qh,0<=m/\m<64):∀ m∈sgAt Qh (othL cs z),0<=m/\m<64:=fun m hm=>by
 unfold sgAt at hm;obtain⟨x,hx,rfl⟩:=QS.mp hm;have ci:=hC.2 x (QW.mp hx).1;exact tL mm ci.1 ci.2
def dO(K:Frag)(c:RCl RK):Sp:=fun vs H Q _=>∃(k:RK) (r p A M:Addr) (ws:List (List Nat)) (cs Qh ms:List Int) (n m z s:Int),vs=[.ref r,.ref A,.int z,.int s,.ref M]/\IsRule H c k r p ws cs n m/\aN cs Qh.length/\(∀ m∈Qh,0<=m/\m<64)/\H A=some (.lst (Qh.map V.int))/\H M=some (.lst (ms.map V.int))/\∀ H',Same H H'->Q (.bl (sumB cs n Qh z s ms)) H'
def gU(K:Frag)(c:RCl RK):TS:=
 (tSeq (tAsg (tOp cAdd (tVar 3) (tCB kSum (tCons (tComp [none,none] (iList K (tVar 5)) (gName 1) tTrue (tOp cIx (tCall (aP K) [] E0 (tCons (tVar 1) tNil)) (tC (.int 0)))) tNil))) (gName 6))
  (tSeq (tAsg (tOp cAdd (tVar 3) (tCB kSum (tCons (tComp [none,none] (iList K (tVar 5)) (gName 1) tTrue (tOp cIx (tCall (aP K) [] E0 (tCons (tVar 1) tNil)) (tUn (rU fun i=>.int (-i)) (tC (.int 1))))) tNil))) (gName 7))
  (tRet (tOrV (tOp (cCmp fun i j=>decide (j<i)) (tVar 6) (aI c c.ok "number" (dU K c) (tVar 0) tNil)) (tOp (cCmp fun i j=>decide (i<j)) (tVar 7) (aI c c.ok "number" (dU K c) (tVar 0) tNil))))))
def gW(K:Frag)(c:RCl RK):TS:=
 (tSeq (tAsg (tCall (aZ K) [] E0 (tCons (tVar 1) (tCons (tCall (aQ K c) [] E0 (tCons (tVar 0) (tCons (tVar 2) tNil))) tNil))) (gName 5))
  (tSeq (tIfS (tB (tCall (bC K) [] E0 (tCons (tVar 5) tNil))) (tRet (tC (.bl true))) tNext)
  (gU K c)))
def km(K:Frag)(c:RCl RK):TS:=
 (tSeq (tIfS (tTest (tOp (cNe K) (tVar 4) (tLst tNil))) (tRet (tC (.bl false))) tNext)
  (gW K c))
variable{c:RCl RK}
theorem qQ {k:RK} {r p A M B:Addr} {ws:List (List Nat)} {os:List Int} {n m z s:Int} (x:IsRule H c k r p ws cs n m) (ol:os.length<=63) (om:∀ m∈os,0<=m/\m<64) (on:¬ 0∈os) (eB:H B=some (.lst (os.map V.int)))
  (q:∀ H',Same H H'->Q (.bl (decide (n<s+(os.map loM).sum)||decide (s+(os.map hiM).sum<n))) H'):
  gU K c (eD9 Q) [some (.ref r),some (.ref A),some (.int z),some (.int s),some (.ref M),some (.ref B),none,none] H:=by
 have lh:∀ y∈os,_:=fun y hy=>Cg (om y hy).1 (om y hy).2 (fun e=>on (e ▸ hy));unfold gU;symm;refine⟨⟨_,QI eB⟩,?_⟩;refine bu (xs:=os) (fun _=>true) loM (by omega) (QI eB) ?_ ?_ ?_
 . intro y H1 R hy s1 k1;exact k1 _ (Qy _)
 . intro y H1 Q1 hy hb s1 k1;have hl:=lh y hy;show tOp cIx _ _ [none,some (.int y)] H1 Q1;symm;refine⟨y,rfl,by have:=(ie (om y hy).1 (om y hy).2);have:=this.1;omega,fun l H2 s2 hl2 el=>?_⟩;refine ixI el (by decide) (by omega) ?_;exact k1 _ s2
 . intro l1 H1 hl1 s1 el1;rw[ph] at el1;symm;refine zt el1 (fun y hy=>by obtain⟨z,hz,rfl⟩:=QS.mp hy;have:=(lh z hz).2.2.1;omega) (by rw[Qu];omega) ?_;symm;refine⟨⟨_,QI (s1 _ _ eB)⟩,?_⟩;refine bu (xs:=os) (fun _=>true) hiM (by omega) (QI (s1 _ _ eB)) ?_ ?_ ?_
   . intro y H2 R hy s2 k2;exact k2 _ (Qy _)
   . intro y H2 Q2 hy hb s2 k2;have hl:=lh y hy;show tOp cIx _ _ [none,some (.int y)] H2 Q2;symm;refine⟨y,rfl,by have:=(ie (om y hy).1 (om y hy).2);have:=this.1;omega,fun l H3 s3 hl3 el=>?_⟩;refine ixL el (zG hl.1.1) ?_;exact k2 _ s3
   . intro l2 H2 hl2 s2 el2;rw[ph] at el2;symm;refine zt el2 (fun y hy=>by obtain⟨z,hz,rfl⟩:=QS.mp hy;have:=(lh z hz).2.2.2;omega) (by rw[Qu];omega) ?_;symm;have s12:=s1.trans s2;have x2:=x.same s12;obtain⟨dx,W,C,h1,h2,h3⟩:=x2.ex;refine methE (k:=k) rfl x2.ok h1 (by rfl) ?_;symm;refine⟨r,p,ws,cs,n,m,rfl,x2,?_⟩;symm;by_cases hb:n<s+(os.map loM).sum
     . rw[QA hb,Sz] at q;rw[QA hb];symm;exact q _ s12
     . rw[Qx hb,RQ] at q;rw[Qx hb];symm;refine methE (k:=k) rfl x2.ok h1 (by rfl) ?_;symm;refine⟨r,p,ws,cs,n,m,rfl,x2,?_⟩;symm;exact q _ s12
theorem qR {k:RK} {r p A M:Addr} {ws:List (List Nat)} {Qh:List Int} {n m z s:Int} (x:IsRule H c k r p ws cs n m) (hC:aN cs Qh.length) (mm:∀ m∈Qh,0<=m/\m<64) (hA:H A=some (.lst (Qh.map V.int)))
  (q:∀ H',Same H H'->Q (.bl (smB (sgAt Qh (othL cs z)) n s)) H'):
  gW K c (eD9 Q) [some (.ref r),some (.ref A),some (.int z),some (.int s),some (.ref M),none,none,none] H:=by
 have hC2:aN (othL cs z) Qh.length:=⟨QG (QE _ _) hC.1,fun y hy=>hC.2 y (QW.mp hy).1⟩;have ol:(sgAt Qh (othL cs z)).length<=63:=by unfold sgAt;rw[Qu];exact hC2.1
 have om:=EK (z:=z) hC mm;unfold gW;symm;refine⟨k,r,p,ws,cs,n,m,z,rfl,x,hC.1,fun O H1 s1 hO eO=>?_⟩;symm;refine⟨A,O,Qh,othL cs z,rfl,s1 _ _ hA,eO,hC2,fun B H2 s2 hB eB=>?_⟩;have s12:=s1.trans s2;generalize sgAt Qh (othL cs z)=os at*;symm;rw[aA];symm;refine⟨B,os,rfl,eB,?_⟩;unfold smB at q;by_cases h0:0∈os
 . rw[QA h0,Sz] at q;rw[QA h0];refine⟨true,rfl,?_⟩;symm;exact q _ s12
 . rw[Qx h0,RQ] at q;rw[Qx h0];refine⟨false,rfl,?_⟩;symm;exact qQ (x.same s12) ol om h0 eB fun H' s3=>q H' (s12.trans s3)
theorem uN(h:dO K c vs H Q E):km K c (eD9 Q) (start ["rule","masks","cell","sign","more","some","least","greatest"] vs) H:=by
 obtain⟨k,r,p,A,M,ws,cs,Qh,ms,n,m,z,s,rfl,x,hC,mm,hA,hM,q⟩:=h;show km K c _ [some (.ref r),some (.ref A),some (.int z),some (.int s),some (.ref M),none,none,none] H;unfold km;rw[aL,aA];symm;refine⟨aT (by decide),fun Z hZ=>?_⟩;obtain⟨H1,z9,s1,eZ⟩:∃ z,upd H Z (.lst [])=z/\Same H z/\z Z=some (.lst (([]:List Int).map V.int)):=aY _ hZ;rw[z9];refine ox (s1 _ _ hM) eZ ?_;unfold sumB at q
 cases hb:decide (ms=[]) with
 | false=>
  rw[hb,QJ] at q;refine⟨true,rfl,?_⟩;symm;exact q _ s1
 | true=>
  rw[hb,QL] at q;refine⟨false,rfl,?_⟩;symm;exact qR (x.same s1) hC mm (s1 _ _ hA) fun H' s2=>q H' (s1.trans s2)
theorem AZ(t:TK):decide (tkC t=[115,117,109])=decide (t=.sum):=by cases t <;> decide
theorem A0 {H1:Hp} {n:Nat} {σ0:St} {te:TE} {fin:Addr->Hp->Prop} {h w g:Int} (F:FlOk h w g) (hn:n<=12) (hk:∀ k,k≠.Rule->c.ok k=true)
  (he:∀ i H Q,i<n->Same H1 H->(∀(r:RR) (H':Hp),Same H H'->r.Ok h w g->Q (.str r.txt) H')->te (σ0.set 1 (some (.int (0+(i:Int))))) H Q)
  (hd:∀ l Qj H,H1 l=none->Same H1 H->H l=some (.lst ((Qj.map RR.txt).map V.str))->Qj.length=n->ib c h w g Qj->fin l H):
  CompR (Itr 0 n) (gName 1) tTrue te fin σ0 H1:=by
 refine ow (fun l i σ H=>(σ=σ0\/∃ cv,σ=σ0.set 1 cv)/\Same H1 H/\∃ Qj:List RR,H l=some (.lst ((Qj.map RR.txt).map V.str))/\Qj.length=i/\∀ r∈Qj,r.Ok h w g) (fun l hl=>⟨.inl rfl,(Qy H1).laid hl,[],by rw[ah];rfl,rfl,fun _ h=>nomatch h⟩) ?_ (fun l σ H hl ⟨_,s1,Qj,el,hl2,hP⟩=>hd l Qj H hl s1 el hl2 ⟨F,by omega,hP,fun r hr=>hk _ (hP r hr).k0⟩);rintro l i σ H hl hi ⟨hσ,s1,Qj,el,hl2,hP⟩;rw[bo]
 have e:σ.set 1 (some (.int (0+(i:Int))))=σ0.set 1 (some (.int (0+(i:Int)))):=by
  rcases hσ with rfl | ⟨cv,rfl⟩
  . rfl
  . exact R1 ..
 rw[e,dN,Q6 rfl];refine he i H _ hi s1 fun r H2 s2 hr=>⟨_,s2 _ _ el,by simp;exact aD (by omega),.inr ⟨_,rfl⟩,(s1.trans s2).own hl,Qj++[r],by rw[ah];simp,by simp[hl2],fun z hz=>?_⟩;rcases QZ.mp hz with hz | hz
 . exact hP z hz
 . rw[QF.mp hz];exact hr
def mE(K:Frag)(c:RCl RK):Sp:=cR K c .Sum
def mF(K:Frag)(c:RCl RK):TS:=
 (tRet (tOp (cEq K) (tCB kSum (tCons (aI c c.ok "signs_at" (bU K c) (tVar 0) (tCons (tVar 1) tNil)) tNil)) (tFldK c (tVar 0) "amount")))
theorem Ea{xs:List Int}{n:Nat}(hC:aN cs n)(hn:n=xs.length)(hx:∀ x∈xs,0<=x/\x<=1000):∀ x∈sgAt xs cs,0<=x/\x<=1000:=fun x hm=>by
 unfold sgAt at hm;obtain⟨c,hc,rfl⟩:=QS.mp hm;have:=hC.2 c hc;have hl:c.toNat<xs.length:=by omega
 rw[List.getD,Qv hl];exact hx _ (QX hl)
theorem xh(h:mE K c vs H Q E):mF K c (eD9 Q) (start ["self","filling"] vs) H:=by
 obtain⟨r,p,f,ws,cs,xs,n,m,h,w,g,rfl,x,ha,F,hf,hC,hx,q⟩:=h;obtain⟨dx,W,C,h1,h2,h3⟩:=x.ex;show mF K c _ [some (.ref r),some (.ref f)] H;unfold mF;symm;refine methE rfl x.ok h1 (by rfl) ?_;symm;refine⟨r,p,f,ws,cs,xs,n,m,rfl,x,hf,hC,fun l H1 s1 hl el=>?_⟩;have Qq:(sgAt xs cs).length<=100:=by unfold sgAt;rw[Qu];exact QG hC.1 (by decide)
 symm;refine zt el (fun y hy=>by have:=Ea hC rfl hx y hy;omega) (by omega) ?_;refine fldE rfl x.ok (s1 _ _ h1) (v:=.int n) (by rfl) ?_;symm;exact q _ s1
theorem yX:∀ l:List Int,risB l=(List.range (l.length-1)).all fun i=>decide (l.getD i 0<l.getD (i+1) 0)
 | []=>rfl
 | [x]=>rfl
 | x::y::r=>by
  have ih:=yX (y::r);show(decide (x<y)&&risB (y::r))=(List.range (r.length+1)).all fun i=>decide ((x::y::r).getD i 0 < (x::y::r).getD (i+1) 0);rw[ih,List.range_succ_eq_map,SO,Sh];rfl
def jM(K:Frag)(c:RCl RK):Sp:=cR K c .Rising
def jN(K:Frag)(c:RCl RK):TS:=
 (tSeq (tAsg (aI c c.ok "signs_at" (bU K c) (tVar 0) (tCons (tVar 1) tNil)) (gName 2))
  (tRet (tCB kAll (tCons (tComp [none,none,some 2] (jj (tCons (tOp cSub (tCB kLen (tCons (tVar 2) tNil)) (tC (.int 1))) tNil)) (gName 1) tTrue (tOp (cCmp fun i j=>decide (i<j)) (tOp cIx (tVar 2) (tVar 1)) (tOp cIx (tVar 2) (tOp cAdd (tVar 1) (tC (.int 1)))))) tNil))))
theorem tP(h:jM K c vs H Q E):jN K c (eD9 Q) (start ["self","filling","signs"] vs) H:=by
 obtain⟨r,p,f,ws,cs,xs,n,m,h,w,g,rfl,x,ha,F,hf,hC,hx,q⟩:=h;obtain⟨dx,W,C,h1,h2,h3⟩:=x.ex;show jN K c _ [some (.ref r),some (.ref f),none] H;unfold jN;symm;refine methE rfl x.ok h1 (by rfl) ?_;symm;refine⟨r,p,f,ws,cs,xs,n,m,rfl,x,hf,hC,fun l H1 s1 hl el=>?_⟩;have Qq:(sgAt xs cs).length<=100:=by unfold sgAt;rw[Qu];exact QG hC.1 (by decide)
 have q1:∀ H',Same H H'->Q (.bl (risB (sgAt xs cs))) H':=q;generalize sgAt xs cs=sg at*;symm;rw[bt el,Qu];symm;refine⟨_,rfl,by omega,by omega,?_⟩;have en:((sg.length:Int)-1).toNat=sg.length-1:=by omega
 rw[en];refine rf (fun _=>true) (fun i=>.bl (decide (sg.getD i 0<sg.getD (i+1) 0))) (by omega) ?_ ?_ ?_
 . intro i H2 R hi s2 k2;exact k2 _ (Qy _)
 . intro i H2 Q2 hi hb s2 k2;show tOp _ _ _ [none,some (.int (0+(i:Int))),some (.ref l)] H2 Q2;rw[SD];symm;refine ixI (s2 _ _ el) (by omega) (by omega) ?_;refine ixI (s2 _ _ el) (by omega) (by omega) ?_;symm;have e1:(i:Int).toNat=i:=by omega
   have e2:((i:Int)+1).toNat=i+1:=by omega
   rw[e1,e2];exact k2 _ (Qy _)
 . intro l2 H2 hl2 s2 el2;rw[bf] at el2;refine lW (bs:=(List.range (sg.length-1)).map fun i=>decide (sg.getD i 0<sg.getD (i+1) 0)) (by rw[el2,Re];rfl) ?_
   have e:((List.range (sg.length-1)).map fun i=>decide (sg.getD i 0<sg.getD (i+1) 0)).all id=risB sg:=by
    rw[yX,Sh];rfl
   rw[e];exact q1 _ (s1.trans s2)
theorem B0(l:List Int)(x:Int):seenN (l++[x])=if (seenN l).1<x then(x,(seenN l).2+1) else seenN l:=by
 unfold seenN;rw[Sa];rfl
def lB(K:Frag)(c:RCl RK):Sp:=cR K c .Seen
def lC(K:Frag)(c:RCl RK):TS:=
 (tSeq (tAsg (tC (.int 0)) (gName 2))
  (tSeq (tAsg (tC (.int 0)) (gName 3))
  (tSeq (tFor (iList K (aI c c.ok "signs_at" (bU K c) (tVar 0) (tCons (tVar 1) tNil))) (gName 4)
  (tIfS (tTest (tOp (cCmp fun i j=>decide (j<i)) (tVar 4) (tVar 2))) (tSeq (tAsg (tVar 4) (gName 2))
  (tAsg (tOp cAdd (tVar 3) (tC (.int 1))) (gName 3))) tNext))
  (tRet (tOp (cEq K) (tVar 3) (tFldK c (tVar 0) "amount"))))))
theorem vO(h:lB K c vs H Q E):lC K c (eD9 Q) (start ["self","filling","greatest","seen","sign"] vs) H:=by
 obtain⟨r,p,f,ws,cs,xs,n,m,h,w,g,rfl,x,ha,F,hf,hC,hx,q⟩:=h;obtain⟨dx,W,C,h1,h2,h3⟩:=x.ex;show lC K c _ [some (.ref r),some (.ref f),none,none,none] H;unfold lC;symm;refine methE rfl x.ok h1 (by rfl) ?_;symm;refine⟨r,p,f,ws,cs,xs,n,m,rfl,x,hf,hC,fun l H1 s1 hl el=>?_⟩;have q1:∀ H',Same H H'->Q (.bl (decide ((seenN (sgAt xs cs)).2=n))) H':=q;generalize sgAt xs cs=sg at*;symm;refine⟨⟨_,QI el⟩,bx (K:=K) (xs:=sg.map V.int) (fun i σ H'=>∃ cv:Option V,σ=[some (.ref r),some (.ref f),some (.int (seenN (sg.take i)).1),some (.int (seenN (sg.take i)).2),cv]/\H'=H1) ⟨none,rfl,rfl⟩ (fun i σ H' _ ⟨_,_,e⟩=>by rw[e];exact QI el) ?_ ?_⟩
 . rintro i y σ H2 hy ⟨cv,rfl,rfl⟩;rw[QD] at hy
   cases e:sg[i]? with
   | none=>rw[e] at hy;cases hy
   | some z=>
    rw[e] at hy;cases hy;have et:sg.take (i+1)=sg.take i++[z]:=by rw[Td,e];rfl
    have ea:=B0 (sg.take i) z;rw[← et] at ea;symm;rw[aA];symm;by_cases hz:(seenN (sg.take i)).1<z
    . rw[QA hz];rw[Q6 hz] at ea;refine iteT ?_;rw[ea];exact⟨_,rfl,by first | trivial | rfl⟩
    . rw[Qx hz];rw[QT hz] at ea;refine iteF ?_;rw[ea];exact⟨_,rfl,by first | trivial | rfl⟩
 . rintro σ H2 ⟨cv,rfl,rfl⟩;rw[Qu,RB];symm;refine fldE rfl x.ok (s1 _ _ h1) (v:=.int n) (by rfl) ?_;symm;exact q1 _ s1
def dP(K:Frag)(c:RCl RK):Sp:=fun vs H Q E=>∃ k,b9 K c k vs H Q E
def kn(K:Frag)(c:RCl RK):TS:=
 (tRet (tComp [none,none,some 1,some 0] (iTup K (tFldK c (tVar 0) "cells")) (gName 1) (tTest (tOp (cEq K) (tOp cIx (tVar 2) (tVar 1)) (tFldK c (tVar 3) "mark"))) (tVar 1)))
theorem uO(h:dP K c vs H Q E):kn K c (eD9 Q) (start ["self","filling"] vs) H:=by
 obtain⟨k,r,p,f,ws,cs,xs,n,m,rfl,x,hf,⟨hn,hc⟩,q⟩:=h;obtain⟨dx,W,C,h1,h2,h3⟩:=x.ex;show kn K c _ [some (.ref r),some (.ref f)] H;unfold kn;rw[dG,uF];refine fldE rfl x.ok h1 (v:=.ref C) (by rfl) ?_;refine⟨C,rfl,⟨_,T7 h3⟩,?_⟩;refine vz (xs:=cs) (fun c=>decide (xs.getD c.toNat 0=m)) (fun c=>c) (by omega) h3 ?_ ?_ ?_
 . intro z H1 R hz s1 k1;show tTest _ [none,some (.int z),some (.ref f),some (.ref r)] H1 R;symm;have:=hc z hz;refine ixI (s1 _ _ hf) this.1 (by omega) ?_;refine fldE rfl x.ok (s1 _ _ h1) (v:=.int m) (by rfl) ?_;symm;exact k1 _ (Qy _)
 . intro z H1 Q1 hz hb s1 k1;show tVar 1 [none,some (.int z),some (.ref f),some (.ref r)] H1 Q1;exact⟨_,rfl,k1 _ (Qy _)⟩
 . intro l H1 hl s1 el;rw[RT] at el;exact q l H1 s1 hl el
def ko(K:Frag)(c:RCl RK):Sp:=cR K c .Count
def kq(K:Frag)(c:RCl RK):TS:=
 (tRet (tOp (cEq K) (tCB kLen (tCons (aI c c.ok "marked" (b9 K c) (tVar 0) (tCons (tVar 1) tNil)) tNil)) (tFldK c (tVar 0) "amount")))
theorem uP(h:ko K c vs H Q E):kq K c (eD9 Q) (start ["self","filling"] vs) H:=by
 obtain⟨r,p,f,ws,cs,xs,n,m,h,w,g,rfl,x,ha,F,hf,hC,hx,q⟩:=h;obtain⟨dx,W,C,h1,h2,h3⟩:=x.ex;show kq K c _ [some (.ref r),some (.ref f)] H;unfold kq;symm;refine methE rfl x.ok h1 (by rfl) ?_;symm;refine⟨r,p,f,ws,cs,xs,n,m,rfl,x,hf,hC,fun l H1 s1 hl el=>?_⟩;symm;rw[bt el,Qu];refine fldE rfl x.ok (s1 _ _ h1) (v:=.int n) (by rfl) ?_;symm;exact q _ s1
local macro_rules | `(tactic| walk_at "w")=>`(tactic| (first | simp only [aL,k8,nh,gk,k9,jh,ji,ni,nc,k7,ng,if_true,if_false,Bool.false_eq_true,decide_true,decide_false,gN,gO,lY,dZ,dg,gL,jq,gM,dX,jo,jp,dW,lV,d0,d2,d4,d5,d6,d7,d3,jr,js,jt,jm,lX,Bool.not_true,Bool.not_false,dJ,cp,bo,gI,w_c,iN,dG,e7,dL,e8,w_b,w_not,im,lj,fc,fe,io,gJ,dM,lm,ff,ip,gK,kf,iq,dN,fg,fh,fj,c9,da,cq,cr,cu,b8,iu,iw,iy,iz,iA,iB,iC,iD,iE,iF,iG,iH,lp,fk,cw,fm,lq,fq,db,cy,iI,iJ,ft,fu,fv,
 List.getElem?_cons_zero,List.getElem?_cons_succ,Option.some.injEq,exists_eq_left',exists_eq_left,List.set_cons_zero,List.set_cons_succ,ce,V.int.injEq,V.bl.injEq,V.ref.injEq,V.str.injEq,List.append_nil,List.nil_append,List.cons_append] | dsimp only | skip))
def gy(K:Frag):Sp:=fun vs H Q _=>∃(S M:Addr) (sq ms:List Int),vs=[.ref S,.ref M]/\H S=some (.lst (sq.map V.int))/\H M=some (.lst (ms.map V.int))/\sq.length<=100/\∀ H',Same H H'->Q (.bl (sq.all fun c=>decide (c∈ms))) H'
def mG(K:Frag):TS:=
 (tRet (tCB kAll (tCons (tComp [none,none,some 1] (iList K (tVar 0)) (gName 1) tTrue (tOp (cIn K false) (tVar 1) (tVar 2))) tNil)))
variable{vs:List V}
theorem xi{K:Frag}{H:Hp}{Q:VK}{E:XK}(h:gy K vs H Q E):mG K (eD9 Q) (start ["some","cells"] vs) H:=by
 obtain⟨S,M,sq,ms,rfl,hS,hM,hn,q⟩:=h;show mG K _ [some (.ref S),some (.ref M)] H;unfold mG;symm;refine⟨⟨_,QI hS⟩,?_⟩;refine bY (xs:=sq.map V.int) (fun _=>true) (fun i=>.bl (decide (sq.getD i 0∈ms))) (by rw[Qu];omega) (QI hS) ?_ ?_ ?_
 . intro i x H1 R hx s1 k1;exact k1 _ (Qy _)
 . intro i x H1 Q1 hx hb s1 k1;rw[QD] at hx
   cases e:sq[i]? with
   | none=>rw[e] at hx;cases hx
   | some z=>
    rw[e] at hx;cases hx;have k2:=k1 _ (Qy H1);rw[List.getD,e] at k2;show tOp (cIn K false) _ _ [none,some (.int z),some (.ref M)] H1 Q1;symm;rw[mf (s1 _ _ hM)];exact k2
 . intro l H1 hl s1 el;rw[bf,Qu] at el;refine lW (bs:=(List.range sq.length).map fun i=>decide (sq.getD i 0∈ms)) (by rw[el,Re];rfl) ?_
   have e:((List.range sq.length).map fun i=>decide (sq.getD i 0∈ms)).all id=sq.all fun c=>decide (c∈ms):=by
    rw[Sh,Q0,QO,QO];constructor
    . intro h c hc;obtain⟨i,hi,rfl⟩:=RW.mp hc;have:=h i (QQ.mpr hi);dsimp only[Function.comp,id] at this;rw[List.getD,Qv hi] at this;exact this
    . intro h i hi;have hi:=QQ.mp hi;have:=h _ (QX hi);dsimp only[Function.comp,id];rw[List.getD,Qv hi];exact this
   rw[e];exact q _ s1
def gX(K:Frag)(c:RCl RK):Sp:=cR K c .NoSquare
theorem C2{h w g:Int}(F:FlOk h w g):(squL h w).length<=16:=by
 obtain⟨h0,h1,w0,w1,m16,g0,g1⟩:=F;unfold squL;rw[Qu];refine QG (QE _ _) ?_;rw[RH];omega
def gY(K:Frag)(c:RCl RK):TS:=
 (tSeq (tAsg (aI c c.ok "marked" (b9 K c) (tVar 0) (tCons (tVar 1) tNil)) (gName 2))
  (tRet (tNotV (tCB kAny (tCons (tComp [none,none,some 2] (iList K (tCall (cH K) [] E0 (tCons (tFldK c (tVar 0) "floor") tNil))) (gName 1) tTrue (tCall (gy K) [] E0 (tCons (tVar 1) (tCons (tVar 2) tNil)))) tNil)))))
theorem qS{K:Frag}{c:RCl RK}{H:Hp}{Q:VK}{E:XK}(h:gX K c vs H Q E):gY K c (eD9 Q) (start ["self","filling","cells"] vs) H:=by
 obtain⟨r,p,f,ws,cs,xs,n,m,h,w,g,rfl,x,ha,F,hf,hC,hx,q⟩:=h;obtain⟨dx,W,C,h1,h2,h3⟩:=x.ex;show gY K c _ [some (.ref r),some (.ref f),none] H;unfold gY;symm;refine methE rfl x.ok h1 (by rfl) ?_;symm;refine⟨r,p,f,ws,cs,xs,n,m,rfl,x,hf,hC,fun l H1 s1 hl el=>?_⟩;symm;refine fldE rfl x.ok (s1 _ _ h1) (v:=.ref p) (by rfl) ?_;symm;refine⟨p,h,w,g,rfl,s1 _ _ ha,F,fun L as H2 s2 hL xL _ _ _=>?_⟩;have sl:=C2 F;refine⟨L,rfl,⟨_,QI xL.top⟩,?_⟩;refine bY (xs:=as.map V.ref) (fun _=>true) (fun i=>.bl (((squL h w).getD i []).all fun c=>decide (c∈mkAt xs cs m))) (by rw[Qu,xL.len];omega) (QI xL.top) ?_ ?_ ?_
 . intro i x H3 R hx s3 k3;exact k3 _ (Qy _)
 . intro i y H3 Q3 hi hb s3 k3;obtain⟨b,hb,rfl⟩:=bA hi;have hlt:i < (squL h w).length:=by rw[← xL.len];exact(Qz.mp hb).1
   have e:=Qv hlt;have eg:(squL h w).getD i []=(squL h w)[i]:=by rw[List.getD,e];rfl
   have hq4:((squL h w)[i]).length<=100:=by
    have hm:=QX hlt;generalize (squL h w)[i]=z at hm;unfold squL at hm;obtain⟨j,_,rfl⟩:=QS.mp hm;show 4<=100;decide
   show tCall _ _ _ _ [none,some (.ref b),some (.ref l)] H3 Q3;symm;refine⟨b,l,_,_,rfl,s3 _ _ (xL.at_ i b _ hb e),s3 _ _ (s2 _ _ el),hq4,fun H4 s4=>?_⟩;have:=k3 H4 s4;rw[eg] at this;exact this
 . intro D H3 hD s3 eD;rw[bf,Qu,xL.len] at eD;refine zv (bs:=(List.range (squL h w).length).map fun i=>((squL h w).getD i []).all fun c=>decide (c∈mkAt xs cs m)) (by rw[eD,Re];rfl) ?_
   have e:((List.range (squL h w).length).map fun i=>((squL h w).getD i []).all fun c=>decide (c∈mkAt xs cs m)).any id=(squL h w).any fun sq=>sq.all fun c=>decide (c∈mkAt xs cs m):=by
    rw[T6,Q0,Sn,Sn];constructor
    . rintro⟨i,hi,hh⟩;have hi:=QQ.mp hi;dsimp only[Function.comp,id] at hh;have eg:(squL h w).getD i []=(squL h w)[i]:=by rw[List.getD,Qv hi];rfl
      rw[eg] at hh;exact⟨_,QX hi,hh⟩
    . rintro⟨sq,hs,hh⟩;obtain⟨i,hi,rfl⟩:=RW.mp hs;refine⟨i,QQ.mpr hi,?_⟩;dsimp only[Function.comp,id];have eg:(squL h w).getD i []=(squL h w)[i]:=by rw[List.getD,Qv hi];rfl
      rw[eg];exact hh
   rw[e];symm;exact q _ ((s1.trans s2).trans s3)
local macro_rules | `(tactic| walk_at "w")=>`(tactic| (first | simp only [aL,k8,nh,gk,k9,jh,ji,ni,nc,k7,ng,if_true,if_false,Bool.false_eq_true,decide_true,decide_false,gN,gO,lY,dZ,dg,gL,jq,gM,dX,jo,jp,dW,lV,d0,d2,d4,d5,d6,d7,d3,jr,js,jt,jm,lX,Bool.not_true,Bool.not_false,dJ,cp,bo,gI,w_c,iN,dG,e7,dL,e8,w_b,w_not,im,lj,fc,fe,io,gJ,dM,lm,ff,ip,gK,kf,iq,dN,fg,fh,fj,c9,da,cq,cr,cu,b8,iu,iw,iy,iz,iA,iB,iC,iD,iE,iF,iG,iH,lp,fk,cw,fm,lq,fq,db,cy,iI,iJ,ft,fu,fv,
 List.getElem?_cons_zero,List.getElem?_cons_succ,Option.some.injEq,exists_eq_left',exists_eq_left,List.set_cons_zero,List.set_cons_succ,ce,V.int.injEq,V.bl.injEq,V.ref.injEq,V.str.injEq,List.append_nil,List.nil_append,List.cons_append] | dsimp only | skip))
def b4(K:Frag):Sp:=fun vs H Q _=>∃(a l:Addr) (h w g st:Int) (cs:List Int),vs=[.ref a,.ref l,.int st]/\IsFl H a h w g/\0<w/\w<100/\H l=some (.lst (cs.map V.int))/\cs.length<=63/\
 ∀(p:Addr) (H':Hp) (rs:List Int),Same H H'->H p=none->H' p=some (.lst (rs.map V.int))->rs.Pairwise (· < ·)->(∀ x,x∈rs↔RC h w cs st x)->Q (.ref p) H'
def oO(K:Frag):TS:=
 (tSeq (tIfS (tTest (tOp (cIn K true) (tVar 2) (tVar 1))) (tRet (tLst tNil)) tNext)
  (tSeq (tAsg (tLst (tCons (tVar 2) tNil)) (gName 3))
  (tSeq (tAsg (tC (.int 0)) (gName 4))
  (tSeq (wt (tTest (tOp (cCmp fun i j=>decide (i<j)) (tVar 4) (tCB kLen (tCons (tVar 3) tNil))))
  (tSeq (tFor (iList K (tCall (bH K) [] E0 (tCons (tVar 0) (tCons (tOp cIx (tVar 3) (tVar 4)) tNil)))) (gName 5)
  (tIfS (tAnd (tTest (tOp (cIn K false) (tVar 5) (tVar 1))) (tTest (tOp (cIn K true) (tVar 5) (tVar 3)))) (tDrop (tBM K "list" b7 (tVar 3) (tCons (tVar 5) tNil))) tNext))
  (tAsg (tOp cAdd (tVar 4) (tC (.int 1))) (gName 4))))
  (tRet (tCB fI (tCons (tVar 3) tNil)))))))
variable{K:Frag}{vs:List V}{H:Hp}{Q:VK}{E:XK}
theorem zI(h:b4 K vs H Q E):oO K (eD9 Q) (start ["floor","cells","start","found","place","cell"] vs) H:=by
 obtain⟨a,l,h,w,g,st,cs,rfl,ha,w0,w1,hl,hn,k⟩:=h;show oO K _ [some (.ref a),some (.ref l),some (.int st),none,none,none] H;unfold oO;rw[aL,aA];symm;rw[m6 hl];symm;by_cases hs:st∈cs
 . rw[QT (by simpa using hs)];symm;refine⟨lnR rfl,fun f hf=>?_⟩
   refine⟨fun m σ H'=>∃(fs:List Int) (pl:Nat) (cv:Option V),σ=[some (.ref a),some (.ref l),some (.int st),some (.ref f),some (.int pl),cv]/\Same H H'/\H' f=some (.lst (fs.map V.int))/\BI h w cs st fs pl/\m=cs.length-pl,
    ⟨_,[st],0,none,rfl,(Qy H).laid hf,ah,BI.start hs,rfl⟩,?_⟩
   rintro m σ H1 ⟨fs,pl,cv,rfl,s1,e1,B,rfl⟩;have hfl:=B.len;symm;rw[bt e1,Qu];symm;by_cases hp:pl<fs.length
   . rw[Q6 (by simpa using hp)];obtain⟨x,hx⟩:∃ x,fs[pl]? =some x:=⟨fs[pl],by simp[hp]⟩;have rx:RC h w cs st x:=B.rc x (QC hx)
     refine⟨fun σ H'=>∃(fs:List Int) (cv:Option V),σ=[some (.ref a),some (.ref l),some (.int st),some (.ref f),some (.int ((pl:Int)+1)),cv]/\Same H H'/\H' f=some (.lst (fs.map V.int))/\BI h w cs st fs (pl+1),
      fun σ' H' ⟨fs',cv',e,s',e',B'⟩=>⟨_,by omega,fs',pl+1,cv',by rw[e];rfl,s',e',B',rfl⟩,?_⟩
     symm;rw[Ca e1];refine be (rA (by omega) (by omega)) ?_;symm;rw[show((pl:Int)).toNat=pl from Int.toNat_natCast _,fJ hx];refine⟨a,h,w,g,x,rfl,s1 _ _ ha,w0,w1,fun b H2 s2 hb e2=>?_⟩;have s12:=s1.trans s2
     refine⟨b,rfl,⟨_,QI e2⟩,bx (K:=K) (xs:=(besL h w x).map V.int) (fun i σ H'=>∃(f2:List Int) (cv:Option V),σ=[some (.ref a),some (.ref l),some (.int st),some (.ref f),some (.int pl),cv]/\Same H H'/\H' b=some (.lst ((besL h w x).map V.int))/\H' f=some (.lst (f2.map V.int))/\BJ h w cs st fs pl ((besL h w x).take i) f2)
      ⟨fs,cv,rfl,s12,e2,s2 _ _ e1,BJ.zero B⟩ (fun i σ H' _ ⟨_,_,_,_,q,_⟩=>QI q) ?_ ?_⟩
     . rintro i y σ H3 hy ⟨f2,cv2,rfl,s3,eb,ef,J⟩;rw[QD] at hy
       cases hz:(besL h w x)[i]? with
       | none=>rw[hz] at hy;cases hy
       | some z=>
        rw[hz] at hy;cases hy;have hlen2:f2.length<=63:=QG (oz J.nd fun x hx=>(J.rc x hx).mem) hn;have hmem:z∈besL h w x:=QC hz;have htake:(besL h w x).take (i+1)=(besL h w x).take i++[z]:=by rw[RI,hz];rfl
        have J2:=J.more rx hmem;rw[← htake] at J2;symm;rw[aA];symm;rw[mf (s3 _ _ hl)];symm
        have fin:∀ H4:Hp,H4 f=some (.lst ((addC cs f2 z).map V.int))->(∀ c,c≠f->H4 c=H3 c)->∃(f2:List Int) (cv:Option V),[some (V.ref a),some (.ref l),some (.int st),some (.ref f),some (.int pl),some (.int z)]=[some (.ref a),some (.ref l),some (.int st),some (.ref f),some (.int pl),cv]/\Same H H4/\H4 b=some (.lst ((besL h w x).map V.int))/\H4 f=some (.lst (f2.map V.int))/\BJ h w cs st fs pl ((besL h w x).take (i+1)) f2:=fun H4 q1 q2=>
         ⟨_,_,rfl,fun c o e=>by rw[q2 c (aC e hf)];exact s3 c o e,by rw[q2 b (fun e=>by rw[e] at hb;rw[e1] at hb;cases hb)];exact eb,q1,J2⟩
        by_cases c1:z∈cs
        . rw[Q6 (by simpa using c1)];rw[m6 ef];by_cases c2:z∈f2
          . simp only[c2,decide_true,Sc,QT Qt,V.bl.injEq,exists_eq_left'];refine fin H3 ?_ fun _ _=>rfl;rw[ef,addC,QT (fun q=>q.2 c2)]
          . simp only[c2,decide_false,Sl,T4,V.bl.injEq,exists_eq_left'];symm;refine⟨bj ef,?_⟩;rw[gg ef];refine⟨by rw[Qu];exact aD (by omega),fin _ ?_ fun c hc=>ao hc⟩;rw[ah,addC,Q6 ⟨c1,c2⟩];simp
        . rw[QT (by simpa using c1)]
          try simp only[QT Qt]
          refine fin H3 ?_ fun _ _=>rfl;rw[ef,addC,QT (fun q=>c1 q.1)]
     . rintro σ H3 ⟨f2,cv2,rfl,s3,eb,ef,J⟩;rw[Qu,RB] at J;symm;exact⟨f2,cv2,rfl,s3,ef,J.done B hx⟩
   . rw[QT (by simpa using hp)];symm;unfold fI;dsimp only;rw[e1];refine⟨fs,rfl,by omega,fun rs p hpn pm ps=>?_⟩;refine k p _ rs (s1.laid hpn) (s1.free hpn) ah (AG pm ps B.nd) fun x=>?_;rw[pm.mem_iff];exact B.done hp x
 . rw[Q6 (by simpa using hs)];symm;refine⟨Rx _,fun p hp=>k p _ [] ((Qy H).laid hp) hp ah .nil fun x=>⟨(fun q=>nomatch q),fun r=>absurd (RC.st r) hs⟩⟩
variable{h w:Int}{ms:List Int}
theorem joinB_iff:joinB h w ms=true↔(ms=[]\/(ms.Pairwise (· < ·)/\∀ x∈ms,RC h w ms (ms.headD 0) x)):=by
 unfold joinB;exact @decide_eq_true_iff _ (Classical.propDecidable _)
def c7(K:Frag)(c:RCl RK):Sp:=fun vs H Q E=>∃ k,cS K c k vs H Q E
def fO(K:Frag)(c:RCl RK):TS:=
 (tRet (tOrV (tOp (cEq K) (tVar 1) (tLst tNil)) (tOp (cEq K) (tCall (b4 K) [] E0 (tCons (tFldK c (tVar 0) "floor") (tCons (tVar 1) (tCons (tOp cIx (tVar 1) (tC (.int 0))) tNil)))) (tVar 1))))
variable{c:RCl RK}
theorem pk(h:c7 K c vs H Q E):fO K c (eD9 Q) (start ["self","cells"] vs) H:=by
 obtain⟨k,r,p,C,ws,cs,ms,n,m,h,w,g,rfl,x,ha,F,hC,hn,q⟩:=h;obtain⟨h0,h1',w0,w1,m16,g0,g1⟩:=id F;obtain⟨dx,W,C',h1,h2,h3⟩:=x.ex;show fO K c _ [some (.ref r),some (.ref C)] H;unfold fO;symm;refine⟨lnR rfl,fun l hl=>?_⟩;obtain⟨H1,z9,s1,el⟩:∃ z,upd H l (.lst [])=z/\Same H z/\z l=some (.lst (([]:List Int).map V.int)):=aY _ hl;rw[z9];refine qD (s1 _ _ hC) el ?_;symm
 cases ms with
 | nil=>
  have e:joinB h w []=true:=joinB_iff.mpr (.inl rfl);have:=q _ s1;rw[e] at this;rw[QA rfl,Q6 rfl];exact this
 | cons z zs=>
  rw[Qx (by simp),QT (by decide)];refine fldE rfl x.ok (s1 _ _ h1) (v:=.ref p) (by rfl) ?_;symm;refine ixL (s1 _ _ hC) (v:=V.int z) (dI (j:=0) rfl) ?_;symm;refine⟨p,C,h,w,g,z,z::zs,rfl,s1 _ _ ha,by omega,by omega,s1 _ _ hC,hn,fun u H2 rs s2 hu eu rise mem=>?_⟩;refine qD eu (s2 _ _ (s1 _ _ hC)) ?_
  have e:decide (rs=z::zs)=joinB h w (z::zs):=by
   rw[Q0,QB,joinB_iff];constructor
   . intro e;subst e;exact .inr ⟨rise,fun x hx=>(mem x).mp hx⟩
   . rintro(e | ⟨rise2,all⟩)
     . cases e
     . exact sS rise rise2 fun y=>⟨fun hy=>((mem y).mp hy).mem,fun hy=>(mem y).mpr (all y hy)⟩
  rw[e];exact q _ (s1.trans s2)
def jO(K:Frag)(c:RCl RK):Sp:=cR K c .Joined
def jP(K:Frag)(c:RCl RK):TS:=
 (tRet (aI c c.ok "is_joined" (cS K c) (tVar 0) (tCons (aI c c.ok "marked" (b9 K c) (tVar 0) (tCons (tVar 1) tNil)) tNil)))
variable{xs cs:List Int}{m:Int}
theorem A1(hn:cs.length<=63):(mkAt xs cs m).length<=63:=by
 unfold mkAt;exact QG (QE _ _) hn
theorem tQ(h:jO K c vs H Q E):jP K c (eD9 Q) (start ["self","filling"] vs) H:=by
 obtain⟨r,p,f,ws,cs,xs,n,m,h,w,g,rfl,x,ha,F,hf,hC,hx,q⟩:=h;obtain⟨dx,W,C,h1,h2,h3⟩:=x.ex;show jP K c _ [some (.ref r),some (.ref f)] H;unfold jP;symm;refine methE rfl x.ok h1 (by rfl) ?_;symm;refine methE rfl x.ok h1 (by rfl) ?_;symm;refine⟨r,p,f,ws,cs,xs,n,m,rfl,x,hf,hC,fun l H1 s1 hl el=>?_⟩;exact⟨r,p,l,ws,cs,_,n,m,h,w,g,rfl,x.same s1,s1 _ _ ha,F,el,A1 hC.1,fun H2 s2=>q _ (s1.trans s2)⟩
def dA(K:Frag)(c:RCl RK):Sp:=dH K c .Ring
def dB(K:Frag)(c:RCl RK):TS:=
 (tRet (tOp (cEq K) (tCB kLen (tCons (tComp [none,none,some 1] (iList K (tCall (bH K) [] E0 (tCons (tFldK c (tVar 0) "floor") (tCons (tVar 2) tNil)))) (gName 1) (tTest (tOp (cIn K false) (tVar 1) (tVar 2))) (tVar 1)) tNil)) (tC (.int 2))))
theorem C5(h w c:Int):(besL h w c).length<=4:=by
 unfold besL
 repeat rw[Q8]
 split <;> split <;> split <;> split <;> simp
theorem nK(h:dA K c vs H Q E):dB K c (eD9 Q) (start ["self","cells","cell"] vs) H:=by
 obtain⟨r,p,C,ws,cs,ms,n,m,h,w,g,z,rfl,x,ha,F,hC,hn,q⟩:=h;obtain⟨h0,h1',w0,w1,m16,g0,g1⟩:=id F;obtain⟨dx,W,C',h1,h2,h3⟩:=x.ex;show dB K c _ [some (.ref r),some (.ref C),some (.int z)] H;unfold dB;symm;refine fldE rfl x.ok h1 (v:=.ref p) (by rfl) ?_;symm;refine⟨p,h,w,g,z,rfl,ha,by omega,by omega,fun b H2 s2 hb e2=>?_⟩;have bl:=C5 h w z;refine⟨b,rfl,⟨_,QI e2⟩,?_⟩;refine bu (xs:=besL h w z) (fun y=>decide (y∈ms)) (fun y=>y) (by omega) (QI e2) ?_ ?_ ?_
 . intro y H3 R hy s3 k3;show tTest _ [none,some (.int y),some (.ref C)] H3 R;symm;rw[mf (s3 _ _ (s2 _ _ hC))];exact⟨_,rfl,k3 _ (Qy _)⟩
 . intro y H3 Q3 hy hb s3 k3;exact⟨_,rfl,k3 _ (Qy _)⟩
 . intro l H3 hl s3 el;rw[RT] at el;symm;rw[bt el,Qu];symm;have:=q _ (s2.trans s3);unfold twoB at this
   have e:decide ((((besL h w z).filter fun y=>decide (y∈ms)).length:Int)=2)=decide (((besL h w z).filter fun y=>decide (y∈ms)).length=2):=by
    rw[Q0,QB,QB];omega
   rw[e];exact this
def lD(K:Frag)(c:RCl RK):Sp:=cR K c .Ring
def lE(K:Frag)(c:RCl RK):TS:=
 (tSeq (tAsg (aI c c.ok "marked" (b9 K c) (tVar 0) (tCons (tVar 1) tNil)) (gName 2))
  (tRet (tAndV (aI c c.ok "is_joined" (cS K c) (tVar 0) (tCons (tVar 2) tNil)) (tCB kAll (tCons (tComp [none,none,some 2,some 0] (iList K (tVar 2)) (gName 1) tTrue (aI c c.ok "has_two_beside" (dH K c) (tVar 3) (tCons (tVar 2) (tCons (tVar 1) tNil)))) tNil)))))
theorem vP(h:lD K c vs H Q E):lE K c (eD9 Q) (start ["self","filling","cells"] vs) H:=by
 obtain⟨r,p,f,ws,cs,xs,n,m,h,w,g,rfl,x,ha,F,hf,hC,hx,q⟩:=h;obtain⟨dx,W,C,h1,h2,h3⟩:=x.ex;show lE K c _ [some (.ref r),some (.ref f),none] H;unfold lE;symm;refine methE rfl x.ok h1 (by rfl) ?_;symm;refine⟨r,p,f,ws,cs,xs,n,m,rfl,x,hf,hC,fun l H1 s1 hl el=>?_⟩;have hml:=A1 (xs:=xs) (m:=m) hC.1;have q1:∀ H',Same H H'->Q (.bl (joinB h w (mkAt xs cs m)&&(mkAt xs cs m).all (twoB h w (mkAt xs cs m)))) H':=q;generalize mkAt xs cs m=ms at*;symm;refine methE rfl x.ok (s1 _ _ h1) (by rfl) ?_;symm;refine⟨r,p,l,ws,cs,ms,n,m,h,w,g,rfl,x.same s1,s1 _ _ ha,F,el,hml,fun H2 s2=>?_⟩;have s12:=s1.trans s2;symm
 cases hj:joinB h w ms with
 | false=>
  rw[hj] at q1
  first | exact iteF (q1 _ s12) | exact q1 _ s12
 | true=>
  rw[hj] at q1;refine iteT ?_;refine⟨⟨_,QI (s2 _ _ el)⟩,?_⟩;refine bY (xs:=ms.map V.int) (fun _=>true) (fun i=>.bl (twoB h w ms (ms.getD i 0))) (by rw[Qu];omega) (QI (s2 _ _ el)) ?_ ?_ ?_
  . intro i y H3 R hy s3 k3;exact k3 _ (Qy _)
  . intro i y H3 Q3 hy hb s3 k3;rw[QD] at hy
    cases e:ms[i]? with
    | none=>rw[e] at hy;cases hy
    | some z=>
     rw[e] at hy;cases hy;have s13:=s12.trans s3;have eg:ms.getD i 0=z:=by rw[List.getD,e];rfl
     show aI _ _ _ _ _ _ [none,some (.int z),some (.ref l),some (.ref r)] H3 Q3;refine methE rfl x.ok (s13 _ _ h1) (by rfl) ?_;symm;refine⟨r,p,l,ws,cs,ms,n,m,h,w,g,z,rfl,x.same s13,s13 _ _ ha,F,s3 _ _ (s2 _ _ el),hml,fun H4 s4=>?_⟩;have:=k3 H4 s4;rw[eg] at this;exact this
  . intro l2 H3 hl2 s3 el2;rw[bf,Qu] at el2;refine lW (bs:=(List.range ms.length).map fun i=>twoB h w ms (ms.getD i 0)) (by rw[el2,Re];rfl) ?_
    have e:((List.range ms.length).map fun i=>twoB h w ms (ms.getD i 0)).all id=ms.all (twoB h w ms):=by
     have em:(List.range ms.length).map (fun i=>ms.getD i 0)=ms:=by
      refine Ts (by simp) fun i h1 h2=>?_;simp at h1;simp[List.getD,Qv h1]
     have e2:(List.range ms.length).map (fun i=>twoB h w ms (ms.getD i 0))=ms.map (twoB h w ms):=by
      rw[← em,Re,em];rfl
     rw[e2,Sh];rfl
    rw[e];exact q1 _ (s12.trans s3)
theorem B1{α:Type}(F:Int->α)(ss:List Int):(List.range ss.length).map (fun i=>F (ss.getD i 0))=ss.map F:=by
 refine RZ fun i=>?_;rw[QD,QD];by_cases h:i<ss.length
 . rw[RG h,Qv h];simp[List.getD,h]
 . rw[Q7 (by simpa using h),Q7 (by omega)];rfl
variable{i:Nat}
theorem vD{α:Type}{l:List α}{x:α}(h:l[i]? =some x):l.take (i+1)=l.take i++[x]:=by
 rw[Td,h];rfl
variable{l:Addr}{as:List Addr}{Qo:List (List Int)}
theorem IsLL.app{bs:List Addr}{yss:List (List Int)}(x:IsLL H l as Qo)(nl:l∉as)(nb:l∉bs)(len:bs.length=yss.length)(at2:∀(j:Nat) (a:Addr) (ys:List Int),bs[j]? =some a->yss[j]? =some ys->H a=some (.lst (ys.map V.int))):
  IsLL (upd H l (.lst (as.map V.ref++bs.map V.ref))) l (as++bs) (Qo++yss):=by
 have hx:=x.len;refine⟨by rw[ah,TQ],by rw[Q8,Q8,x.len,len],fun j a ys h1 h2=>?_⟩;by_cases hj:j<as.length
 . rw[Rh hj] at h1;rw[Rh (by omega)] at h2;have ne:a≠l:=fun z=>nl (z ▸ QC h1);rw[ao ne];exact x.at_ j a ys h1 h2
 . rw[Rs (by omega)] at h1;rw[Rs (by omega)] at h2;have ne:a≠l:=fun z=>nb (z ▸ QC h1);rw[ao ne];exact at2 _ a ys h1 (by rw[hx];exact h2)
theorem IsLL.get{a:Addr}(x:IsLL H l as Qo)(h:as[i]? =some a):∃ xs,Qo[i]? =some xs/\H a=some (.lst (xs.map V.int)):=by
 have hi:=(Qz.mp h).1;have e:Qo[i]? =some (Qo[i]'(by have:=x.len;omega)):=Qv _;exact⟨_,e,x.at_ i a _ h e⟩
variable{n:Nat}
theorem A3(h:n<=1100):n<sizeLine:=RL h (by decide)
variable{p:Addr}
theorem A4{q:Addr}{xs ys:List V}(hp:H p=some (.lst xs))(hq:H q=some (.lst ys))(hn:xs.length+ys.length<=1100)(h:Q .non (upd H p (.lst (xs++ys)))):l8 (.ref p) [.ref q] H Q:=by
 show bnd (unM (H p)) _;rw[hp];show bnd (unM (H q)) _;rw[hq];exact⟨Rf (A3 hn),h⟩
theorem yY(m:Int):(sgL m).length<=Builtin.Int.intBits m:=by
 unfold sgL;rw[Qu];refine QG (QE _ _) ?_;rw[RH];exact QR _
def prodW(ms:List Int):Nat:=ms.foldl (fun p m=>p*(sgL m).length) 1
theorem tR{α:Type}{x:Int}(f:α->Int->α)(a:α)(h:xs[i]? =some x):(xs.take (i+1)).foldl f a=f ((xs.take i).foldl f a) x:=by
 rw[Td,h,Sa];rfl
def oq(K:Frag):Sp:=fun vs H Q _=>∃(p:Addr) (ms:List Int),vs=[.ref p]/\H p=some (.lst (ms.map V.int))/\(∀ m∈ms,Builtin.Int.intBits m<=900)/\∀ H',Same H H'->Q (.int ((prodW ms:Nat):Int)) H'
def uQ(K:Frag):TS:=
 (tSeq (tAsg (tC (.int 1)) (gName 1))
  (tSeq (tFor (iList K (tVar 0)) (gName 2)
  (tAsg (tOp cMul (tVar 1) (tCB kLen (tCons (tCall (aP K) [] E0 (tCons (tVar 2) tNil)) tNil))) (gName 1)))
  (tRet (tVar 1))))
theorem C6(h:oq K vs H Q E):uQ K (eD9 Q) (start ["masks","product","mask"] vs) H:=by
 obtain⟨p,ms,rfl,hp,hb,k⟩:=h;show uQ K _ [some (.ref p),none,none] H;unfold uQ;symm;refine⟨⟨_,QI hp⟩,bx (K:=K) (xs:=ms.map V.int) (fun i σ H'=>∃ mv:Option V,σ=[some (.ref p),some (.int ((prodW (ms.take i):Nat):Int)),mv]/\Same H H') ⟨none,rfl,Qy H⟩ (fun i σ H' _ ⟨_,_,s⟩=>QI (s _ _ hp)) ?_ ?_⟩
 . rintro i x σ H1 hx ⟨mv,rfl,s1⟩;obtain⟨m,hm,rfl⟩:=aS hx;have hbm:=hb m (QC hm);symm;refine⟨m,rfl,hbm,fun l H2 s2 hl el=>?_⟩;symm;rw[bt el];symm;have h1:=yY m;rw[Qu];refine⟨.inr ⟨by omega,by omega⟩,some (.int m),?_,s1.trans s2⟩;unfold prodW;rw[tR _ _ hm,Int.natCast_mul]
 . rintro σ H1 ⟨mv,rfl,s1⟩;symm;rw[Ry (by rw[Qu];exact QR _)] at*;exact k _ s1
def setL(xs:List Int)(z s:Int):List Int:=(List.range xs.length).map fun(i:Nat)=>if (i:Int)=z then s else xs.getD i 0
variable{z s:Int}
theorem xj:(setL xs z s).length=xs.length:=by unfold setL;simp
theorem yZ(s0:0<=s)(s6:s<=6)(hx:∀ x∈xs,0<=x/\x<=6):∀ x∈setL xs z s,0<=x/\x<=6:=fun x h=>by
 unfold setL at h;obtain⟨i,hi,rfl⟩:=QS.mp h;have hlt:=QQ.mp hi;have hb:=hx _ (QX hlt);have eg:xs.getD i 0=xs[i]:=by rw[List.getD,Qv hlt];rfl
 rw[eg]
 split
 . exact⟨s0,s6⟩
 . exact hb
def cY(K:Frag):Sp:=fun vs H Q _=>∃(F:Addr) (xs:List Int) (z s:Int),vs=[.ref F,.int z,.int s]/\H F=some (.lst (xs.map V.int))/\xs.length<=100/\∀ l H',Same H H'->H l=none->H' l=some (.lst ((setL xs z s).map V.int))->Q (.ref l) H'
def mH(K:Frag):TS:=
 (tRet (tComp [none,none,none,some 1,some 2] (iEnum K (tCons (tVar 0) tNil)) (gTup K 2 (gCons (gName 1) (gCons (gName 2) gNil))) tTrue (tIf (tTest (tOp (cEq K) (tVar 1) (tVar 3))) (tVar 4) (tVar 2))))
theorem xk(h:cY K vs H Q E):mH K (eD9 Q) (start ["filling","cell","sign"] vs) H:=by
 obtain⟨F,xs,z,s,rfl,hF,hl,q⟩:=h;show mH K _ [some (.ref F),some (.int z),some (.int s)] H;unfold mH;symm;refine⟨F,rfl,⟨_,QI hF⟩,?_⟩;refine oy (xs:=xs.map V.int) (fun _=>true) (fun i=>.int (if (i:Int)=z then s else xs.getD i 0)) (by rw[Qu];omega) (by decide) (QI hF) ?_ ?_ ?_
 . intro i x H1 R hx s1 k1;exact k1 _ (Qy _)
 . intro i x H1 Q1 hx hb s1 k1;obtain⟨y,hy,rfl⟩:=aS hx;have q1:=k1 _ (Qy H1);rw[fJ hy] at q1;show tIf _ _ _ [none,some (.int (i:Int)),some (.int y),some (.int z),some (.int s)] H1 Q1;unfold tIf;symm;by_cases h0:(i:Int)=z
   . rw[QA h0];rw[Q6 h0] at q1;exact iteT q1
   . rw[Qx h0];rw[QT h0] at q1;exact iteF q1
 . intro l H1 hl1 s1 el;rw[bf,Qu] at el;refine q l H1 s1 hl1 ?_;rw[el];unfold setL;rw[Re];rfl
def extS(fss:List (List Int))(z:Int)(ss:List Int):List (List Int):=fss.flatMap fun f=>ss.map fun s=>setL f z s
theorem rN(z:Int)(ss:List Int):∀ fss:List (List Int),(extS fss z ss).length=fss.length*ss.length
 | []=>by simp[extS]
 | f::r=>by
  have ih:=rN z ss r;unfold extS at ih ⊢;rw[List.flatMap_cons,Q8,ih,Qu,Rj,T5,Nat.add_comm]
theorem B2(fs gs:List (List Int))(z:Int)(ss:List Int):extS (fs++gs) z ss=extS fs z ss++extS gs z ss:=by
 unfold extS;rw[S2]
theorem B3(f:List Int)(z:Int)(ss:List Int):extS [f] z ss=ss.map fun s=>setL f z s:=by
 unfold extS;simp
theorem mem_extS{f:List Int}{fs:List (List Int)}{ss:List Int}:f∈extS fs z ss↔∃ a∈fs,∃ s∈ss,f=setL a z s:=by
 unfold extS;rw[List.mem_flatMap];constructor
 . rintro⟨a,ha,h⟩;obtain⟨s,hs,rfl⟩:=QS.mp h;exact⟨a,ha,s,hs,rfl⟩
 . rintro⟨a,ha,s,hs,rfl⟩;exact⟨a,ha,QS.mpr ⟨s,hs,rfl⟩⟩
theorem A5{H0 H1 H2:Hp}{m:Addr}{bs:List Addr}{yss:List (List Int)}(x:IsLL H1 l as Qo)(nl:l∉as)(s0:Same H0 H1)(fr:∀ b∈as,H0 b=none)(s1:Same H1 H2)(nw:NewAt H1 H2 m bs (yss.map fun ys=>.lst (ys.map V.int))):
  IsLL (upd H2 l (.lst (as.map V.ref++bs.map V.ref))) l (as++bs) (Qo++yss)/\l∉as++bs/\(∀ b∈as++bs,H0 b=none):=by
 have nb:l∉bs:=fun h=>by have:=nw.fr l h;rw[x.top] at this;cases this
 refine⟨?_,?_,?_⟩
 . refine(x.same s1).app nl nb (by rw[nw.len,Qu]) fun j a ys h1 h2=>?_;exact nw.at_ j a _ h1 (by rw[QD,h2];rfl)
 . intro h;rcases QZ.mp h with h | h
   . exact nl h
   . exact nb h
 . intro b h;rcases QZ.mp h with h | h
   . exact fr b h
   . exact s0.free (nw.fr b h)
def cF(K:Frag):Sp:=fun vs H Q _=>∃(F S:Addr) (as:List Addr) (fss:List (List Int)) (z:Int) (ss:List Int),vs=[.ref F,.int z,.ref S]/\IsLL H F as fss/\H S=some (.lst (ss.map V.int))/\fss.length*ss.length<=1100/\ss.length<=100/\(∀ f∈fss,f.length<=16)/\
 ∀(l:Addr) (bs:List Addr) (H':Hp),Same H H'->H l=none->IsLL H' l bs (extS fss z ss)->Q (.ref l) H'
def gZ(K:Frag):TS:=
 (tSeq (tAsg (tLst tNil) (gName 3))
  (tSeq (tFor (iList K (tVar 0)) (gName 4)
  (tDrop (tBM K "list" l8 (tVar 3) (tCons (tComp [none,none,some 1,some 4] (iList K (tVar 2)) (gName 1) tTrue (tCall (cY K) [] E0 (tCons (tVar 3) (tCons (tVar 2) (tCons (tVar 1) tNil))))) tNil))))
  (tRet (tVar 3))))
theorem qT(h:cF K vs H Q E):gZ K (eD9 Q) (start ["fillings","cell","signs","found","filling"] vs) H:=by
 obtain⟨F,S,as,fss,z,ss,rfl,x,hS,hn,hs,hf,q⟩:=h;show gZ K _ [some (.ref F),some (.int z),some (.ref S),none,none] H;unfold gZ;symm;refine⟨lnR rfl,fun l hl=>?_⟩;obtain⟨H1,z9,s1,el⟩:=aY (.lst []) hl;rw[z9];refine⟨⟨_,QI (s1 _ _ x.top)⟩,?_⟩
 refine bx (K:=K) (xs:=as.map V.ref) (fun i σ H'=>∃(v:Option V) (bs:List Addr),σ=[some (.ref F),some (.int z),some (.ref S),some (.ref l),v]/\Same H H'/\IsLL H' l bs (extS (fss.take i) z ss)/\l∉bs/\∀ b∈bs,H b=none)
  ⟨none,[],rfl,s1,⟨el,rfl,fun j a xs h1=>by simp at h1⟩,by simp,fun b hb=>nomatch hb⟩ (fun i σ H' _ ⟨_,_,_,s,_⟩=>s.seq (QI x.top)) ?_ ?_
 . rintro i y σ H2 hy ⟨v,bs,rfl,s2,x2,nl,fr⟩;obtain⟨f,hfa,rfl⟩:=bA hy;obtain⟨xs,ex,ef⟩:=x.get hfa;have hxl:=hf xs (QC ex);symm;refine⟨bj x2.top,⟨_,QI (s2 _ _ hS)⟩,?_⟩;refine oA (xs:=ss.map V.int) (fun _=>true) (fun i=>.lst ((setL xs z (ss.getD i 0)).map V.int)) (by rw[Qu];omega) (QI (s2 _ _ hS)) ?_ ?_ ?_
   . intro i x H R hx s1 k1;exact k1 _ (Qy _)
   . intro i x H3 Q3 hi hb s3 k3;obtain⟨t,ht,rfl⟩:=aS hi;rw[fJ ht] at k3;show tCall _ _ _ _ [none,some (.int t),some (.int z),some (.ref f)] H3 Q3;symm;exact⟨f,xs,z,t,rfl,(s2.trans s3) _ _ ef,by omega,fun l H' s' hl el=>k3 l H' s' hl el⟩
   . intro m cs H3 hm s3 em nw;rw[bf,Qu,B1 (fun s=>HO.lst ((setL xs z s).map V.int))] at nw
     have nw2:NewAt H2 H3 m cs ((extS [xs] z ss).map fun ys=>.lst (ys.map V.int)):=by
      rw[B3,Re];exact nw
     have hb:bs.length+cs.length<=1100:=by
      have l1:=x2.len;rw[rN,RE] at l1;have l2:=nw.len;rw[Qu] at l2;have hi:=(Qz.mp ex).1;have e1:min i fss.length=i:=by omega
      rw[e1] at l1;have:=ST ss.length (show i+1<=fss.length by omega);rw[T5] at this;omega
     refine A4 (s3 _ _ x2.top) em (by rw[Qu,Qu];exact hb) ?_;obtain⟨z1,z2,z3⟩:=A5 x2 nl s2 fr s3 nw2;refine⟨_,bs++cs,rfl,(s2.trans s3).own hl,?_,z2,z3⟩;rw[vD ex,B2];exact z1
 . rintro σ H2 ⟨v,bs,rfl,s2,x2,nl,fr⟩;symm;have e:fss.take (as.map V.ref).length=fss:=Ry (by rw[Qu,x.len];exact QR _);rw[e] at x2;exact q l bs H2 s2 hl x2
def wfold(Qh:List Int)(rest:List Int)(fs:List (List Int)):List (List Int):=rest.foldl (fun fs o=>extS fs o (sgL (Qh.getD o.toNat 0))) fs
def wfill(Qh rest:List Int)(z s:Int):List (List Int):=wfold Qh rest [setL (List.replicate Qh.length 0) z s]
noncomputable def waysB (k:RK) (h w:Int) (cs:List Int) (n m:Int) (Qh:List Int) (z s:Int) (ms:List Int):Bool:=
 decide (ms=[])&&(decide (prodW (sgAt Qh (othL cs z))<=32)&&(decide (0∈sgAt Qh (othL cs z))||!((wfill Qh (othL cs z) z s).any fun f=>hoB k h w cs n m f)))
theorem vE(Qh:List Int):∀(rest:List Int) (fs:List (List Int)),(wfold Qh rest fs).length=(sgAt Qh rest).foldl (fun p m=>p*(sgL m).length) fs.length
 | [],_=>rfl
 | o::r,fs=>by
  unfold wfold sgAt;rw[R8,Rc,R8];have:=vE Qh r (extS fs o (sgL (Qh.getD o.toNat 0)));unfold wfold sgAt at this;rw[this,rN]
theorem xm:∀(ms:List Int) (n:Nat),(∀ m∈ms,1<=(sgL m).length)->n<=ms.foldl (fun p m=>p*(sgL m).length) n
 | [],_,_=>QR _
 | m::r,n,h=>by
  rw[R8];exact QG (Nat.le_mul_of_pos_right n (h m QK)) (xm r _ fun x hx=>h x (QH _ hx))
theorem zJ(i:Nat)(h:∀ m∈ms,1<=(sgL m).length):prodW (ms.take i)<=prodW ms:=by
 have e:prodW ms=(ms.drop i).foldl (fun p m=>p*(sgL m).length) (prodW (ms.take i)):=by
  unfold prodW;rw[← Sa,SG]
 rw[e];exact xm _ _ fun x hx=>h x (List.mem_of_mem_drop hx)
theorem oP{n:Nat}{Qh:List Int}(hm:∀ m∈Qh,0<=m/\m<64):∀(rest:List Int) (fs:List (List Int)),(∀ f∈fs,f.length=n/\∀ x∈f,0<=x/\x<=6)->∀ f∈wfold Qh rest fs,f.length=n/\∀ x∈f,0<=x/\x<=6
 | [],_,h,f,hf=>h f hf
 | o::r,fs,h,f,hf=>by
  refine oP hm r (extS fs o (sgL (Qh.getD o.toNat 0))) (fun g hg=>?_) f hf;obtain⟨a,ha,s,hs,rfl⟩:=mem_extS.mp hg;have h1:=h a ha
  have hs6:1<=s/\s<=6:=by
   by_cases hlt:o.toNat<Qh.length
   . have e:Qh.getD o.toNat 0=Qh[o.toNat]:=by rw[List.getD,Qv hlt];rfl
     rw[e] at hs;have hb:=hm _ (QX hlt);rw[(ie hb.1 hb.2).2] at hs;obtain⟨j,hj,rfl⟩:=QS.mp hs;have:=(QW.mp hj).1;simp at this;omega
   . have e:Qh.getD o.toNat 0=0:=by rw[List.getD,Q7 (by omega)];rfl
     rw[e,D9] at hs;cases hs
  exact⟨by rw[xj];exact h1.1,yZ (by omega) hs6.2 h1.2⟩
def dn(K:Frag)(c:RCl RK):Sp:=fun vs H Q _=>∃(k:RK) (r p A M:Addr) (ws:List (List Nat)) (cs Qh ms:List Int) (n m z s h w g:Int),vs=[.ref r,.ref A,.int z,.int s,.ref M]/\IsRule H c k r p ws cs n m/\IsFl H p h w g/\FlOk h w g/\aN cs Qh.length/\Qh.length<=16/\(∀ m∈Qh,0<=m/\m<64)/\1<=s/\s<=6/\H A=some (.lst (Qh.map V.int))/\H M=some (.lst (ms.map V.int))/\∀ H',Same H H'->Q (.bl (waysB k h w cs n m Qh z s ms)) H'
def gz(K:Frag)(c:RCl RK):TS:=
 (tSeq (tFor (iList K (tVar 7)) (gName 9)
  (tIfS (tB (aI c c.ok "holds" (cR K c) (tVar 0) (tCons (tVar 9) tNil))) (tRet (tC (.bl false))) tNext))
  (tRet (tC (.bl true))))
def gA(K:Frag)(c:RCl RK):TS:=
 (tSeq (tAsg (tLst (tCons (tCall (cY K) [] E0 (tCons (tOp cRepL (tLst (tCons (tC (.int 0)) tNil)) (tCB kLen (tCons (tVar 1) tNil))) (tCons (tVar 2) (tCons (tVar 3) tNil)))) tNil)) (gName 7))
  (tSeq (tFor (iList K (tVar 5)) (gName 8)
  (tAsg (tCall (cF K) [] E0 (tCons (tVar 7) (tCons (tVar 8) (tCons (tCall (aP K) [] E0 (tCons (tOp cIx (tVar 1) (tVar 8)) tNil)) tNil)))) (gName 7)))
  (gz K c)))
def jQ(K:Frag)(c:RCl RK):TS:=
 (tSeq (tAsg (tCall (aQ K c) [] E0 (tCons (tVar 0) (tCons (tVar 2) tNil))) (gName 5))
  (tSeq (tAsg (tCall (aZ K) [] E0 (tCons (tVar 1) (tCons (tVar 5) tNil))) (gName 6))
  (tSeq (tIfS (tOr (tTest (tOp (cNe K) (tVar 4) (tLst tNil))) (tTest (tOp (cCmp fun i j=>decide (j<i)) (tCall (oq K) [] E0 (tCons (tVar 6) tNil)) (tC (.int 32))))) (tRet (tC (.bl false))) tNext)
  (tSeq (tIfS (tB (tCall (bC K) [] E0 (tCons (tVar 6) tNil))) (tRet (tC (.bl true))) tNext)
  (gA K c)))))
structure Wys(H:Hp)(c:RCl RK)(k:RK)(r p A:Addr)(ws:List (List Nat))(cs Qh:List Int)(n m h w g:Int):Prop where
 R:IsRule H c k r p ws cs n m
 fl:IsFl H p h w g
 F:FlOk h w g
 ci:aN cs Qh.length
 ml:Qh.length<=16
 mo:∀ m∈Qh,0<=m/\m<64
 hA:H A=some (.lst (Qh.map V.int))
variable{A:Addr}{Qh:List Int}{g:Int}
theorem Wys.same{H':Hp}{k:RK}{r:Addr}{ws:List (List Nat)}{n:Int}(x:Wys H c k r p A ws cs Qh n m h w g)(s:Same H H'):Wys H' c k r p A ws cs Qh n m h w g:=⟨x.R.same s,s _ _ x.fl,x.F,x.ci,x.ml,x.mo,s _ _ x.hA⟩
theorem zK {k:RK} {r F:Addr} {ws:List (List Nat)} {n:Int} {v2 v3 v4 v5 v6 v8:Option V} {bs:List Addr} {fss:List (List Int)} (X:Wys H c k r p A ws cs Qh n m h w g) (x:IsLL H F bs fss) (hf:∀ f∈fss,f.length=Qh.length/\∀ x∈f,0<=x/\x<=6)
  (q:∀ H',Same H H'->Q (.bl (!(fss.any fun f=>hoB k h w cs n m f))) H'):
  gz K c (eD9 Q) [some (.ref r),some (.ref A),v2,v3,v4,v5,v6,some (.ref F),v8,none] H:=by
 obtain⟨dx,W,C,h1,h2,h3⟩:=X.R.ex;have hxl:=x.len;unfold gz;symm;refine⟨⟨_,QI x.top⟩,?_⟩;refine bx (K:=K) (xs:=bs.map V.ref) (fun i σ H'=>∃ v9:Option V,σ=[some (.ref r),some (.ref A),v2,v3,v4,v5,v6,some (.ref F),v8,v9]/\Same H H'/\((fss.take i).any fun f=>hoB k h w cs n m f)=false) ⟨none,rfl,Qy _,rfl⟩ (fun i σ H' _ ⟨_,_,s,_⟩=>s.seq (QI x.top)) ?_ ?_
 . rintro i y σ H1 hy ⟨v9,rfl,s1,hno⟩;obtain⟨b,hb,rfl⟩:=bA hy;obtain⟨f,ef,eb⟩:=x.get hb;have hfm:=QC ef;obtain⟨hfl,hfx⟩:=hf f hfm;have X1:=X.same s1;symm;rw[aA];symm;refine methE (k:=k) rfl X.R.ok (s1 _ _ h1) (by rfl) ?_;symm;refine⟨r,p,b,ws,cs,f,n,m,h,w,g,rfl,X1.R,X1.fl,X1.F,s1 _ _ eb,by rw[hfl];exact X1.ci,fun y hy=>by have:=hfx y hy;omega,fun H2 s2=>?_⟩;refine⟨_,rfl,?_⟩
   cases hh:hoB k h w cs n m f with
   | true=>
    refine iteT ?_;have e:(fss.any fun f=>hoB k h w cs n m f)=true:=Sn.mpr ⟨f,hfm,hh⟩;have q1:=q _ (s1.trans s2);rw[e] at q1;exact q1
   | false=>
    refine iteF ⟨_,rfl,s1.trans s2,?_⟩;rw[vD ef,List.any_append,hno,RQ]
    simpa using hh
 . rintro σ H1 ⟨v9,rfl,s1,hno⟩;rw[Ry (by rw[Qu,hxl];exact QR _)] at hno;symm;rw[hno] at q;exact q _ s1
theorem zL {k:RK} {r R:Addr} {ws:List (List Nat)} {n:Int} {v4 v6:Option V} (X:Wys H c k r p A ws cs Qh n m h w g) (hR:H R=some (.lst ((othL cs z).map V.int))) (s0:1<=s) (s6:s<=6) (hw:prodW (sgAt Qh (othL cs z))<=32) (h0:0∉sgAt Qh (othL cs z))
  (q:∀ H',Same H H'->Q (.bl (!((wfill Qh (othL cs z) z s).any fun f=>hoB k h w cs n m f))) H'):
  gA K c (eD9 Q) [some (.ref r),some (.ref A),some (.int z),some (.int s),v4,some (.ref R),v6,none,none,none] H:=by
 have hml:=X.ml;unfold gA;symm;refine⟨lnR rfl,fun Z hZ=>?_⟩;obtain⟨H1,z9,s1,eZ⟩:=aY (.lst [V.int 0]) hZ;rw[z9];rw[bt (s1 _ _ X.hA),Qu];refine DR eZ (by omega) (by omega) (by show(1:Nat)<=1;decide) fun N hN=>?_;have s2:Same H1 (upd H1 N (.lst (List.replicate ((Qh.length:Nat):Int).toNat [V.int 0]).flatten)):=(Qy H1).laid hN
 have eN:(upd H1 N (.lst (List.replicate ((Qh.length:Nat):Int).toNat [V.int 0]).flatten)) N=some (.lst ((List.replicate Qh.length (0:Int)).map V.int)):=by
  rw[ah,Te];simp
 generalize upd H1 N (.lst (List.replicate ((Qh.length:Nat):Int).toNat [V.int 0]).flatten)=H2 at*;have s12:=s1.trans s2;refine⟨N,_,z,s,rfl,eN,by simp;omega,fun b H3 s3 hb eb=>?_⟩;have s13:=s12.trans s3;symm;refine⟨lnR rfl,fun F hF=>?_⟩;have s4:Same H3 (upd H3 F (.lst [V.ref b])):=(Qy H3).laid hF
 have xF:IsLL (upd H3 F (.lst [V.ref b])) F [b] [setL (List.replicate Qh.length 0) z s]:=by
  refine⟨ah,rfl,fun j a xs e1 e2=>?_⟩;have hj:j=0:=by have:=(Qz.mp e1).1;simp at this;omega
  subst hj;cases e1;cases e2;exact s4 _ _ eb
 generalize upd H3 F (.lst [V.ref b])=H4 at*;have s14:=s13.trans s4
 have base:∀ f∈([setL (List.replicate Qh.length 0) z s]:List (List Int)),f.length=Qh.length/\∀ x∈f,0<=x/\x<=6:=fun f hf=>by
  rw[QF.mp hf];exact⟨by rw[xj];simp,yZ (by omega) s6 fun x hx=>by rw[(Tf.mp hx).2];omega⟩
 have pos:∀ mm∈sgAt Qh (othL cs z),1<=(sgL mm).length:=fun mm hm=>by
  have hne:mm≠0:=fun e=>h0 (e ▸ hm);unfold sgAt at hm;obtain⟨o,ho,rfl⟩:=QS.mp hm;have hoc:o∈cs:=(QW.mp ho).1;have hi:=X.ci.2 o hoc;have hlt:o.toNat<Qh.length:=by omega
  have e:Qh.getD o.toNat 0=Qh[o.toNat]:=by rw[List.getD,Qv hlt];rfl
  rw[e] at hne ⊢;have hb:=X.mo _ (QX hlt);exact(Cg hb.1 hb.2 hne).1.1
 refine⟨⟨_,QI (s14 _ _ hR)⟩,?_⟩;refine bx (K:=K) (xs:=(othL cs z).map V.int) (fun i σ H'=>∃(F:Addr) (bs:List Addr) (v8:Option V),σ=[some (.ref r),some (.ref A),some (.int z),some (.int s),v4,some (.ref R),v6,some (.ref F),v8,none]/\Same H H'/\IsLL H' F bs (wfold Qh ((othL cs z).take i) [setL (List.replicate Qh.length 0) z s])) ⟨F,[b],none,rfl,s14,xF⟩ (fun i σ H' _ ⟨_,_,_,_,s,_⟩=>s.seq (QI hR)) ?_ ?_
 . rintro i y σ H5 hy ⟨F,bs,v8,rfl,s5,x5⟩;obtain⟨o,ho,rfl⟩:=aS hy;have hom:=QC ho;have hoc:o∈cs:=(QW.mp hom).1;have hi:=X.ci.2 o hoc;have hlt:o.toNat<Qh.length:=by omega
   have e:Qh.getD o.toNat 0=Qh[o.toNat]:=by rw[List.getD,Qv hlt];rfl
   have hb:=X.mo _ (QX hlt);have sb:=ie hb.1 hb.2;symm;refine ixI (s5 _ _ X.hA) (by omega) (by omega) ?_;symm;rw[e];refine⟨_,rfl,by omega,fun S H6 s6' hS eS=>?_⟩;symm;have hsl:(sgL Qh[o.toNat]).length<=6:=QG (yY _) sb.1;refine⟨F,S,bs,_,o,_,rfl,x5.same s6',eS,?_,by omega,fun f hf=>by have:=(oP X.mo _ _ base f hf).1;omega,fun l cs2 H7 s7 hl x7=>?_⟩
   . rw[vE];have h1:=zJ i pos
     have e2:(sgAt Qh ((othL cs z).take i)).foldl (fun p m=>p*(sgL m).length) ([setL (List.replicate Qh.length 0) z s]:List (List Int)).length=prodW ((sgAt Qh (othL cs z)).take i):=by
      unfold prodW sgAt;rw[SQ];rfl
     rw[e2];have h3:prodW ((sgAt Qh (othL cs z)).take i)*(sgL Qh[o.toNat]).length<=32*6:=TW (by omega) hsl;omega
   . refine⟨l,cs2,_,rfl,(s5.trans s6').trans s7,?_⟩
     have e3:wfold Qh ((othL cs z).take (i+1)) [setL (List.replicate Qh.length 0) z s]=extS (wfold Qh ((othL cs z).take i) [setL (List.replicate Qh.length 0) z s]) o (sgL Qh[o.toNat]):=by
      unfold wfold;rw[tR _ _ ho,e]
     rw[e3];exact x7
 . rintro σ H5 ⟨F,bs,v8,rfl,s5,x5⟩;rw[Ry (by rw[Qu];exact QR _)] at x5;exact zK (X.same s5) x5 (oP X.mo _ _ base) fun H' s'=>q H' (s5.trans s')
theorem tS(h:dn K c vs H Q E):jQ K c (eD9 Q) (start ["rule","masks","cell","sign","more","rest","some","fillings","other","filling"] vs) H:=by
 obtain⟨k,r,p,A,M,ws,cs,Qh,ms,n,m,z,s,h,w,g,rfl,hR,hp,F,ci,ml,mk,s0,s6,hA,hM,q⟩:=h;have X:Wys H c k r p A ws cs Qh n m h w g:=⟨hR,hp,F,ci,ml,mk,hA⟩;have hcl:cs.length<=63:=by have:=ci.1;omega
 show jQ K c _ [some (.ref r),some (.ref A),some (.int z),some (.int s),some (.ref M),none,none,none,none,none] H;unfold jQ;symm;refine⟨k,r,p,ws,cs,n,m,z,rfl,hR,hcl,fun R H1 s1 hR1 eR=>?_⟩;have eR2:H1 R=some (.lst ((othL cs z).map V.int)):=eR;symm;refine⟨A,R,Qh,othL cs z,rfl,s1 _ _ hA,eR2,⟨QG (QE _ _) ci.1,fun x hx=>ci.2 x (QW.mp hx).1⟩,fun S H2 s2 hS eS=>?_⟩;have s12:=s1.trans s2;dsimp only;rw[aA];symm;refine⟨lnR rfl,fun e he=>?_⟩;obtain⟨H3,z9,s3,ee⟩:∃ z,upd H2 e (.lst [])=z/\Same H2 z/\z e=some (.lst (([]:List Int).map V.int)):=aY _ he;rw[z9];have s13:=s12.trans s3;refine ox (s13 _ _ hM) ee ?_;refine⟨_,rfl,?_⟩;unfold waysB at q;by_cases hm:ms=[]
 . rw[QA hm] at q ⊢;rw[QL] at q;refine iteF ?_;symm;refine⟨S,_,rfl,s3 _ _ eS,fun x hx=>?_,fun H4 s4=>?_⟩
   . unfold sgAt at hx;obtain⟨o,ho,rfl⟩:=QS.mp hx;have hi:=ci.2 o (QW.mp ho).1;have hlt:o.toNat<Qh.length:=by omega
     have e:Qh.getD o.toNat 0=Qh[o.toNat]:=by rw[List.getD,Qv hlt];rfl
     rw[e];have hb:=mk _ (QX hlt);have:=(ie hb.1 hb.2).1;omega
   . have s14:=s13.trans s4;symm;by_cases hw:prodW (sgAt Qh (othL cs z))<=32
     . rw[QA hw,QL] at q;rw[Qx (by omega)];refine iteF ?_;rw[aA];symm;refine⟨S,_,rfl,(s3.trans s4) _ _ eS,?_⟩;refine⟨_,rfl,?_⟩;by_cases h0:0∈sgAt Qh (othL cs z)
       . rw[QA h0] at q ⊢;rw[Sz] at q;exact iteT (q _ s14)
       . rw[Qx h0] at q ⊢;rw[RQ] at q;refine iteF ?_;exact zL (X.same s14) (((s2.trans s3).trans s4) _ _ eR2) s0 s6 hw h0 fun H' s'=>q H' (s14.trans s')
     . rw[Qx hw,QJ] at q;rw[QA (by omega)];exact iteT (q _ s14)
 . rw[Qx hm,QJ] at q;rw[Qx hm];exact iteT (q _ s13)
def xn(g:Int)(t:TK)(x:RR)(Qh:List Int)(z s:Int)(ms:List Int):Bool:=match t with
 | .only=>onlyB x.cs Qh z s ms
 | .place=>xb g x.cs Qh z s ms
 | _=>pairB x.cs Qh z s ms
def xo(g:Int)(Qj:List RR)(cl Qh:List Int)(t:TK)(r z s:Int)(ms:List Int):Bool:=match t with
 | .clue=>clueB cl z s ms
 | _=>match Qj[r.toNat]? with
  | none=>false
  | some x=>xn g t x Qh z s ms
noncomputable def rcB (h w:Int) (cs:List Int) (st x:Int):Bool:=@decide (RC h w cs st x) (Classical.propDecidable _)
theorem xp{rs:List Int}{st x:Int}(hm:x∈rs↔RC h w cs st x):decide (x∈rs)=rcB h w cs st x:=by
 unfold rcB;rw[Q0,QB];exact hm.trans (@decide_eq_true_iff _ (Classical.propDecidable _)).symm
def anoB(h w:Int)(Qh:List Int)(z m o:Int):Bool:=(decide (0<=o)&&decide (o<h*w))&&(!decide (o=z)&&decide (woI (Qh.getD o.toNat 0) m=0))
def bE(K:Frag):Sp:=fun vs H Q _=>∃(f A:Addr) (h w g z o m:Int) (Qh:List Int),vs=[.ref f,.ref A,.int z,.int o,.int m]/\IsFl H f h w g/\FlOk h w g/\H A=some (.lst (Qh.map V.int))/\Qh.length=(h*w).toNat/\m<=1000/\Q (.bl (anoB h w Qh z m o)) H
def c8(K:Frag):TS:=
 (tRet (tAndV (tCall (d9 K) [] E0 (tCons (tVar 0) (tCons (tVar 3) tNil))) (tAndV (tOp (cNe K) (tVar 3) (tVar 2)) (tCall (bd K) [] E0 (tCons (tOp cIx (tVar 1) (tVar 3)) (tCons (tVar 4) tNil))))))
theorem mZ(h:bE K vs H Q E):c8 K (eD9 Q) (start ["floor","masks","cell","other","mark"] vs) H:=by
 obtain⟨f,A,h,w,g,z,o,m,Qh,rfl,hf,F,hA,hml,hm,q⟩:=h;show c8 K _ [some (.ref f),some (.ref A),some (.int z),some (.int o),some (.int m)] H;unfold c8;symm;refine⟨f,h,w,g,o,rfl,hf,F,?_⟩;unfold anoB at q
 cases hb:(decide (0<=o)&&decide (o<h*w)) with
 | false=>
  rw[hb,QJ] at q;exact⟨false,rfl,iteF q⟩
 | true=>
  rw[hb,QL] at q;rw[Rk,QB,QB] at hb;refine⟨true,rfl,iteT ?_⟩;symm
  cases hb2:decide (o=z) with
  | true=>
   rw[hb2,Sc,QJ] at q;symm;exact q
  | false=>
   rw[hb2,Sl,QL] at q;symm;refine ixI hA hb.1 (by omega) ?_;symm;exact⟨_,m,rfl,by omega,q⟩
def thrL(cs Qh:List Int)(m z:Int):List Int:=(cs.filter fun x=>!decide (x=z)).filter fun x=>stB (Qh.getD x.toNat 0) m
noncomputable def reaB (h w:Int) (cs:List Int) (m:Int) (Qh:List Int) (z s:Int) (ms:List Int):Bool:=
 (ms.all fun o=>anoB h w Qh z m o)&&(if s=m then decide (ms.length=1)&&!rcB h w (thrL cs Qh m z++[z]) z (ms.getD 0 0)
  else decide (ms.length=2)&&(!decide (ms.getD 0 0=ms.getD 1 0)&&!rcB h w (thrL cs Qh m z) (ms.getD 0 0) (ms.getD 1 0)))
def cZ(K:Frag)(c:RCl RK):Sp:=fun vs H Q _=>∃(k:RK) (f r p A M:Addr) (ws:List (List Nat)) (cs Qh ms:List Int) (n m z s h w g:Int),vs=[.ref f,.ref r,.ref A,.int z,.int s,.ref M]/\IsFl H f h w g/\FlOk h w g/\IsRule H c k r p ws cs n m/\aN cs Qh.length/\cs.length<=60/\Qh.length=(h*w).toNat/\H A=some (.lst (Qh.map V.int))/\H M=some (.lst (ms.map V.int))/\ms.length<=100/\m<=1000/\∀ H',Same H H'->Q (.bl (reaB h w cs m Qh z s ms)) H'
def fP(K:Frag)(c:RCl RK):TS:=
 (tSeq (tIfS (tTest (tOp (cEq K) (tVar 4) (tVar 6))) (tRet (tAndV (tOp (cEq K) (tCB kLen (tCons (tVar 5) tNil)) (tC (.int 1))) (tOp (cIn K true) (tOp cIx (tVar 5) (tC (.int 0))) (tCall (b4 K) [] E0 (tCons (tVar 0) (tCons (tOp cAdd (tVar 7) (tLst (tCons (tVar 3) tNil))) (tCons (tVar 3) tNil))))))) tNext)
  (tSeq (tIfS (tOr (tTest (tOp (cNe K) (tCB kLen (tCons (tVar 5) tNil)) (tC (.int 2)))) (tTest (tOp (cEq K) (tOp cIx (tVar 5) (tC (.int 0))) (tOp cIx (tVar 5) (tC (.int 1)))))) (tRet (tC (.bl false))) tNext)
  (tRet (tOp (cIn K true) (tOp cIx (tVar 5) (tC (.int 1))) (tCall (b4 K) [] E0 (tCons (tVar 0) (tCons (tVar 7) (tCons (tOp cIx (tVar 5) (tC (.int 0))) tNil))))))))
def fQ(K:Frag)(c:RCl RK):TS:=
 (tSeq (sComp 7 [none,none,some 6,some 2] (iList K (tCall (aQ K c) [] E0 (tCons (tVar 1) (tCons (tVar 3) tNil)))) (gName 1) (tB (tCall (bT K) [] E0 (tCons (tOp cIx (tVar 3) (tVar 1)) (tCons (tVar 2) tNil)))) (tVar 1))
  (fP K c))
def iZ(K:Frag)(c:RCl RK):TS:=
 (tSeq (tAsg (aI c c.ok "sign" (cO K c) (tVar 1) tNil) (gName 6))
  (tSeq (tIfS (tNot (tB (tCB kAll (tCons (tComp [none,none,some 3,some 0,some 6,some 2] (iList K (tVar 5)) (gName 1) tTrue (tCall (bE K) [] E0 (tCons (tVar 3) (tCons (tVar 5) (tCons (tVar 2) (tCons (tVar 1) (tCons (tVar 4) tNil))))))) tNil)))) (tRet (tC (.bl false))) tNext)
  (fQ K c)))
variable{M:Addr}{v1:V}
theorem pp {f N:Addr} {T:List Int} (hf:IsFl H f h w g) (F:FlOk h w g) (hM:H M=some (.lst (ms.map V.int))) (hN:H N=some (.lst (T.map V.int))) (hT:T.length<=60)
  (q:∀ H',Same H H'->Q (.bl (if s=m then decide (ms.length=1)&&!rcB h w (T++[z]) z (ms.getD 0 0) else decide (ms.length=2)&&(!decide (ms.getD 0 0=ms.getD 1 0)&&!rcB h w T (ms.getD 0 0) (ms.getD 1 0)))) H'):
  fP K c (eD9 Q) [some (.ref f),some v1,some (.ref A),some (.int z),some (.int s),some (.ref M),some (.int m),some (.ref N)] H:=by
 have w0:=F.w0;have w1:=F.w1;unfold fP;rw[aL,aA];symm;by_cases hs:s=m
 . rw[Q6 hs] at q;rw[QA hs];symm;rw[bt hM,Qu];symm
   have e1:decide ((ms.length:Int)=1)=decide (ms.length=1):=by
    rw[Q0,QB,QB];omega
   rw[e1]
   cases hb:decide (ms.length=1) with
   | false=>
    rw[hb,QJ] at q;symm;exact q _ (Qy _)
   | true=>
    rw[hb,QL] at q;have hl:=QU hb;symm;refine ixI hM (by decide) (by omega) ?_;rw[show(0:Int).toNat=0 from rfl];symm;refine⟨lnR rfl,fun l hl2=>?_⟩;obtain⟨H1,z9,s1,el⟩:=aY (.lst [V.int z]) hl2;rw[z9];refine pR (s1 _ _ hN) el (by simp;omega) fun Y hY=>?_;have s2:Same H1 (upd H1 Y (.lst (T.map V.int++[V.int z]))):=(Qy H1).laid hY;have eY:(upd H1 Y (.lst (T.map V.int++[V.int z]))) Y=some (.lst ((T++[z]).map V.int)):=by rw[ah];simp
    generalize upd H1 Y (.lst (T.map V.int++[V.int z]))=H2 at*;have s12:=s1.trans s2;symm;refine⟨f,Y,h,w,g,z,_,rfl,s12 _ _ hf,by omega,by omega,eY,by simp;omega,fun p H3 rs s3 hp ep _ hx=>?_⟩;dsimp only;rw[m6 ep,xp (hx _)];exact q _ (s12.trans s3)
 . rw[QT hs] at q;rw[Qx hs];symm;rw[aA];symm;rw[bt hM,Qu];symm
   have e1:decide ((ms.length:Int)=2)=decide (ms.length=2):=by
    rw[Q0,QB,QB];omega
   rw[e1]
   cases hb:decide (ms.length=2) with
   | false=>
    rw[hb,QJ] at q;symm;exact q _ (Qy _)
   | true=>
    rw[hb,QL] at q;have hl:=QU hb;symm;refine ixI hM (by decide) (by omega) ?_;rw[show(0:Int).toNat=0 from rfl];symm;refine ixI hM (by decide) (by omega) ?_;rw[show(1:Int).toNat=1 from rfl];symm
    cases hb2:decide (ms.getD 0 0=ms.getD 1 0) with
    | true=>
     rw[hb2,Sc,QJ] at q;symm;exact q _ (Qy _)
    | false=>
     rw[hb2,Sl,QL] at q;symm;refine ixI hM (by decide) (by omega) ?_;rw[show(1:Int).toNat=1 from rfl];symm;refine ixI hM (by decide) (by omega) ?_;rw[show(0:Int).toNat=0 from rfl];symm;refine⟨f,N,h,w,g,_,_,rfl,hf,by omega,by omega,hN,by omega,fun p H3 rs s3 hp ep _ hx=>?_⟩;dsimp only;rw[m6 ep,xp (hx _)];exact q _ s3
theorem pq {k:RK} {f r:Addr} {ws:List (List Nat)} {n:Int} (hf:IsFl H f h w g) (F:FlOk h w g) (x:IsRule H c k r p ws cs n m) (hC:aN cs Qh.length) (hml:Qh.length=(h*w).toNat) (hA:H A=some (.lst (Qh.map V.int))) (hM:H M=some (.lst (ms.map V.int)))
  (q:∀ H',Same H H'->Q (.bl (if s=m then decide (ms.length=1)&&!rcB h w (thrL cs Qh m z++[z]) z (ms.getD 0 0) else decide (ms.length=2)&&(!decide (ms.getD 0 0=ms.getD 1 0)&&!rcB h w (thrL cs Qh m z) (ms.getD 0 0) (ms.getD 1 0)))) H') (hcs:cs.length<=60):
  fQ K c (eD9 Q) [some (.ref f),some (.ref r),some (.ref A),some (.int z),some (.int s),some (.ref M),some (.int m),none] H:=by
 unfold fQ;symm;refine⟨k,r,p,ws,cs,n,m,z,rfl,x,hC.1,fun O H1 s1 hO eO=>?_⟩;have hfl:=QE (fun x=>!decide (x=z)) cs;refine⟨O,rfl,⟨_,QI eO⟩,?_⟩;refine bu (xs:=cs.filter fun x=>!decide (x=z)) (fun x=>stB (Qh.getD x.toNat 0) m) (fun x=>x) (by omega) (QI eO) ?_ ?_ ?_
 . intro y H2 R hy s2 k2;have hyc:=hC.2 y (QW.mp hy).1;show tB _ [none,some (.int y),some (.int m),some (.ref A)] H2 R;symm;refine ixI ((s1.trans s2) _ _ hA) hyc.1 hyc.2 ?_;symm;exact⟨_,m,rfl,_,rfl,k2 _ (Qy _)⟩
 . intro y H2 Q2 hy hb s2 k2;show tVar 1 [none,some (.int y),some (.int m),some (.ref A)] H2 Q2;symm;exact k2 _ (Qy _)
 . intro N H2 hN s2 eN;rw[RT] at eN;have s12:=s1.trans s2;symm;refine pp (s12 _ _ hf) F (s12 _ _ hM) (T:=thrL cs Qh m z) eN ?_ fun H' s3=>q H' (s12.trans s3);unfold thrL;have:=QE (fun x=>stB (Qh.getD x.toNat 0) m) (cs.filter fun x=>!decide (x=z));omega
theorem rO(h:cZ K c vs H Q E):iZ K c (eD9 Q) (start ["floor","rule","masks","cell","sign","more","mark","through"] vs) H:=by
 obtain⟨k,f,r,p,A,M,ws,cs,Qh,ms,n,m,z,s,h,w,g,rfl,hf,F,x,hC,hcs,hml,hA,hM,hmn,hm,q⟩:=h;obtain⟨dx,W,C,h1,h2,h3⟩:=x.ex;show iZ K c _ [some (.ref f),some (.ref r),some (.ref A),some (.int z),some (.int s),some (.ref M),none,none] H;unfold iZ;rw[aL,cp];refine methE (k:=k) rfl x.ok h1 (by rfl) ?_;symm;refine⟨r,p,ws,cs,n,m,rfl,x,?_⟩;symm;rw[aA];symm;refine⟨⟨_,QI hM⟩,?_⟩;refine bY (xs:=ms.map V.int) (fun _=>true) (fun i=>.bl (anoB h w Qh z m (ms.getD i 0))) (by rw[Qu];omega) (QI hM) ?_ ?_ ?_
 . intro i y H1 R hy s1 k1;exact k1 _ (Qy _)
 . intro i y H1 Q1 hy hb s1 k1;obtain⟨v,hv,rfl⟩:=aS hy;have eg:ms.getD i 0=v:=by rw[List.getD,hv];rfl
   rw[eg] at k1;show tCall _ _ _ _ [none,some (.int v),some (.int z),some (.ref f),some (.int m),some (.ref A)] H1 Q1;symm;exact⟨f,A,h,w,g,z,v,m,Qh,rfl,s1 _ _ hf,F,s1 _ _ hA,hml,hm,k1 _ (Qy _)⟩
 . intro l H1 hl s1 el
   have eb:((List.range (ms.map V.int).length).filter fun _=>true).map (fun i=>V.bl (anoB h w Qh z m (ms.getD i 0)))=(ms.map fun o=>anoB h w Qh z m o).map V.bl:=by
    rw[bf,Qu,Re];refine Ts (by simp) fun i h1 h2=>?_;have hi:i<ms.length:=by simpa using h2
    simp[List.getD,Qv hi]
   rw[eb] at el;refine lW el ?_;have ea:(ms.map fun o=>anoB h w Qh z m o).all id=ms.all fun o=>anoB h w Qh z m o:=by rw[Sh];rfl
   rw[ea];unfold reaB at q
   cases hb:(ms.all fun o=>anoB h w Qh z m o) with
   | false=>
    rw[hb,QJ] at q;refine⟨false,rfl,?_⟩;symm;exact q _ s1
   | true=>
    rw[hb,QL] at q;refine⟨true,rfl,?_⟩;symm;exact pq (s1 _ _ hf) F (x.same s1) hC hml (s1 _ _ hA) (s1 _ _ hM) (fun H' s2=>q H' (s1.trans s2)) hcs
theorem vF{k:RK}(h:goesB .reach k=true):sgnK k=true:=by cases k <;> first | rfl | cases h
theorem RR.len26{r:RR}(O:r.Ok h w g)(F:FlOk h w g):r.cs.length<=60:=by
 have m16:=F.m
 cases hk:allK r.k with
 | false=>
  obtain⟨c1,c2,c3,c4,e⟩:=O.cl.told hk;rw[e,Qu];omega
 | true=>
  obtain⟨_,e⟩:=O.cl.all hk;rw[e,kg];omega
def A6(p:Int->Int->Bool):Bool:=(List.range 7).all fun(h:Nat)=>(List.range 7).all fun(w:Nat)=>!(decide (1<=h)&&decide (1<=w)&&decide (h*w<=16))||p h w
theorem A7{p:Int->Int->Bool}(a:A6 p=true){h w g:Int}(F:FlOk h w g):p h w=true:=by
 obtain⟨h0,h1,w0,w1,m16,g0,g1⟩:=F;obtain⟨n,rfl⟩:=Sg (show 0<=h by omega);obtain⟨m,rfl⟩:=Sg (show 0<=w by omega);have a1:=QO.mp a n (QQ.mpr (by omega));have a2:=QO.mp a1 m (QQ.mpr (by omega));have e1:1<=n:=by omega
 have e2:1<=m:=by omega
 have e3:n*m<=16:=by have:((n*m:Nat):Int)<=16:=by rw[Int.natCast_mul];exact m16
                     omega
 simpa [e1,e2,e3] using a2
def nearS(h w d r:Int):List Int:=if (decide (0<=d)&&decide (d<h))&&(decide (0<=r)&&decide (r<w)) then [d*w+r] else []
def nearP(w c:Int):List (Int × Int):=[(c/w-1,c%w),(c/w,c%w-1),(c/w,c%w+1),(c/w+1,c%w)]
def nearL(h w c:Int):List Int:=(nearP w c).flatMap fun p=>nearS h w p.1 p.2
theorem zM:A6 (fun h w=>(List.range (h*w).toNat).all fun(c:Nat)=>decide (nearL h w c=besL h w c)&&(besL h w c).all fun x=>decide (0<=x)&&decide (x<h*w))=true:=by decide+kernel
theorem xq{c:Int}(F:FlOk h w g)(c0:0<=c)(c1:c<h*w):nearL h w c=besL h w c/\∀ x∈besL h w c,0<=x/\x<h*w:=by
 have t:=QO.mp (A7 zM F) c.toNat (QQ.mpr (by omega));have e1:((c.toNat:Nat):Int)=c:=by omega
 rw[e1,Rk,QB,QO] at t;refine⟨t.1,fun x hx=>?_⟩;have:=t.2 x hx
 simpa using this
theorem xt{c:Int}(F:FlOk h w g)(c0:0<=c)(c1:c<h*w)(hn:n=(h*w).toNat):aN (besL h w c) n:=by
 refine⟨QG (rB ..) (by decide),fun x hx=>?_⟩;have:=(xq F c0 c1).2 x hx;omega
def arL(h w o z:Int):List Int:=(besL h w o).filter fun x=>!decide (x=z)
def lf(K:Frag):Sp:=fun vs H Q _=>∃(a:Addr) (h w g o z:Int),vs=[.ref a,.int o,.int z]/\IsFl H a h w g/\FlOk h w g/\∀ l H',Same H H'->H l=none->H' l=some (.lst ((arL h w o z).map V.int))->Q (.ref l) H'
def p6(K:Frag):TS:=
 (tRet (tComp [none,none,some 2] (iList K (tCall (bH K) [] E0 (tCons (tVar 0) (tCons (tVar 1) tNil)))) (gName 1) (tTest (tOp (cNe K) (tVar 1) (tVar 2))) (tVar 1)))
theorem A8(h:lf K vs H Q E):p6 K (eD9 Q) (start ["floor","middle","cell"] vs) H:=by
 obtain⟨a,h,w,g,o,z,rfl,ha,F,q⟩:=h;have w0:=F.w0;have w1:=F.w1;show p6 K _ [some (.ref a),some (.int o),some (.int z)] H;unfold p6;rw[dG,cq];symm;refine⟨a,h,w,g,o,rfl,ha,by omega,by omega,fun l H1 s1 hl el=>?_⟩;have hb:=rB h w o;refine⟨l,rfl,⟨_,QI el⟩,?_⟩;refine bu (xs:=besL h w o) (fun x=>!decide (x=z)) (fun x=>x) (by omega) (QI el) ?_ ?_ ?_
 . intro y H2 R hy s2 k2;show tTest _ [none,some (.int y),some (.int z)] H2 R;symm;exact k2 _ (Qy _)
 . intro y H2 Q2 hy hb s2 k2;show tVar 1 [none,some (.int y),some (.int z)] H2 Q2;symm;exact k2 _ (Qy _)
 . intro T H2 hT s2 eT;rw[RT] at eT;exact q T H2 (s1.trans s2) (s1.free hT) eT
def mayN(Qh:List Int)(m:Int)(cs:List Int):Nat:=((sgAt Qh cs).filter fun k=>stB k m).length
def onlN(Qh:List Int)(m:Int)(cs:List Int):Nat:=((sgAt Qh cs).filter fun k=>decide (woI k m=0)).length
def turnB(h w m:Int)(Qh:List Int)(z s:Int)(ms:List Int):Bool:=
 if ms=[] then decide (s=m)&&(decide ((mayN Qh m (besL h w z):Int)<2)||decide ((2:Int) < (onlN Qh m (besL h w z):Int)))
 else decide (ms.length=1)&&(decide (ms.getD 0 0∈besL h w z)&&(decide (woI (Qh.getD (ms.getD 0 0).toNat 0) m=0)&&
  (if s=m then decide ((2:Int)<=(onlN Qh m (arL h w (ms.getD 0 0) z):Int)) else decide ((mayN Qh m (arL h w (ms.getD 0 0) z):Int)<2))))
def dq(K:Frag)(c:RCl RK):Sp:=fun vs H Q _=>∃(k:RK) (f r p A M:Addr) (ws:List (List Nat)) (cs Qh ms:List Int) (n m z s h w g:Int),vs=[.ref f,.ref r,.ref A,.int z,.int s,.ref M]/\IsFl H f h w g/\FlOk h w g/\IsRule H c k r p ws cs n m/\Qh.length=(h*w).toNat/\H A=some (.lst (Qh.map V.int))/\H M=some (.lst (ms.map V.int))/\m<=1000/\0<=z/\z<h*w/\∀ H',Same H H'->Q (.bl (turnB h w m Qh z s ms)) H'
def gB(K:Frag)(c:RCl RK):TS:=
 (tSeq (tAsg (tCall (aZ K) [] E0 (tCons (tVar 2) (tCons (tCall (lf K) [] E0 (tCons (tVar 0) (tCons (tOp cIx (tVar 5) (tC (.int 0))) (tCons (tVar 3) tNil)))) tNil))) (gName 7))
  (tSeq (tIfS (tTest (tOp (cEq K) (tVar 4) (tVar 6))) (tRet (tOp (cCmp fun i j=>decide (j<=i)) (tCall (bL K) [] E0 (tCons (tVar 7) (tCons (tVar 6) tNil))) (tC (.int 2)))) tNext)
  (tRet (tOp (cCmp fun i j=>decide (i<j)) (tCall (bV K) [] E0 (tCons (tVar 7) (tCons (tVar 6) tNil))) (tC (.int 2))))))
def gC(K:Frag)(c:RCl RK):TS:=
 (tSeq (tIfS (tOr (tTest (tOp (cNe K) (tCB kLen (tCons (tVar 5) tNil)) (tC (.int 1)))) (tOr (tTest (tOp (cIn K true) (tOp cIx (tVar 5) (tC (.int 0))) (tCall (bH K) [] E0 (tCons (tVar 0) (tCons (tVar 3) tNil))))) (tNot (tB (tCall (bd K) [] E0 (tCons (tOp cIx (tVar 2) (tOp cIx (tVar 5) (tC (.int 0)))) (tCons (tVar 6) tNil))))))) (tRet (tC (.bl false))) tNext)
  (gB K c))
def jR(K:Frag)(c:RCl RK):TS:=
 (tSeq (tAsg (aI c c.ok "sign" (cO K c) (tVar 1) tNil) (gName 6))
  (tSeq (tIfS (tTest (tOp (cEq K) (tVar 5) (tLst tNil))) (tSeq (tAsg (tCall (aZ K) [] E0 (tCons (tVar 2) (tCons (tCall (bH K) [] E0 (tCons (tVar 0) (tCons (tVar 3) tNil))) tNil))) (gName 7))
  (tRet (tAndV (tOp (cEq K) (tVar 4) (tVar 6)) (tOrV (tOp (cCmp fun i j=>decide (i<j)) (tCall (bV K) [] E0 (tCons (tVar 7) (tCons (tVar 6) tNil))) (tC (.int 2))) (tOp (cCmp fun i j=>decide (j<i)) (tCall (bL K) [] E0 (tCons (tVar 7) (tCons (tVar 6) tNil))) (tC (.int 2))))))) tNext)
  (gC K c)))
theorem p7 {f:Addr} (hf:IsFl H f h w g) (F:FlOk h w g) (hml:Qh.length=(h*w).toNat) (hA:H A=some (.lst (Qh.map V.int))) (hM:H M=some (.lst (ms.map V.int))) (hl:ms.length=1) (hm:m<=1000) (z0:0<=z) (z1:z<h*w) (ho:ms.getD 0 0∈besL h w z)
  (q:∀ H',Same H H'->Q (.bl (if s=m then decide ((2:Int)<=(onlN Qh m (arL h w (ms.getD 0 0) z):Int)) else decide ((mayN Qh m (arL h w (ms.getD 0 0) z):Int)<2))) H'):
  gB K c (eD9 Q) [some (.ref f),some v1,some (.ref A),some (.int z),some (.int s),some (.ref M),some (.int m),none] H:=by
 have oin:=(xq F z0 z1).2 _ ho;have bin:=xt (n:=Qh.length) F oin.1 oin.2 hml;have hin:aN (arL h w (ms.getD 0 0) z) Qh.length:=⟨QG (QE _ _) bin.1,fun x hx=>bin.2 x (QW.mp hx).1⟩;unfold gB;symm;refine ixI hM (by decide) (by omega) ?_;rw[show(0:Int).toNat=0 from rfl];symm;refine⟨f,h,w,g,_,z,rfl,hf,F,fun R H1 s1 hR eR=>?_⟩;symm;refine⟨A,R,Qh,_,rfl,s1 _ _ hA,eR,hin,fun B H3 s3 hB eB=>?_⟩;have Qq:(sgAt Qh (arL h w (ms.getD 0 0) z)).length<=63:=by unfold sgAt;rw[Qu];exact hin.1
 symm;rw[aA];symm;by_cases hs:s=m
 . rw[QA hs];rw[Q6 hs] at q;symm;refine⟨B,_,_,rfl,eB,Qq,by omega,fun H4 s4=>?_⟩;symm;exact q _ ((s1.trans s3).trans s4)
 . rw[Qx hs];rw[QT hs] at q;symm;refine⟨B,_,_,rfl,eB,Qq,fun H4 s4=>?_⟩;symm;exact q _ ((s1.trans s3).trans s4)
theorem p8 {f:Addr} (hf:IsFl H f h w g) (F:FlOk h w g) (hml:Qh.length=(h*w).toNat) (hA:H A=some (.lst (Qh.map V.int))) (hM:H M=some (.lst (ms.map V.int))) (hm:m<=1000) (z0:0<=z) (z1:z<h*w)
  (q:∀ H',Same H H'->Q (.bl (decide (ms.length=1)&&(decide (ms.getD 0 0∈besL h w z)&&(decide (woI (Qh.getD (ms.getD 0 0).toNat 0) m=0)&&(if s=m then decide ((2:Int)<=(onlN Qh m (arL h w (ms.getD 0 0) z):Int)) else decide ((mayN Qh m (arL h w (ms.getD 0 0) z):Int)<2)))))) H'):
  gC K c (eD9 Q) [some (.ref f),some v1,some (.ref A),some (.int z),some (.int s),some (.ref M),some (.int m),none] H:=by
 have w0:=F.w0;have w1:=F.w1;unfold gC;rw[aL,aA];symm;rw[bt hM,Qu];symm
 have e1:decide ((ms.length:Int)=1)=decide (ms.length=1):=by
  rw[Q0,QB,QB];omega
 rw[e1]
 cases hb:decide (ms.length=1) with
 | false=>
  rw[hb,QJ] at q;symm;exact q _ (Qy _)
 | true=>
  rw[hb,QL] at q;have hl:=QU hb;symm;refine ixI hM (by decide) (by omega) ?_;rw[show(0:Int).toNat=0 from rfl];symm;refine⟨f,h,w,g,z,rfl,hf,by omega,by omega,fun R H1 s1 hR eR=>?_⟩;dsimp only;rw[m6 eR]
  cases hb2:decide (ms.getD 0 0∈besL h w z) with
  | false=>
   rw[hb2,QJ] at q;refine⟨true,rfl,iteT ?_⟩;symm;exact q _ s1
  | true=>
   rw[hb2,QL] at q;have ho:=QU hb2;have oin:=(xq F z0 z1).2 _ ho;refine⟨false,rfl,iteF ?_⟩;symm;refine ixI (s1 _ _ hM) (by decide) (by omega) ?_;rw[show(0:Int).toNat=0 from rfl];symm;refine ixI (s1 _ _ hA) (by omega) (by omega) ?_;symm;refine⟨_,m,rfl,by omega,?_⟩
   cases hb3:decide (woI (Qh.getD (ms.getD 0 0).toNat 0) m=0) with
   | false=>
    rw[hb3,QJ] at q;refine⟨false,rfl,iteT ?_⟩;symm;exact q _ s1
   | true=>
    rw[hb3,QL] at q;refine⟨true,rfl,iteF ?_⟩;exact p7 (s1 _ _ hf) F hml (s1 _ _ hA) (s1 _ _ hM) hl hm z0 z1 ho fun H' s2=>q H' (s1.trans s2)
theorem tT(h:dq K c vs H Q E):jR K c (eD9 Q) (start ["floor","rule","masks","cell","sign","more","mark","some"] vs) H:=by
 obtain⟨k,f,r,p,A,M,ws,cs,Qh,ms,n,m,z,s,h,w,g,rfl,hf,F,x,hml,hA,hM,hm,z0,z1,q⟩:=h;obtain⟨dx,W,C,h1,h2,h3⟩:=x.ex;have w0:=F.w0;have w1:=F.w1;show jR K c _ [some (.ref f),some (.ref r),some (.ref A),some (.int z),some (.int s),some (.ref M),none,none] H;unfold jR;rw[aL,cp];refine methE (k:=k) rfl x.ok h1 (by rfl) ?_;symm;refine⟨r,p,ws,cs,n,m,rfl,x,?_⟩;symm;rw[aA];symm;refine⟨aT (by decide),fun Z hZ=>?_⟩;obtain⟨H1,z9,s1,eZ⟩:∃ z,upd H Z (.lst [])=z/\Same H z/\z Z=some (.lst (([]:List Int).map V.int)):=aY _ hZ;rw[z9];refine qD (s1 _ _ hM) eZ ?_;unfold turnB at q;by_cases hms:ms=[]
 . rw[Q6 hms] at q;rw[QA hms];refine⟨true,rfl,?_⟩;symm;refine⟨f,h,w,g,z,rfl,s1 _ _ hf,by omega,by omega,fun R H2 s2 hR eR=>?_⟩;have bin:=xt (n:=Qh.length) F z0 z1 hml;symm;refine⟨A,R,Qh,_,rfl,(s1.trans s2) _ _ hA,eR,bin,fun B H3 s3 hB eB=>?_⟩;have Qq:(sgAt Qh (besL h w z)).length<=63:=by unfold sgAt;rw[Qu];exact bin.1
   have s13:=(s1.trans s2).trans s3;symm
   cases hb:decide (s=m) with
   | false=>
    rw[hb,QJ] at q;symm;exact q _ s13
   | true=>
    rw[hb,QL] at q;symm;refine⟨B,_,_,rfl,eB,Qq,fun H4 s4=>?_⟩;symm;have e1:decide ((((sgAt Qh (besL h w z)).filter fun k=>stB k m).length:Int)<2)=decide ((mayN Qh m (besL h w z):Int)<2):=rfl;rw[e1]
    cases hb2:decide ((mayN Qh m (besL h w z):Int)<2) with
    | true=>
     rw[hb2,Sz] at q;symm;exact q _ (s13.trans s4)
    | false=>
     rw[hb2,RQ] at q;symm;refine⟨B,_,_,rfl,s4 _ _ eB,Qq,by omega,fun H5 s5=>?_⟩;symm;exact q _ ((s13.trans s4).trans s5)
 . rw[QT hms] at q;rw[Qx hms];refine⟨false,rfl,?_⟩;symm;exact p8 (s1 _ _ hf) F hml (s1 _ _ hA) (s1 _ _ hM) hm z0 z1 fun H' s2=>q H' (s1.trans s2)
theorem rP(t:TK):decide (tkC t=[114,101,97,99,104])=decide (t=.reach):=by cases t <;> decide
theorem A9{k:RK}(h:goesB .turn k=true):sgnK k=true:=by cases k <;> first | rfl | cases h
noncomputable def Ba (h w:Int) (t:TK) (x:RR) (Qh:List Int) (z s:Int) (ms:List Int):Bool:=match t with
 | .square=>squB h w x.m Qh z s ms
 | .reach=>reaB h w x.cs x.m Qh z s ms
 | _=>turnB h w x.m Qh z s ms
noncomputable def xu (h w:Int) (Qj:List RR) (Qh:List Int) (t:TK) (r z s:Int) (ms:List Int):Bool:=match Qj[r.toNat]? with
 | none=>false
 | some x=>Ba h w t x Qh z s ms
abbrev Eb(t:TK):Prop:=t=.square\/t=.reach\/t=.turn
def bM(K:Frag)(c:RCl RK)(d:RCl PzK):Sp:=fun vs H Q _=>∃(P L G A T M:Addr) (h w g:Int) (Qj:List RR) (cl Qh:List Int) (t:TK) (r z s:Int) (ms:List Int),vs=[.ref P,.ref A,.ref T]/\Asks H c d P L G A T M h w g Qj cl Qh t r z s ms/\Eb t/\formB h w g Qj t r z s=true/\∀ H',Same H H'->Q (.bl (xu h w Qj Qh t r z s ms)) H'
def dC(K:Frag)(c:RCl RK)(d:RCl PzK):TS:=
 (tSeq (tAsg (aI d d.ok "place" (cA K c d) (tVar 0) tNil) (gName 3))
  (tSeq (tAsg (tOp cIx (aI d d.ok "rules" (bq K c d) (tVar 0) tNil) (tOp cIx (tVar 2) (tC (.int 1)))) (gName 4))
  (tSeq (tIfS (tTest (tOp (cEq K) (tOp cIx (tVar 2) (tC (.int 0))) (tC (.str (tx [115,113,117,97,114,101]))))) (tRet (tCall (cE K c) [] E0 (tCons (tVar 3) (tCons (tVar 4) (tCons (tVar 1) (tCons (tOp cIx (tVar 2) (tC (.int 2))) (tCons (tOp cIx (tVar 2) (tC (.int 3))) (tCons (tOp cIx (tVar 2) (tC (.int 4))) tNil)))))))) tNext)
  (tSeq (tIfS (tTest (tOp (cEq K) (tOp cIx (tVar 2) (tC (.int 0))) (tC (.str (tx [114,101,97,99,104]))))) (tRet (tCall (cZ K c) [] E0 (tCons (tVar 3) (tCons (tVar 4) (tCons (tVar 1) (tCons (tOp cIx (tVar 2) (tC (.int 2))) (tCons (tOp cIx (tVar 2) (tC (.int 3))) (tCons (tOp cIx (tVar 2) (tC (.int 4))) tNil)))))))) tNext)
  (tRet (tCall (dq K c) [] E0 (tCons (tVar 3) (tCons (tVar 4) (tCons (tVar 1) (tCons (tOp cIx (tVar 2) (tC (.int 2))) (tCons (tOp cIx (tVar 2) (tC (.int 3))) (tCons (tOp cIx (tVar 2) (tC (.int 4))) tNil))))))))))))
variable{d:RCl PzK}
theorem nL(h:bM K c d vs H Q E):dC K c d (eD9 Q) (start ["puzzle","masks","thought","floor","rule"] vs) H:=by
 obtain⟨P,L,G,A,T,M,h,w,g,Qj,cl,Qh,t,r,z,s,ms,rfl,X,ht,f,q⟩:=h;obtain⟨dx,p,rs,h1,h2,h3⟩:=X.P.ex;obtain⟨z0,z1,s0,s1',Qs⟩:=gu f;have hg:=X.P.R.F.g1;have hnc:t≠.clue:=by rcases ht with rfl | rfl | rfl <;> decide
 obtain⟨r0,y,ey,hgo,hz⟩:=qK hnc Qs;have O:=X.P.R.ok y (QC ey)
 have q2:∀ H',Same H H'->Q (.bl (Ba h w t y Qh z s ms)) H':=fun H' s'=>by
  have q1:=q H' s';unfold xu at q1;rw[ey] at q1;exact q1
 show dC K c d _ [some (.ref P),some (.ref A),some (.ref T),none,none] H;unfold dC;rw[aL,cp];refine methE (k:=.Puzzle) rfl X.P.ok h1 (by rfl) ?_;symm;refine⟨P,L,G,h,w,g,Qj,cl,rfl,X.P,fun p3 hp3=>?_⟩;symm;refine methE (k:=.Puzzle) rfl X.P.ok h1 (by rfl) ?_;symm;refine⟨P,L,G,h,w,g,Qj,cl,rfl,X.P,fun l p2 rs2 hl hp2 Y=>?_⟩;have s2:Same H (upd H l (.lst (rs2.map V.ref))):=(Qy H).laid hl;generalize upd H l (.lst (rs2.map V.ref))=H1 at*;have hlt:=(Qz.mp ey).1;have Qq:=Y.len;have ea:rs2[r.toNat]? =some rs2[r.toNat]:=Qv (by omega);dsimp only;refine ixT (s2 _ _ X.T.T) (v:=V.int r) rfl ?_;refine ixL Y.top (gh r0 ea) ?_;symm;rw[aA];symm;refine ixT (s2 _ _ X.T.T) (v:=V.str (tx (tkC t))) rfl ?_;symm;rw[bv,vC];rcases ht with rfl | rfl | rfl
 . rw[QA rfl];refine iteT ?_;symm;refine ixT (s2 _ _ X.T.T) (v:=V.int z) rfl ?_;symm;refine ixT (s2 _ _ X.T.T) (v:=V.int s) rfl ?_;symm;refine ixT (s2 _ _ X.T.T) (v:=V.ref M) rfl ?_;symm;exact⟨_,p3,_,p2,A,M,_,y.cs,Qh,ms,_,_,z,s,h,w,g,rfl,s2 _ _ hp3,X.P.R.F,Y.at_ _ _ _ ea ey,X.n,s2 _ _ X.A,s2 _ _ X.T.M,by omega,fun H' s3=>q2 H' (s2.trans s3)⟩
 . have ym:=(O.m0 (vF hgo)).2;rw[Qx (show ¬ TK.reach=TK.square by decide)];refine iteF ?_;rw[aA];symm;refine ixT (s2 _ _ X.T.T) (v:=V.str (tx (tkC .reach))) rfl ?_;symm;rw[bv,rP,QA rfl];refine iteT ?_;symm;refine ixT (s2 _ _ X.T.T) (v:=V.int z) rfl ?_;symm;refine ixT (s2 _ _ X.T.T) (v:=V.int s) rfl ?_;symm;refine ixT (s2 _ _ X.T.T) (v:=V.ref M) rfl ?_;symm;have hin:aN y.cs Qh.length:=by rw[X.n];exact Tt O X.P.R.F
   exact⟨_,p3,_,p2,A,M,_,y.cs,Qh,ms,_,_,z,s,h,w,g,rfl,s2 _ _ hp3,X.P.R.F,Y.at_ _ _ _ ea ey,hin,RR.len26 O X.P.R.F,X.n,s2 _ _ X.A,s2 _ _ X.T.M,X.T.n,by omega,fun H' s3=>q2 H' (s2.trans s3)⟩
 . have ym:=(O.m0 (A9 hgo)).2;rw[Qx (show ¬ TK.turn=TK.square by decide)];refine iteF ?_;rw[aA];symm;refine ixT (s2 _ _ X.T.T) (v:=V.str (tx (tkC .turn))) rfl ?_;symm;rw[bv,rP,Qx (show ¬ TK.turn=TK.reach by decide)];refine iteF ?_;symm;refine ixT (s2 _ _ X.T.T) (v:=V.int z) rfl ?_;symm;refine ixT (s2 _ _ X.T.T) (v:=V.int s) rfl ?_;symm;refine ixT (s2 _ _ X.T.T) (v:=V.ref M) rfl ?_;symm;exact⟨_,p3,_,p2,A,M,_,y.cs,Qh,ms,_,_,z,s,h,w,g,rfl,s2 _ _ hp3,X.P.R.F,Y.at_ _ _ _ ea ey,X.n,s2 _ _ X.A,s2 _ _ X.T.M,by omega,z0,z1,fun H' s3=>q2 H' (s2.trans s3)⟩
theorem C7(m0:0<=m)(x:Int):x∈sgL m↔stB m x=true:=by
 unfold sgL;rw[QS];constructor
 . rintro⟨i,hi,rfl⟩;exact(QW.mp hi).2
 . intro h;have h':=h;unfold stB at h';rw[Rk,Rk] at h';have a:=QU h'.1;have b:=QU h'.2.1;refine⟨(x-1).toNat,QW.mpr ⟨QQ.mpr (by omega),?_⟩,by omega⟩;rw[show 1+(((x-1).toNat:Nat):Int)=x by omega];exact h
theorem xv{f:Nat->Int}(hf:∀ a b,f a=f b->a=b):∀{xs:List Nat},xs.Nodup->(xs.map f).Nodup
 | [],_=>SA
 | x::r,h=>by
  rw[RA] at h;rw[Rc,RA];refine⟨fun hx=>?_,xv hf h.2⟩;obtain⟨y,hy,e⟩:=QS.mp hx;exact h.1 (hf _ _ e ▸ hy)
theorem Ec(m:Int):(sgL m).Nodup:=by
 unfold sgL;exact xv (f:=fun(i:Nat)=>1+(i:Int)) (fun a b e=>by have e':(1:Int)+(a:Int)=1+(b:Int):=e;omega) (List.Nodup.sublist List.filter_sublist List.nodup_range)
theorem xw:((List.range 64).all fun m=>decide (Builtin.Int.intBits (m:Int)<=6))=true:=by decide+kernel
theorem zN{k:RK}{m:Nat}{ns:List Nat}(F:FlOk h w g)(ne:ns≠[])(lt:∀ c∈ns,(c:Int)<h*w)(nd:ns.Nodup)(len:ns.length<=16)(hk:allK k=false)(k0:k≠.Rule)(n0:n<=99)(nz:numK k=false->n=0)(m0:sgnK k=true->1<=(m:Int)/\(m:Int)<=g)(mz:sgnK k=false->m=0):
  RR.Ok ⟨k,n,m,ns,ns.map fun(n:Nat)=>(n:Int)⟩ h w g:=by
 have m16:=F.m;refine⟨k0,n0,nz,m0,mz,⟨fun _=>⟨ne,len,lt,nd,rfl⟩,fun e=>?_⟩,fun x hx=>?_,len⟩
 . rw[show allK k=false from hk] at e;cases e
 . have:=lt x hx;omega
def dTh(t:TK)(r z s:Int)(ms:List Int):PyData:=.tuple [.str (tx (tkC t)),.int r,.int z,.int s,.list (ms.map PyData.int)]
variable{t:TK}
theorem EL{T:Addr}{r:Int}(x:IsTh H T M t r z s ms):DV K H (.ref T) (dTh t r z s ms):=
 .tup (T7 x.T) (.cons (.str _) (.cons (.int _) (.cons (.int _) (.cons (.int _) (.cons (.lst (QI x.M) (.ints ms)) .nil)))))
theorem C8(t:TK):decide (tkC t=[112,97,105,114])=decide (t=.pair):=by cases t <;> decide
theorem C9(t:TK):decide (tkC t=[116,117,114,110])=decide (t=.turn):=by cases t <;> decide
noncomputable def Bb (h w:Int) (x:RR) (Qh:List Int) (t:TK) (z s:Int) (ms:List Int):Bool:=match t with
 | .count=>cntB x.cs x.n x.m Qh z s ms
 | .sum=>sumB x.cs x.n Qh z s ms
 | .step=>stepB x.cs Qh z s ms
 | _=>waysB x.k h w x.cs x.n x.m Qh z s ms
noncomputable def p9 (h w:Int) (Qj:List RR) (Qh:List Int) (t:TK) (r z s:Int) (ms:List Int):Bool:=match Qj[r.toNat]? with
  | none=>false
  | some x=>Bb h w x Qh t z s ms
def bN(K:Frag)(c:RCl RK)(d:RCl PzK):Sp:=fun vs H Q _=>∃(P L G A T M:Addr) (h w g:Int) (Qj:List RR) (cl Qh:List Int) (t:TK) (r z s:Int) (ms:List Int),vs=[.ref P,.ref A,.ref T]/\Asks H c d P L G A T M h w g Qj cl Qh t r z s ms/\(t=.count\/t=.sum\/t=.ways)/\(∀ m∈Qh,0<=m/\m<64)/\formB h w g Qj t r z s=true/\∀ H',Same H H'->Q (.bl (p9 h w Qj Qh t r z s ms)) H'
def dD(K:Frag)(c:RCl RK)(d:RCl PzK):TS:=
 (tSeq (tAsg (tOp cIx (aI d d.ok "rules" (bq K c d) (tVar 0) tNil) (tOp cIx (tVar 2) (tC (.int 1)))) (gName 3))
  (tSeq (tIfS (tTest (tOp (cEq K) (tOp cIx (tVar 2) (tC (.int 0))) (tC (.str (tx [99,111,117,110,116]))))) (tRet (tCall (cW K c) [] E0 (tCons (tVar 3) (tCons (tVar 1) (tCons (tOp cIx (tVar 2) (tC (.int 2))) (tCons (tOp cIx (tVar 2) (tC (.int 3))) (tCons (tOp cIx (tVar 2) (tC (.int 4))) tNil))))))) tNext)
  (tSeq (tIfS (tTest (tOp (cEq K) (tOp cIx (tVar 2) (tC (.int 0))) (tC (.str (tx [115,117,109]))))) (tRet (tCall (dO K c) [] E0 (tCons (tVar 3) (tCons (tVar 1) (tCons (tOp cIx (tVar 2) (tC (.int 2))) (tCons (tOp cIx (tVar 2) (tC (.int 3))) (tCons (tOp cIx (tVar 2) (tC (.int 4))) tNil))))))) tNext)
  (tRet (tCall (dn K c) [] E0 (tCons (tVar 3) (tCons (tVar 1) (tCons (tOp cIx (tVar 2) (tC (.int 2))) (tCons (tOp cIx (tVar 2) (tC (.int 3))) (tCons (tOp cIx (tVar 2) (tC (.int 4))) tNil))))))))))
theorem nN(h:bN K c d vs H Q E):dD K c d (eD9 Q) (start ["puzzle","masks","thought","rule"] vs) H:=by
 obtain⟨P,L,G,A,T,M,h,w,g,Qj,cl,Qh,t,r,z,s,ms,rfl,X,ht,mo,f,q⟩:=h;obtain⟨dx,p,rs,h1,h2,h3⟩:=X.P.ex;obtain⟨z0,z1,s0,s1',Qs⟩:=gu f;have hg:=X.P.R.F.g1;have hmm:=X.P.R.F.m;obtain⟨r0,y,ey,hgo,hz⟩:=qK (by rcases ht with rfl | rfl | rfl <;> decide) Qs;have O:=X.P.R.ok y (QC ey);have hin:aN y.cs Qh.length:=by rw[X.n];exact Tt O X.P.R.F
 show dD K c d _ [some (.ref P),some (.ref A),some (.ref T),none] H;unfold dD;rw[aL,cp,iN];refine methE (k:=.Puzzle) rfl X.P.ok h1 (by rfl) ?_;symm;refine⟨P,L,G,h,w,g,Qj,cl,rfl,X.P,fun l p2 rs2 hl hp2 Y=>?_⟩;have s2:Same H (upd H l (.lst (rs2.map V.ref))):=(Qy H).laid hl;generalize upd H l (.lst (rs2.map V.ref))=H1 at*;have hlt:=(Qz.mp ey).1;have Qq:=Y.len;have ea:rs2[r.toNat]? =some rs2[r.toNat]:=Qv (by omega)
 have fin:∀ H',Same H1 H'->Q (.bl (Bb h w y Qh t z s ms)) H':=fun H' s3=>by
  have q1:=q H' (s2.trans s3);unfold p9 at q1;rw[ey] at q1;exact q1
 dsimp only;refine ixT (s2 _ _ X.T.T) (v:=V.int r) rfl ?_;refine ixL Y.top (gh r0 ea) ?_;symm;rw[aA];symm;refine ixT (s2 _ _ X.T.T) (v:=V.str (tx (tkC t))) rfl ?_;symm;rw[bv,BZ];rcases ht with rfl | rfl | rfl
 . rw[QA rfl];refine iteT ?_;symm;refine ixT (s2 _ _ X.T.T) (v:=V.int z) rfl ?_;symm;refine ixT (s2 _ _ X.T.T) (v:=V.int s) rfl ?_;symm;refine ixT (s2 _ _ X.T.T) (v:=V.ref M) rfl ?_;symm;exact⟨_,_,p2,A,M,_,y.cs,Qh,ms,_,_,z,s,rfl,Y.at_ _ _ _ ea ey,hin,s2 _ _ X.A,s2 _ _ X.T.M,by omega,fin⟩
 . rw[Qx (by decide)];refine iteF ?_;rw[aA];symm;refine ixT (s2 _ _ X.T.T) (v:=V.str (tx (tkC .sum))) rfl ?_;symm;rw[bv,AZ,QA rfl];refine iteT ?_;symm;refine ixT (s2 _ _ X.T.T) (v:=V.int z) rfl ?_;symm;refine ixT (s2 _ _ X.T.T) (v:=V.int s) rfl ?_;symm;refine ixT (s2 _ _ X.T.T) (v:=V.ref M) rfl ?_;symm;exact⟨_,_,p2,A,M,_,y.cs,Qh,ms,_,_,z,s,rfl,Y.at_ _ _ _ ea ey,hin,mo,s2 _ _ X.A,s2 _ _ X.T.M,fin⟩
 . rw[Qx (by decide)];refine iteF ?_;rw[aA];symm;refine ixT (s2 _ _ X.T.T) (v:=V.str (tx (tkC .ways))) rfl ?_;symm;rw[bv,AZ,Qx (by decide)];refine iteF ?_;symm;refine ixT (s2 _ _ X.T.T) (v:=V.int z) rfl ?_;symm;refine ixT (s2 _ _ X.T.T) (v:=V.int s) rfl ?_;symm;refine ixT (s2 _ _ X.T.T) (v:=V.ref M) rfl ?_;symm;exact⟨_,_,p2,A,M,_,y.cs,Qh,ms,_,_,z,s,h,w,g,rfl,Y.at_ _ _ _ ea ey,hp2,X.P.R.F,hin,by rw[X.n];omega,mo,by omega,by omega,s2 _ _ X.A,s2 _ _ X.T.M,fin⟩
noncomputable def strA (h w g:Int) (Qj:List RR) (cl Qh:List Int) (t:TK) (r z s:Int) (ms:List Int):Bool:=
 if lineK t then(if t=.step then p9 h w Qj Qh t r z s ms else xo g Qj cl Qh t r z s ms) else if nbrK t then p9 h w Qj Qh t r z s ms else xu h w Qj Qh t r z s ms
def cb(K:Frag)(c:RCl RK)(d:RCl PzK):Sp:=fun vs H Q _=>∃(P L G A T M:Addr) (h w g:Int) (Qj:List RR) (cl Qh:List Int) (t:TK) (r z s:Int) (ms:List Int),vs=[.ref P,.ref A,.ref T]/\Asks H c d P L G A T M h w g Qj cl Qh t r z s ms/\lineK t=true/\(∀ m∈Qh,0<=m/\m<64)/\formB h w g Qj t r z s=true/\∀ H',Same H H'->Q (.bl (strA h w g Qj cl Qh t r z s ms)) H'
def fR(K:Frag)(c:RCl RK)(d:RCl PzK):TS:=
 (tSeq (tAsg (tOp cIx (tVar 2) (tC (.int 0))) (gName 3))
  (tSeq (tAsg (tOp cIx (tVar 2) (tC (.int 2))) (gName 4))
  (tSeq (tAsg (tOp cIx (tVar 2) (tC (.int 3))) (gName 5))
  (tSeq (tAsg (tOp cIx (tVar 2) (tC (.int 4))) (gName 6))
  (tSeq (tIfS (tTest (tOp (cEq K) (tVar 3) (tC (.str (tx [99,108,117,101]))))) (tRet (tCall (di K) [] E0 (tCons (aI d d.ok "clues" (oF K c d) (tVar 0) tNil) (tCons (tVar 4) (tCons (tVar 5) (tCons (tVar 6) tNil)))))) tNext)
  (tSeq (tAsg (tOp cIx (aI d d.ok "rules" (bq K c d) (tVar 0) tNil) (tOp cIx (tVar 2) (tC (.int 1)))) (gName 7))
  (tSeq (tIfS (tTest (tOp (cEq K) (tVar 3) (tC (.str (tx [111,110,108,121]))))) (tRet (tCall (dj K c) [] E0 (tCons (tVar 7) (tCons (tVar 1) (tCons (tVar 4) (tCons (tVar 5) (tCons (tVar 6) tNil))))))) tNext)
  (tSeq (tIfS (tTest (tOp (cEq K) (tVar 3) (tC (.str (tx [112,108,97,99,101]))))) (tRet (tCall (cV K c) [] E0 (tCons (aI d d.ok "place" (cA K c d) (tVar 0) tNil) (tCons (tVar 7) (tCons (tVar 1) (tCons (tVar 4) (tCons (tVar 5) (tCons (tVar 6) tNil)))))))) tNext)
  (tSeq (tIfS (tTest (tOp (cEq K) (tVar 3) (tC (.str (tx [115,116,101,112]))))) (tRet (tCall (dm K c) [] E0 (tCons (tVar 7) (tCons (tVar 1) (tCons (tVar 4) (tCons (tVar 5) (tCons (tVar 6) tNil))))))) tNext)
  (tRet (tCall (dk K c) [] E0 (tCons (tVar 7) (tCons (tVar 1) (tCons (tVar 4) (tCons (tVar 5) (tCons (tVar 6) tNil))))))))))))))))
theorem px(h:cb K c d vs H Q E):fR K c d (eD9 Q) (start ["puzzle","masks","thought","kind","cell","sign","more","rule"] vs) H:=by
 obtain⟨P,L,G,A,T,M,h,w,g,Qj,cl,Qh,t,r,z,s,ms,rfl,X,ht,mm,f,q⟩:=h;obtain⟨dx,p,rs,h1,h2,h3⟩:=X.P.ex;obtain⟨z0,z1,s0,s1',Qs⟩:=gu f;have hcl:=X.P.C.len;have hg:=X.P.R.F.g1;unfold strA at q;rw[ht,Q6 rfl] at q;show fR K c d _ [some (.ref P),some (.ref A),some (.ref T),none,none,none,none,none] H;unfold fR;symm;refine ixT X.T.T (v:=V.str (tx (tkC t))) rfl ?_;symm;refine ixT X.T.T (v:=V.int z) rfl ?_;symm;refine ixT X.T.T (v:=V.int s) rfl ?_;symm;refine ixT X.T.T (v:=V.ref M) rfl ?_;symm;rw[aA];symm;rw[bv,qJ];by_cases hc:t=.clue
 . subst hc;rw[QT (by decide)] at q;rw[QA rfl];refine iteT ?_;refine methE (k:=.Puzzle) rfl X.P.ok h1 (by rfl) ?_;symm;refine⟨P,L,G,h,w,g,Qj,cl,rfl,X.P,fun l hl=>?_⟩;have s2:Same H (upd H l (.lst (cl.map V.int))):=(Qy H).laid hl;exact⟨l,M,z,s,cl,ms,rfl,ah,z0,by omega,s2 _ _ X.T.M,fun H' s3=>q H' (s2.trans s3)⟩
 . rw[Qx hc];obtain⟨r0,y,ey,_,hz⟩:=qK hc Qs
   have q2:t≠.step->∀ H',Same H H'->Q (.bl (xn g t y Qh z s ms)) H':=fun hn H' s'=>by
    have q1:=q H' s';rw[QT hn] at q1
    have e:xo g Qj cl Qh t r z s ms=xn g t y Qh z s ms:=by
     unfold xo;cases t <;> first | exact absurd rfl hc | (dsimp only;rw[ey])
    rw[e] at q1;exact q1
   refine iteF ?_;refine methE (k:=.Puzzle) rfl X.P.ok h1 (by rfl) ?_;symm;refine⟨P,L,G,h,w,g,Qj,cl,rfl,X.P,fun l p2 rs2 hl hp2 Y=>?_⟩;have s2:Same H (upd H l (.lst (rs2.map V.ref))):=(Qy H).laid hl;generalize upd H l (.lst (rs2.map V.ref))=H1 at*;have hlt:=(Qz.mp ey).1;have Qq:=Y.len;have ea:rs2[r.toNat]? =some rs2[r.toNat]:=Qv (by omega);have O:=X.P.R.ok y (QC ey);have hin:aN y.cs Qh.length:=by rw[X.n];exact Tt O X.P.R.F
   dsimp only;refine ixT (s2 _ _ X.T.T) (v:=V.int r) rfl ?_;refine ixL Y.top (gh r0 ea) ?_;symm;rw[aA];symm;rw[bv,yV];by_cases ho:t=.only
   . subst ho;rw[QA rfl];refine iteT ?_;symm;exact⟨_,_,p2,A,M,_,y.cs,Qh,ms,_,_,z,s,rfl,Y.at_ _ _ _ ea ey,hin,s2 _ _ X.A,s2 _ _ X.T.M,by omega,fun H' s3=>q2 (by decide) H' (s2.trans s3)⟩
   . rw[Qx ho];refine iteF ?_;rw[aA];symm;rw[bv,xc];by_cases hp:t=.place
     . subst hp;rw[QA rfl];refine iteT ?_;refine methE (k:=.Puzzle) rfl X.P.ok (s2 _ _ h1) (by rfl) ?_;symm;refine⟨P,L,G,h,w,g,Qj,cl,rfl,X.P.same s2,fun p3 hp3=>?_⟩;symm;exact⟨_,p3,_,p2,A,M,_,y.cs,Qh,ms,_,_,z,s,h,w,g,rfl,hp3,Y.at_ _ _ _ ea ey,hin,s2 _ _ X.A,s2 _ _ X.T.M,fun H' s3=>q2 (by decide) H' (s2.trans s3)⟩
     . rw[Qx hp];refine iteF ?_;rw[aA];symm;rw[bv,CY];by_cases hs:t=.step
       . subst hs;rw[QA rfl];refine iteT ?_;symm;refine⟨_,_,p2,A,M,_,y.cs,Qh,ms,_,_,z,s,rfl,Y.at_ _ _ _ ea ey,hin,hz,mm,s2 _ _ X.A,s2 _ _ X.T.M,fun H' s3=>?_⟩;have q1:=q H' (s2.trans s3);rw[Q6 rfl] at q1;unfold p9 at q1;rw[ey] at q1;exact q1
       . rw[Qx hs]
         have hpr:t=.pair:=by
          revert ht hc ho hp hs
          cases t <;> intro ht hc ho hp hs <;> first | rfl | exact absurd rfl hc | exact absurd rfl ho | exact absurd rfl hp | exact absurd rfl hs | cases ht
         subst hpr;refine iteF ?_;symm;exact⟨_,_,p2,A,M,_,y.cs,Qh,ms,_,_,z,s,rfl,Y.at_ _ _ _ ea ey,hin,mm,s2 _ _ X.A,s2 _ _ X.T.M,fun H' s3=>q2 (by decide) H' (s2.trans s3)⟩
def dE(K:Frag)(c:RCl RK)(d:RCl PzK):Sp:=fun vs H Q _=>∃(P L G A T M:Addr) (h w g:Int) (Qj:List RR) (cl Qh:List Int) (t:TK) (r z s:Int) (ms:List Int),vs=[.ref P,.ref A,.ref T]/\Asks H c d P L G A T M h w g Qj cl Qh t r z s ms/\(∀ m∈Qh,0<=m/\m<64)/\formB h w g Qj t r z s=true/\∀ H',Same H H'->Q (.bl (strA h w g Qj cl Qh t r z s ms)) H'
def nO(K:Frag)(c:RCl RK)(d:RCl PzK):TS:=
 (tSeq (tIfS (tB (tInG iK false (tOp cIx (tVar 2) (tC (.int 0))))) (tRet (tCall (cb K c d) [] E0 (tCons (tVar 0) (tCons (tVar 1) (tCons (tVar 2) tNil))))) tNext)
  (tSeq (tIfS (tB (tInG ga false (tOp cIx (tVar 2) (tC (.int 0))))) (tRet (tCall (bN K c d) [] E0 (tCons (tVar 0) (tCons (tVar 1) (tCons (tVar 2) tNil))))) tNext)
  (tRet (tCall (bM K c d) [] E0 (tCons (tVar 0) (tCons (tVar 1) (tCons (tVar 2) tNil)))))))
theorem nbrA(h:nbrK t=true):t=.count\/t=.sum\/t=.ways:=by cases t <;> first | exact .inl rfl | exact .inr (.inl rfl) | exact .inr (.inr rfl) | cases h
theorem regA(h1:lineK t=false)(h2:nbrK t=false):Eb t:=by cases t <;> first | exact .inl rfl | exact .inr (.inl rfl) | exact .inr (.inr rfl) | (cases h1;done) | (cases h2;done)
theorem yp(h:dE K c d vs H Q E):nO K c d (eD9 Q) (start ["puzzle","masks","thought"] vs) H:=by
 obtain⟨P,L,G,A,T,M,h,w,g,Qj,cl,Qh,t,r,z,s,ms,rfl,X,mm,f,q⟩:=h;show nO K c d _ [some (.ref P),some (.ref A),some (.ref T)] H;unfold nO;rw[aL,aA];symm;refine ixT X.T.T (v:=V.str (tx (tkC t))) rfl ?_;symm;rw[CT]
 cases e1:lineK t with
 | true=>
  refine iteT ?_;exact⟨P,L,G,A,T,M,h,w,g,Qj,cl,Qh,t,r,z,s,ms,rfl,X,e1,mm,f,q⟩
 | false=>
  unfold strA at q;rw[e1,QT Qt] at q;refine iteF ?_;rw[aA];symm;refine ixT X.T.T (v:=V.str (tx (tkC t))) rfl ?_;symm;rw[D4]
  cases e2:nbrK t with
  | true=>
   rw[e2,Q6 rfl] at q;refine iteT ?_;exact⟨P,L,G,A,T,M,h,w,g,Qj,cl,Qh,t,r,z,s,ms,rfl,X,nbrA e2,mm,f,q⟩
  | false=>
   rw[e2,QT Qt] at q;refine iteF ?_;symm;exact⟨P,L,G,A,T,M,h,w,g,Qj,cl,Qh,t,r,z,s,ms,rfl,X,regA e1 e2,f,q⟩
noncomputable def alwA (h w g:Int) (Qj:List RR) (cl Qh:List Int) (t:TK) (r z s:Int) (ms:List Int):Bool:=formB h w g Qj t r z s&&strA h w g Qj cl Qh t r z s ms
def ij(K:Frag)(c:RCl RK)(d:RCl PzK):Sp:=fun vs H Q _=>∃(P L G A T M:Addr) (h w g:Int) (Qj:List RR) (cl Qh:List Int) (t:TK) (r z s:Int) (ms:List Int),vs=[.ref P,.ref A,.ref T]/\Asks H c d P L G A T M h w g Qj cl Qh t r z s ms/\(∀ m∈Qh,0<=m/\m<64)/\∀ H',Same H H'->Q (.bl (alwA h w g Qj cl Qh t r z s ms)) H'
def nP(K:Frag)(c:RCl RK)(d:RCl PzK):TS:=
 (tRet (tAndV (tCall (gt K c d) [] E0 (tCons (tVar 0) (tCons (tVar 2) tNil))) (tCall (dE K c d) [] E0 (tCons (tVar 0) (tCons (tVar 1) (tCons (tVar 2) tNil))))))
theorem yq(h:ij K c d vs H Q E):nP K c d (eD9 Q) (start ["puzzle","masks","thought"] vs) H:=by
 obtain⟨P,L,G,A,T,M,h,w,g,Qj,cl,Qh,t,r,z,s,ms,rfl,X,mm,q⟩:=h;show nP K c d _ [some (.ref P),some (.ref A),some (.ref T)] H;unfold nP;symm;refine⟨t,P,L,G,T,M,h,w,g,r,z,s,Qj,cl,ms,rfl,X.P,X.T,fun H1 s1=>?_⟩;unfold alwA at q
 cases hb:formB h w g Qj t r z s with
 | false=>
  rw[hb,QJ] at q;exact⟨false,rfl,iteF (q _ s1)⟩
 | true=>
  rw[hb,QL] at q;refine⟨true,rfl,iteT ?_⟩;symm;exact⟨P,L,G,A,T,M,h,w,g,Qj,cl,Qh,t,r,z,s,ms,rfl,X.same s1,mm,hb,fun H' s2=>q H' (s1.trans s2)⟩
def tGT(K:Frag)(ws:List Str):TE:=fun _ H Q=>∀ q,SqT K H q (ws.map V.str)->Q (.ref q) H
section
variable{X:Cx}{pos:Pos}{x:Str}{ws:List Str}
theorem Ch(G:GTup X.K X.mg x ws)(hg:Gl X x)(hdb:(x==("__debug__":Str))=false:=by decide):PE X (.Name x pos) (tGT X.K ws):=by
 obtain⟨q,o,Qm,n,h1,h2⟩:=G.ex;intro Qi s σ H Q I h;exact cL (v:=V.ref q) hg h1 rfl hdb Qi s σ H Q I (h q (.inr ⟨o,Qm,n,h2⟩))
end
theorem Ed{K:Frag}{ws:List Str}{σ:St}{H:Hp}{Q:VK}:tGT K ws σ H Q=∀ q,SqT K H q (ws.map V.str)->Q (.ref q) H:=rfl
theorem Ee{K:Frag}{H:Hp}{Q:VK}{q:Addr}{i:Int}{xs:List V}{v:V}(hq:SqT K H q xs)(e:atI xs i=some v)(h:Q v H):rIxT K (.ref q) (.int i) H Q:=⟨q,xs,i,v,rfl,rfl,hq,e,h⟩
local macro_rules | `(tactic| walk_at "w")=>`(tactic| (first | simp only [aL,k8,nh,gk,k9,jh,ji,ni,nc,k7,ng,if_true,if_false,Bool.false_eq_true,decide_true,decide_false,gN,gO,lY,dZ,dg,gL,jq,gM,dX,jo,jp,dW,lV,d0,d2,d4,d5,d6,d7,d3,jr,js,jt,jm,lX,Bool.not_true,Bool.not_false,dJ,cp,bo,gI,w_c,iN,dG,e7,dL,e8,w_b,w_not,im,lj,fc,fe,io,gJ,dM,lm,ff,ip,gK,kf,iq,dN,fg,fh,fj,c9,da,cq,cr,cu,b8,iu,iw,iy,iz,iA,iB,iC,iD,iE,iF,iG,iH,lp,fk,cw,fm,lq,fq,db,cy,iI,iJ,ft,fu,fv,
 List.getElem?_cons_zero,List.getElem?_cons_succ,Option.some.injEq,exists_eq_left',exists_eq_left,List.set_cons_zero,List.set_cons_succ,ce,V.int.injEq,V.bl.injEq,V.ref.injEq,V.str.injEq,List.append_nil,List.nil_append,List.cons_append] | dsimp only | skip))
def stL(ms:List Int)(c s:Int):List Int:=(List.range ms.length).map fun(i:Nat)=>if (i:Int)=c then woI (ms.getD i 0) s else ms.getD i 0
def gD(K:Frag):Sp:=fun vs H Q _=>∃(p:Addr) (ms:List Int) (c s:Int),vs=[.ref p,.int c,.int s]/\H p=some (.lst (ms.map V.int))/\ms.length<=900/\s<=100000/\∀ l H',Same H H'->H l=none->H' l=some (.lst ((stL ms c s).map V.int))->Q (.ref l) H'
def qb(K:Frag):TS:=
 (tRet (tComp [none,none,none,some 1,some 2] (iEnum K (tCons (tVar 0) tNil)) (gTup K 2 (gCons (gName 1) (gCons (gName 2) gNil))) tTrue (tIf (tTest (tOp (cEq K) (tVar 1) (tVar 3))) (tCall (d8 K) [] E0 (tCons (tVar 2) (tCons (tVar 4) tNil))) (tVar 2))))
variable{K:Frag}{vs:List V}{H:Hp}{Q:VK}{E:XK}
theorem Bc(h:gD K vs H Q E):qb K (eD9 Q) (start ["masks","cell","sign"] vs) H:=by
 obtain⟨p,ms,c,s,rfl,hp,hn,hs,k⟩:=h;show qb K _ [some (.ref p),some (.int c),some (.int s)] H;unfold qb;symm;refine⟨p,rfl,⟨_,QI hp⟩,?_⟩;refine oy (xs:=ms.map V.int) (fun _=>true) (fun i=>.int (if (i:Int)=c then woI (ms.getD i 0) s else ms.getD i 0)) (by rw[Qu];exact hn) (by decide) (QI hp) ?_ ?_ ?_
 . intro i x H1 R hx s1 k1;exact k1 _ (Qy _)
 . intro i x H1 Q1 hx hb s1 k1;obtain⟨m,hm,rfl⟩:=aS hx;have q:=k1 _ (Qy H1);rw[fJ hm] at q;show tIf _ _ _ [none,some (.int i),some (.int m),some (.int c),some (.int s)] H1 Q1;symm;by_cases hc:(i:Int)=c
   . rw[Q6 hc] at q;rw[QA hc];exact iteT ⟨m,s,rfl,hs,q⟩
   . rw[QT hc] at q;rw[Qx hc];exact iteF q
 . intro l H1 hl s1 el;refine k l H1 s1 hl ?_;rw[el,bf,Qu];unfold stL;rw[Re];rfl
theorem rfmA{α β:Type}(d:α)(b:α->Bool)(f:α->β)(xs:List α):((List.range xs.length).filter fun i=>b (xs.getD i d)).map (fun i=>f (xs.getD i d))=(xs.filter b).map f:=by
 have e:xs=(List.range xs.length).map fun i=>xs.getD i d:=by
  refine Ts (by simp) fun i h1 h2=>?_;simp[List.getD,Qv h1]
 conv=>rhs;rw[e,SX,Re]
 rfl
def LLp(Q:VK)(H:Hp)(Qo:List (List Int)):Prop:=∀(l:Addr) (as:List Addr) (H':Hp),Same H H'->H l=none->(∀ a∈as,H a=none)->IsLL H' l as Qo->Q (.ref l) H'
variable{H1:Hp}{Qo:List (List Int)}
theorem LLp.of(q:LLp Q H Qo)(s:Same H H1):LLp Q H1 Qo:=fun l as H' s' hl ha x=>q l as H' (s.trans s') (s.free hl) (fun a h=>s.free (ha a h)) x
variable{a:Addr}{xs:List Int}
theorem qc {k:Nat} {σ0:St} {tt:TT} {te:TE} {fin:Addr->Hp->Prop} (b:Int->Bool) (f:Int->List Int) (hn:xs.length<=900) (hq:SqL K H1 a (xs.map V.int))
  (ht:∀ x H R,x∈xs->Same H1 H->(∀ H',Same H H'->R (b x) H')->tt (σ0.set k (some (.int x))) H R)
  (he:∀ x H Q,x∈xs->b x=true->Same H1 H->(∀ a H',Same H H'->H a=none->H' a=some (.lst ((f x).map V.int))->Q (.ref a) H')->te (σ0.set k (some (.int x))) H Q)
  (hd:LLp (fun v H=>∀ l,v=.ref l->fin l H) H1 ((xs.filter b).map f)):CompR (Itl K a) (gName k) tt te fin σ0 H1:=by
 refine oA (xs:=xs.map V.int) (fun i=>b (xs.getD i 0)) (fun i=>.lst ((f (xs.getD i 0)).map V.int)) (by rw[Qu];exact hn) hq ?_ ?_ ?_
 . intro i x H R hx s1 k1;obtain⟨y,hy,rfl⟩:=aS hx;rw[fJ hy] at k1;exact ht y H R (QC hy) s1 k1
 . intro i x H Q hx hb s1 k1;obtain⟨y,hy,rfl⟩:=aS hx;rw[fJ hy] at k1 hb;exact he y H Q (QC hy) hb s1 k1
 . intro l as H hl s1 el N;rw[Qu] at N
   have e:((List.range xs.length).filter fun i=>b (xs.getD i 0)).map (fun i=>HO.lst ((f (xs.getD i 0)).map V.int))=((xs.filter b).map f).map fun ys=>.lst (ys.map V.int):=by
    rw[rfmA 0 b (fun x=>HO.lst ((f x).map V.int)) xs,Re];rfl
   rw[e] at N;exact hd l as H s1 hl N.fr (N.ll el) l rfl
variable{x:Int}
theorem tU(q:∀ a H',Same H H'->H a=none->H' a=some (.lst (([x]:List Int).map V.int))->Q (.ref a) H'):([V.int x]:List V).length<=sizeLine/\∀ p,H p=none->Q (.ref p) (upd H p (.lst [V.int x])):=
 ⟨lnR rfl,fun p hp=>q p _ ((Qy H).laid hp) hp ah⟩
def srtI(xs:List Int):List Int:=xs.mergeSort (fun a b=>decide (a<=b))
theorem y4:∀{xs ys:List Int},xs.Perm ys->xs.Pairwise (· <=·)->ys.Pairwise (· <=·)->xs=ys
 | [],ys,p,_,_=>(List.nil_perm.mp p).symm ▸ rfl
 | x::r,[],p,_,_=>absurd p (by simp)
 | x::r,y::t,p,h1,h2=>by
  rw[Tc] at h1 h2
  have e:x=y:=by
   rcases QV.mp (p.mem_iff.mp QK) with e | m1
   . exact e
   . rcases QV.mp (p.mem_iff.mpr QK) with e | m2
     . exact e.symm
     . have a:=h2.1 x m1;have b:=h1.1 y m2;omega
  subst e;rw[y4 (List.Perm.cons_inv p) h1.2 h2.2]
variable{ns:List Int}
theorem Ef(p:ns.Perm xs)(h:ns.Pairwise (· <=·)):ns=srtI xs:=by
 refine y4 (p.trans (S3 xs _).symm) h ?_;have:=List.pairwise_mergeSort (le:=fun a b:Int=>decide (a<=b)) (fun a b c h1 h2=>by simp at h1 h2 ⊢;omega) (fun a b=>by simp;omega) xs;exact this.imp fun h=>QU h
theorem srt_mem:x∈srtI xs↔x∈xs:=(S3 xs _).mem_iff
theorem qL:(srtI xs).length=xs.length:=(S3 xs _).length_eq
variable{p:Addr}
theorem xy(hp:H p=some (.lst (ns.map V.int)))(hn:ns.length<64)(h:∀ l,H l=none->Q (.ref l) (upd H l (.lst ((srtI ns).map V.int)))):fI [.ref p] H Q:=
 BK hp hn fun ns' l hl pe pw=>by rw[Ef pe pw];exact h l hl
abbrev othA(cs:List Int)(z:Int):List Int:=cs.filter fun x=>!decide (x=z)
def onlM(cs Qh:List Int)(z s:Int):List (List Int):=((srtI (othA cs z)).filter fun o=>decide (woI (Qh.getD o.toNat 0) s=0)).map fun o=>[o]
def fD(K:Frag)(c:RCl RK):Sp:=fun vs H Q _=>∃(k:RK) (r p A:Addr) (ws:List (List Nat)) (cs Qh:List Int) (n m z s:Int),vs=[.ref r,.ref A,.int z,.int s]/\IsRule H c k r p ws cs n m/\aN cs Qh.length/\H A=some (.lst (Qh.map V.int))/\s<=1000/\LLp Q H (onlM cs Qh z s)
def lF(K:Frag)(c:RCl RK):TS:=
 (tRet (tComp [none,none,some 1,some 3] (iList K (tCB fI (tCons (tCall (aQ K c) [] E0 (tCons (tVar 0) (tCons (tVar 2) tNil))) tNil))) (gName 1) (tB (tCall (bd K) [] E0 (tCons (tOp cIx (tVar 2) (tVar 1)) (tCons (tVar 3) tNil)))) (tLst (tCons (tVar 1) tNil))))
variable{c:RCl RK}
theorem vQ(h:fD K c vs H Q E):lF K c (eD9 Q) (start ["rule","masks","cell","sign"] vs) H:=by
 obtain⟨k,r,p,A,ws,cs,Qh,n,m,z,s,rfl,x,hin,hA,hs,q⟩:=h;have ol:(othA cs z).length<=cs.length:=QE _ _;have hc:=hin.1;show lF K c _ [some (.ref r),some (.ref A),some (.int z),some (.int s)] H;unfold lF;symm;refine⟨k,r,p,ws,cs,n,m,z,rfl,x,hc,fun l H1 s1 hl el=>?_⟩;refine xy (ns:=othA cs z) el (by omega) fun l2 hl2=>?_;obtain⟨H2,z9,s2,e2⟩:=aY (.lst ((srtI (othA cs z)).map V.int)) hl2;rw[z9];have s12:=s1.trans s2;refine⟨l2,rfl,⟨_,QI e2⟩,?_⟩;refine qc (xs:=srtI (othA cs z)) (fun o=>decide (woI (Qh.getD o.toNat 0) s=0)) (fun o=>[o]) (by rw[qL];omega) (QI e2) ?_ ?_ ?_
 . intro y H3 R hy s3 k3;have yi:=hin.2 y (QW.mp (srt_mem.mp hy)).1;show tB _ [none,some (.int y),some (.ref A),some (.int s)] H3 R;symm;refine ixI ((s12.trans s3) _ _ hA) yi.1 (by omega) ?_;symm;exact⟨_,s,rfl,by omega,_,rfl,k3 _ (Qy _)⟩
 . intro y H3 Q3 hy hb s3 k3;show tLst _ [none,some (.int y),some (.ref A),some (.int s)] H3 Q3;symm;exact tU k3
 . exact fun l as H' s' hl ha xx l' e=>by cases e;exact q l as H' (s12.trans s') (s12.free hl) (fun a h=>s12.free (ha a h)) xx
def plaM(g s:Int):List (List Int):=((rngL 1 (g+1)).filter fun o=>!decide (o=s)).map fun o=>[o]
def dQ(K:Frag):Sp:=fun vs H Q _=>∃(p:Addr) (h w g s:Int),vs=[.ref p,.int s]/\IsFl H p h w g/\1<=g/\g<=6/\LLp Q H (plaM g s)
def kr(K:Frag):TS:=
 (tRet (tComp [none,none,some 1] (qy (tCons (tC (.int 1)) (tCons (tOp cAdd (tOp cIx (tVar 0) (tC (.int 2))) (tC (.int 1))) tNil))) (gName 1) (tTest (tOp (cNe K) (tVar 1) (tVar 2))) (tLst (tCons (tVar 1) tNil))))
theorem uR(h:dQ K vs H Q E):kr K (eD9 Q) (start ["floor","sign"] vs) H:=by
 obtain⟨p,h,w,g,s,rfl,hp,g0,g1,q⟩:=h;show kr K _ [some (.ref p),some (.int s)] H;unfold kr;symm;refine ixT hp (v:=V.int g) rfl ?_;symm;refine⟨1,g+1,rfl,⟨by omega,by omega,by omega,by omega⟩,?_⟩;refine rg (fun i=>!decide (1+(i:Int)=s)) (fun i=>.lst (([1+(i:Int)]:List Int).map V.int)) (by omega) ?_ ?_ ?_
 . intro i H2 R hi s2 k2;show tTest _ [none,some (.int (1+(i:Int))),some (.int s)] H2 R;symm;exact k2 _ (Qy _)
 . intro i H2 Q2 hi _ s2 k2;show tLst _ [none,some (.int (1+(i:Int))),some (.int s)] H2 Q2;symm;exact tU k2
 . intro l as H2 hl s2 el N
   have e:((List.range (g+1-1).toNat).filter fun(i:Nat)=>!decide (1+(i:Int)=s)).map (fun(i:Nat)=>HO.lst (([1+(i:Int)]:List Int).map V.int))=(plaM g s).map fun ys=>.lst (ys.map V.int):=by
    unfold plaM rngL;rw[SX,Re,Re];rfl
   rw[e] at N;exact q l as H2 s2 hl N.fr (N.ll el)
def squM(h w z:Int):List (List Int):=((squL h w).filter fun q=>decide (z∈q)).map fun q=>[q.getD 0 0]
def dr(K:Frag):Sp:=fun vs H Q _=>∃(p:Addr) (h w g z:Int),vs=[.ref p,.int z]/\IsFl H p h w g/\FlOk h w g/\LLp Q H (squM h w z)
def jS(K:Frag):TS:=
 (tRet (tComp [none,none,some 1] (iList K (tCall (cH K) [] E0 (tCons (tVar 0) tNil))) (gName 1) (tTest (tOp (cIn K false) (tVar 2) (tVar 1))) (tLst (tCons (tOp cIx (tVar 1) (tC (.int 0))) tNil))))
variable{h w g:Int}
theorem B4(F:FlOk h w g):(squL h w).length<=16:=by
 have:=F.m;unfold squL;rw[Qu];refine QG (QE _ _) ?_;rw[RH];omega
theorem tV(h:dr K vs H Q E):jS K (eD9 Q) (start ["floor","cell"] vs) H:=by
 obtain⟨p,h,w,g,z,rfl,hp,F,q⟩:=h;have sl:=B4 F;show jS K _ [some (.ref p),some (.int z)] H;unfold jS;symm;refine⟨p,h,w,g,rfl,hp,F,fun l as H1 s1 hl X nd nl fr=>?_⟩;have al:=X.len;refine⟨l,rfl,⟨_,QI X.top⟩,?_⟩;refine oA (xs:=as.map V.ref) (fun i=>decide (z∈(squL h w).getD i [])) (fun i=>.lst (([((squL h w).getD i []).getD 0 0]:List Int).map V.int)) (by rw[Qu];omega) (QI X.top) ?_ ?_ ?_
 . intro i x H2 R hx s2 k2;obtain⟨b,hb,rfl⟩:=bA hx;have hi:i<as.length:=(Qz.mp hb).1;have e:(squL h w)[i]? =some (squL h w)[i]:=Qv (by omega);have eb:=s2 _ _ (X.at_ i b _ hb e);have eg:(squL h w).getD i []=(squL h w)[i]:=by rw[List.getD,e];rfl
   rw[eg] at k2;show tTest _ [none,some (.ref b),some (.int z)] H2 R;symm;rw[mf eb];exact⟨_,rfl,k2 _ (Qy _)⟩
 . intro i x H2 Q2 hx hb2 s2 k2;obtain⟨b,hb,rfl⟩:=bA hx;have hi:i<as.length:=(Qz.mp hb).1;have e:(squL h w)[i]? =some (squL h w)[i]:=Qv (by omega);have eb:=s2 _ _ (X.at_ i b _ hb e);have eg:(squL h w).getD i []=(squL h w)[i]:=by rw[List.getD,e];rfl
   rw[eg] at k2;obtain⟨j,_,_,ej⟩:=uM (QX (show i < (squL h w).length by omega));rw[ej] at eb k2;show tLst _ [none,some (.ref b),some (.int z)] H2 Q2;symm;refine ixI eb (by decide) (by show(0:Int)<4;decide) ?_;exact tU k2
 . intro T bs H2 hT s2 eT N;rw[Qu,al,rfmA [] (fun q=>decide (z∈q)) (fun q=>HO.lst (([q.getD 0 0]:List Int).map V.int)) (squL h w)] at N;have e:((squL h w).filter fun q=>decide (z∈q)).map (fun q=>HO.lst (([q.getD 0 0]:List Int).map V.int))=(squM h w z).map fun ys=>.lst (ys.map V.int):=by unfold squM;rw[Re];rfl
   rw[e] at N;exact q T bs H2 (s1.trans s2) (s1.free hT) (fun a h=>s1.free (N.fr a h)) (N.ll eT)
def turM(h w z:Int):List (List Int):=[]::(besL h w z).map fun o=>[o]
def fE(K:Frag):Sp:=fun vs H Q _=>∃(p:Addr) (h w g z:Int),vs=[.ref p,.int z]/\IsFl H p h w g/\FlOk h w g/\LLp Q H (turM h w z)
def lG(K:Frag):TS:=
 (tRet (tOp cAdd (tLst (tCons (tLst tNil) tNil)) (tComp [none,none] (iList K (tCall (bH K) [] E0 (tCons (tVar 0) (tCons (tVar 1) tNil)))) (gName 1) tTrue (tLst (tCons (tVar 1) tNil)))))
theorem vR(h:fE K vs H Q E):lG K (eD9 Q) (start ["floor","cell"] vs) H:=by
 obtain⟨p,h,w,g,z,rfl,hp,F,q⟩:=h;have w0:=F.w0;have w1:=F.w1;have bl:=rB h w z;show lG K _ [some (.ref p),some (.int z)] H;unfold lG;symm;refine⟨aT (by decide),fun E0' hE=>?_⟩;obtain⟨H1,z9,s1,e1⟩:∃ z,upd H E0' (.lst [])=z/\Same H z/\z E0'=some (.lst (([]:List Int).map V.int)):=aY _ hE;rw[z9];refine⟨lnR rfl,fun Z hZ=>?_⟩;obtain⟨H2,z9,s2,e2⟩:=aY (.lst [V.ref E0']) hZ;rw[z9];have s12:=s1.trans s2;refine⟨p,h,w,g,z,rfl,s12 _ _ hp,by omega,by omega,fun l H3 s3 hl el=>?_⟩;refine⟨l,rfl,⟨_,QI el⟩,?_⟩;refine qc (xs:=besL h w z) (fun _=>true) (fun o=>[o]) (by omega) (QI el) ?_ ?_ ?_
 . intro y H4 R hy s4 k4;exact k4 _ (Qy _)
 . intro y H4 Q4 hy hb s4 k4;show tLst _ [none,some (.int y)] H4 Q4;symm;exact tU k4
 . intro T as H4 s4 hT ha X T' e;cases e;have s13:=s12.trans s3;have s34:=s3.trans s4;have s14:=s13.trans s4;have X':IsLL H4 T as ((besL h w z).map fun o=>[o]):=by rw[bf] at X;exact X
   have al:=X'.len;rw[Qu] at al;symm;refine pR (s34 _ _ e2) X'.top (by simp;omega) fun R hR=>?_;have s5:Same H4 (upd H4 R (.lst ([V.ref E0']++as.map V.ref))):=(Qy H4).laid hR;refine q R (E0'::as) _ (s14.trans s5) (s14.free hR) (fun a h=>?_) ⟨ah,?_,fun j a xs h1 h2=>?_⟩
   . rcases QV.mp h with rfl | h
     . exact hE
     . exact s13.free (ha a h)
   . unfold turM;simp[al]
   . cases j with
     | zero=>cases h1;cases h2;exact s5 _ _ (s34 _ _ (s2 _ _ e1))
     | succ j=>exact s5 _ _ (X'.at_ j a xs h1 h2)
def sureA(cs Qh:List Int)(m z:Int):List Int:=(othA cs z).filter fun o=>decide (woI (Qh.getD o.toNat 0) m=0)
noncomputable def reaM (h w:Int) (cs:List Int) (m:Int) (Qh:List Int) (z s:Int):List (List Int):=
 if s=m then((sureA cs Qh m z).filter fun o=>!rcB h w (thrL cs Qh m z++[z]) z o).map fun o=>[o]
 else((sureA cs Qh m z).filter fun o=>!rcB h w (thrL cs Qh m z) ((sureA cs Qh m z).getD 0 0) o).map fun o=>[(sureA cs Qh m z).getD 0 0,o]
def dR(K:Frag)(c:RCl RK):Sp:=fun vs H Q _=>∃(k:RK) (f r p A:Addr) (ws:List (List Nat)) (cs Qh:List Int) (n m z s h w g:Int),vs=[.ref f,.ref r,.ref A,.int z,.int s]/\IsFl H f h w g/\FlOk h w g/\IsRule H c k r p ws cs n m/\aN cs Qh.length/\cs.length<=60/\H A=some (.lst (Qh.map V.int))/\m<=1000/\LLp Q H (reaM h w cs m Qh z s)
def g7(K:Frag)(c:RCl RK):TS:=
 (tRet (tComp [none,none,some 8,some 6] (iList K (tVar 6)) (gName 1) (tTest (tOp (cIn K true) (tVar 1) (tVar 2))) (tLst (tCons (tOp cIx (tVar 3) (tC (.int 0))) (tCons (tVar 1) tNil)))))
def lS(K:Frag)(c:RCl RK):TS:=
 (tSeq (tAsg (tIf (tTest (tOp (cNe K) (tVar 6) (tLst tNil))) (tCall (b4 K) [] E0 (tCons (tVar 0) (tCons (tVar 7) (tCons (tOp cIx (tVar 6) (tC (.int 0))) tNil)))) (tLst tNil)) (gName 8))
  (g7 K c))
def g8(K:Frag)(c:RCl RK):TS:=
 (tSeq (tIfS (tTest (tOp (cEq K) (tVar 4) (tVar 5))) (tSeq (tAsg (tCall (b4 K) [] E0 (tCons (tVar 0) (tCons (tOp cAdd (tVar 7) (tLst (tCons (tVar 3) tNil))) (tCons (tVar 3) tNil)))) (gName 8))
  (tRet (tComp [none,none,some 8] (iList K (tVar 6)) (gName 1) (tTest (tOp (cIn K true) (tVar 1) (tVar 2))) (tLst (tCons (tVar 1) tNil))))) tNext)
  (lS K c))
def kt(K:Frag)(c:RCl RK):TS:=
 (tSeq (tAsg (aI c c.ok "sign" (cO K c) (tVar 1) tNil) (gName 5))
  (tSeq (tAsg (tComp [none,none,some 5,some 2] (iList K (tCall (aQ K c) [] E0 (tCons (tVar 1) (tCons (tVar 3) tNil)))) (gName 1) (tB (tCall (bd K) [] E0 (tCons (tOp cIx (tVar 3) (tVar 1)) (tCons (tVar 2) tNil)))) (tVar 1)) (gName 6))
  (tSeq (sComp 7 [none,none,some 5,some 2] (iList K (tCall (aQ K c) [] E0 (tCons (tVar 1) (tCons (tVar 3) tNil)))) (gName 1) (tB (tCall (bT K) [] E0 (tCons (tOp cIx (tVar 3) (tVar 1)) (tCons (tVar 2) tNil)))) (tVar 1))
  (g8 K c))))
theorem ninA{cs rs:List Int}{st o:Int}(ep:H p=some (.lst (rs.map V.int)))(hx:∀ x,x∈rs↔RC h w cs st x)(q:Q (.bl (!rcB h w cs st o)) H):cIn K true (.int o) (.ref p) H Q:=by
 rw[m6 ep,xp (hx o)];exact q
theorem Ci{y:Int}(q:∀ a H',Same H H'->H a=none->H' a=some (.lst (([x,y]:List Int).map V.int))->Q (.ref a) H'):([V.int x,V.int y]:List V).length<=sizeLine/\∀ p,H p=none->Q (.ref p) (upd H p (.lst [V.int x,V.int y])):=
 ⟨lnR rfl,fun p hp=>q p _ ((Qy H).laid hp) hp ah⟩
theorem LLp.fin(q:LLp Q H Qo)(s:Same H H1):LLp (fun v H'=>∀ l,v=.ref l->Q (.ref l) H') H1 Qo:=fun l as H' s' hl ha xx l' e=>by cases e;exact q l as H' (s.trans s') (s.free hl) (fun a h=>s.free (ha a h)) xx
variable{T:Addr}{z s m:Int}{v1 v2:Option V}
theorem qU {f S:Addr} {Qn thr:List Int} (hf:IsFl H f h w g) (F:FlOk h w g) (eS:H S=some (.lst (Qn.map V.int))) (eT:H T=some (.lst (thr.map V.int))) (sn:Qn.length<=60) (tn:thr.length<=60)
  (q:LLp Q H (if s=m then(Qn.filter fun o=>!rcB h w (thr++[z]) z o).map fun o=>[o] else(Qn.filter fun o=>!rcB h w thr (Qn.getD 0 0) o).map fun o=>[Qn.getD 0 0,o])):
  g8 K c (eD9 Q) [some (.ref f),v1,v2,some (.int z),some (.int s),some (.int m),some (.ref S),some (.ref T),none] H:=by
 have w0:=F.w0;have w1:=F.w1;unfold g8;rw[aL,aA];symm;by_cases e:s=m
 . rw[Q6 e] at q;rw[QA e];symm;refine⟨lnR rfl,fun l hl=>?_⟩;obtain⟨H1,z9,s1,el⟩:=aY (.lst [V.int z]) hl;rw[z9];refine pR (s1 _ _ eT) el (by simp;omega) fun Y hY=>?_;have s2:Same H1 (upd H1 Y (.lst (thr.map V.int++[V.int z]))):=(Qy H1).laid hY;have eY:(upd H1 Y (.lst (thr.map V.int++[V.int z]))) Y=some (.lst ((thr++[z]).map V.int)):=by rw[ah];simp
   generalize upd H1 Y (.lst (thr.map V.int++[V.int z]))=H2 at*;have s12:=s1.trans s2;symm;refine⟨f,Y,h,w,g,z,_,rfl,s12 _ _ hf,by omega,by omega,eY,by simp;omega,fun p H3 rs s3 hp ep _ hx=>?_⟩;have s13:=s12.trans s3;symm;have eS3:=s13 _ _ eS;refine⟨⟨_,QI eS3⟩,?_⟩;refine qc (xs:=Qn) (fun o=>!rcB h w (thr++[z]) z o) (fun o=>[o]) (by omega) (QI eS3) ?_ ?_ (q.fin s13)
   . intro y H4 R hy s4 k4;show tTest _ [none,some (.int y),some (.ref p)] H4 R;symm;exact ninA (s4 _ _ ep) hx ⟨_,rfl,k4 _ (Qy _)⟩
   . intro y H4 Q4 hy hb s4 k4;show tLst _ [none,some (.int y),some (.ref p)] H4 Q4;symm;exact tU k4
 . rw[QT e] at q;rw[Qx e];symm;unfold lS
   have fin:∀(p:Addr) (rs:List Int) (H3:Hp),Same H H3->H3 p=some (.lst (rs.map V.int))->(Qn≠[]->∀ x,x∈rs↔RC h w thr (Qn.getD 0 0) x)->g7 K c (eD9 Q) [some (.ref f),v1,v2,some (.int z),some (.int s),some (.int m),some (.ref S),some (.ref T),some (.ref p)] H3:=fun p rs H3 s3 ep hx=>by
    have eS3:=s3 _ _ eS;unfold g7;symm;refine⟨⟨_,QI eS3⟩,?_⟩;refine qc (xs:=Qn) (fun o=>!rcB h w thr (Qn.getD 0 0) o) (fun o=>[Qn.getD 0 0,o]) (by omega) (QI eS3) ?_ ?_ (q.fin s3)
    . intro y H4 R hy s4 k4;show tTest _ [none,some (.int y),some (.ref p),some (.ref S)] H4 R;symm;exact ninA (s4 _ _ ep) (hx (List.ne_nil_of_mem hy)) ⟨_,rfl,k4 _ (Qy _)⟩
    . intro y H4 Q4 hy hb s4 k4;have:0<Qn.length:=TC hy;show tLst _ [none,some (.int y),some (.ref p),some (.ref S)] H4 Q4;symm;refine ixI (s4 _ _ eS3) (by decide) (by omega) ?_;exact Ci k4
   symm;refine⟨aT (by decide),fun O hO=>?_⟩;obtain⟨H1,z9,s1,eO⟩:∃ z,upd H O (.lst [])=z/\Same H z/\z O=some (.lst (([]:List Int).map V.int)):=aY _ hO;rw[z9];refine ox (s1 _ _ eS) eO ?_;by_cases c1:Qn=[]
   . rw[QA c1];refine⟨_,rfl,iteF ?_⟩;refine⟨aT (by decide),fun O2 hO2=>?_⟩;exact fin O2 [] _ (s1.trans ((Qy H1).laid hO2)) ah fun h=>absurd c1 h
   . rw[Qx c1];have:0<Qn.length:=List.length_pos_iff.mpr c1;refine⟨_,rfl,iteT ?_⟩;refine ixI (s1 _ _ eS) (by decide) (by omega) ?_;rw[show(0:Int).toNat=0 from rfl];refine⟨f,T,h,w,g,_,_,rfl,s1 _ _ hf,by omega,by omega,s1 _ _ eT,by omega,fun p H3 rs s3 hp ep _ hx=>?_⟩;exact fin p rs H3 (s1.trans s3) ep fun _=>hx
theorem uS(h:dR K c vs H Q E):kt K c (eD9 Q) (start ["floor","rule","masks","cell","sign","mark","sure","through","joined"] vs) H:=by
 obtain⟨k,f,r,p,A,ws,cs,Qh,n,m,z,s,h,w,g,rfl,hf,F,x,hin,hcs,hA,hm,q⟩:=h;obtain⟨dx,W,C,h1,h2,h3⟩:=x.ex;have ol:(othA cs z).length<=cs.length:=QE _ _;show kt K c _ [some (.ref f),some (.ref r),some (.ref A),some (.int z),some (.int s),none,none,none,none] H;unfold kt;rw[aL,cp];refine methE (k:=k) rfl x.ok h1 (by rfl) ?_;symm;refine⟨r,p,ws,cs,n,m,rfl,x,?_⟩;symm;refine⟨k,r,p,ws,cs,n,m,z,rfl,x,hin.1,fun O H1 s1 hO eO=>?_⟩;refine⟨O,rfl,⟨_,QI eO⟩,?_⟩;refine bu (xs:=othA cs z) (fun o=>decide (woI (Qh.getD o.toNat 0) m=0)) (fun o=>o) (by omega) (QI eO) ?_ ?_ ?_
 . intro y H2 R hy s2 k2;have yi:=hin.2 y (QW.mp hy).1;show tB _ [none,some (.int y),some (.int m),some (.ref A)] H2 R;symm;refine ixI ((s1.trans s2) _ _ hA) yi.1 yi.2 ?_;symm;exact⟨_,m,rfl,by omega,_,rfl,k2 _ (Qy _)⟩
 . intro y H2 Q2 hy hb s2 k2;show tVar 1 [none,some (.int y),some (.int m),some (.ref A)] H2 Q2;symm;exact k2 _ (Qy _)
 . intro S H2 hS s2 eS;rw[RT] at eS;have s12:=s1.trans s2;have x2:=x.same s12;symm;refine⟨k,r,p,ws,cs,n,m,z,rfl,x2,hin.1,fun O2 H3 s3 hO2 eO2=>?_⟩;have s13:=s12.trans s3;refine⟨O2,rfl,⟨_,QI eO2⟩,?_⟩;refine bu (xs:=othA cs z) (fun o=>stB (Qh.getD o.toNat 0) m) (fun o=>o) (by omega) (QI eO2) ?_ ?_ ?_
   . intro y H4 R hy s4 k4;have yi:=hin.2 y (QW.mp hy).1;show tB _ [none,some (.int y),some (.int m),some (.ref A)] H4 R;symm;refine ixI ((s13.trans s4) _ _ hA) yi.1 yi.2 ?_;symm;exact⟨_,m,rfl,_,rfl,k4 _ (Qy _)⟩
   . intro y H4 Q4 hy hb s4 k4;show tVar 1 [none,some (.int y),some (.int m),some (.ref A)] H4 Q4;symm;exact k4 _ (Qy _)
   . intro T H4 hT s4 eT;rw[RT] at eT;have s14:=s13.trans s4;have l1:=QE (fun o=>decide (woI (Qh.getD o.toNat 0) m=0)) (othA cs z);have l2:=QE (fun o=>stB (Qh.getD o.toNat 0) m) (othA cs z);exact qU (s14 _ _ hf) F ((s3.trans s4) _ _ eS) eT (by omega) (by omega) (q.of s14)
def fewA(cs Qh:List Int)(z:Int):List Int:=(srtI (othA cs z)).filter fun o=>decide (((sgL (Qh.getD o.toNat 0)).length:Int)<=2)
def paiR(cs few:List Int)(a:Int):List (List Int):=(few.filter fun b=>decide (((cs.findIdx (· ==a):Nat):Int) < ((cs.findIdx (· ==b):Nat):Int))).map fun b=>[a,b]
def paiM(cs Qh:List Int)(z:Int):List (List Int):=(fewA cs Qh z).flatMap (paiR cs (fewA cs Qh z))
def fF(K:Frag)(c:RCl RK):Sp:=fun vs H Q _=>∃(k:RK) (r p A:Addr) (ws:List (List Nat)) (cs Qh:List Int) (n m z:Int),vs=[.ref r,.ref A,.int z]/\IsRule H c k r p ws cs n m/\aN cs Qh.length/\cs.length<=16/\H A=some (.lst (Qh.map V.int))/\(∀ m∈Qh,0<=m/\m<64)/\LLp Q H (paiM cs Qh z)
def i3(K:Frag)(c:RCl RK):TS:=
 (tSeq (tAsg (tLst tNil) (gName 5))
  (tSeq (tFor (iList K (tVar 4)) (gName 6)
  (tDrop (tBM K "list" l8 (tVar 5) (tCons (tComp [none,none,some 6,some 3] (iList K (tVar 4)) (gName 1) (tTest (tOp (cCmp fun i j=>decide (i<j)) (tBM K "list" (jl K) (tVar 3) (tCons (tVar 2) tNil)) (tBM K "list" (jl K) (tVar 3) (tCons (tVar 1) tNil)))) (tLst (tCons (tVar 2) (tCons (tVar 1) tNil)))) tNil))))
  (tRet (tVar 5))))
def lH(K:Frag)(c:RCl RK):TS:=
 (tSeq (tAsg (aI c c.ok "spots" (bF K c) (tVar 0) tNil) (gName 3))
  (tSeq (sComp 4 [none,none,some 1] (iList K (tCB fI (tCons (tCall (aQ K c) [] E0 (tCons (tVar 0) (tCons (tVar 2) tNil))) tNil))) (gName 1) (tTest (tOp (cCmp fun i j=>decide (i<=j)) (tCB kLen (tCons (tCall (aP K) [] E0 (tCons (tOp cIx (tVar 2) (tVar 1)) tNil)) tNil)) (tC (.int 2)))) (tVar 1))
  (i3 K c)))
theorem bitsA(m0:0<=m)(m1:m<64):Builtin.Int.intBits m<=900:=by
 have t:=QU (QO.mp xw m.toNat (QQ.mpr (by omega)));rw[show((m.toNat:Nat):Int)=m by omega] at t;omega
theorem xz{cs few:List Int}{a:Int}:(paiR cs few a).length<=few.length:=by
 unfold paiR;rw[Qu];exact QE _ _
theorem xA{cs few:List Int}:∀ xs:List Int,(xs.flatMap (paiR cs few)).length<=xs.length*few.length
 | []=>by simp
 | x::r=>by
  have ih:=xA (cs:=cs) (few:=few) r;have:=xz (cs:=cs) (few:=few) (a:=x);rw[List.flatMap_cons,Q8,Rj,Nat.add_mul];omega
variable{v0:Option V}
theorem rQ{S W:Addr}{cs few:List Int}(eS:H S=some (.lst (cs.map V.int)))(eW:H W=some (.lst (few.map V.int)))(cn:cs.length<=16)(fn:few.length<=16)(fi:∀ o∈few,o∈cs)(q:LLp Q H (few.flatMap (paiR cs few))):
  i3 K c (eD9 Q) [v0,v1,v2,some (.ref S),some (.ref W),none,none] H:=by
 unfold i3;symm;refine⟨aT (by decide),fun F hF=>?_⟩;obtain⟨H1,z9,s1,e1⟩:∃ z,upd H F (.lst [])=z/\Same H z/\z F=some (.lst (([]:List Addr).map V.ref)):=aY _ hF;rw[z9];refine⟨⟨_,QI (s1 _ _ eW)⟩,?_⟩;refine bx (K:=K) (xs:=few.map V.int) (fun i σ H'=>∃(v6:Option V) (as:List Addr),σ=[v0,v1,v2,some (.ref S),some (.ref W),some (.ref F),v6]/\Same H H'/\IsLL H' F as ((few.take i).flatMap (paiR cs few))/\(∀ a∈as,H a=none)/\F∉as) ⟨none,[],rfl,s1,⟨e1,rfl,fun j a xs e _=>by simp at e⟩,(fun a ha=>by cases ha),by simp⟩ (fun i σ H' _ ⟨_,_,_,s,_⟩=>QI (s _ _ eW)) ?_ ?_
 . rintro i v σ H2 hv ⟨v6,as,rfl,s2,X,fr,nF⟩;obtain⟨a,ha,rfl⟩:=aS hv;have am:=QC ha;have hi:i<few.length:=(Qz.mp ha).1;have al:=X.len;have fl:=xA (cs:=cs) (few:=few) (few.take i);rw[RE] at fl;have fl2:min i few.length*few.length<=16*16:=TW (by omega) fn;symm;refine⟨bj X.top,⟨_,QI (s2 _ _ eW)⟩,?_⟩;refine qc (xs:=few) (fun b=>decide (((cs.findIdx (· ==a):Nat):Int) < ((cs.findIdx (· ==b):Nat):Int))) (fun b=>[a,b]) (by omega) (QI (s2 _ _ eW)) ?_ ?_ ?_
   . intro y H3 R hy s3 k3;have eS3:=(s2.trans s3) _ _ eS;show tTest _ [none,some (.int y),some (.int a),some (.ref S)] H3 R;symm;refine⟨bj eS3,?_⟩;refine kj eS3 (fi a am) (by omega) ?_;symm;refine⟨bj eS3,?_⟩;refine kj eS3 (fi y hy) (by omega) ?_;symm;exact k3 _ (Qy _)
   . intro y H3 Q3 hy hb s3 k3;show tLst _ [none,some (.int y),some (.int a),some (.ref S)] H3 Q3;symm;exact Ci k3
   . intro T bs H3 s3 hT hb Y T' e;cases e;have pl:=xz (cs:=cs) (few:=few) (a:=a);have bl:=Y.len;have Yl:bs.length<=16:=by rw[bl];exact QG pl fn
     refine BP (s3 _ _ X.top) Y.top (by rw[Qu,Qu,al];omega) ?_;have nb:∀ b∈bs,b≠F:=fun b hb' e=>by have:=hb b hb';rw[e,X.top] at this;cases this
     refine⟨_,as++bs,rfl,(s2.trans s3).own hF,⟨by rw[ah,TQ],?_,fun j b xs h1 h2=>?_⟩,fun b hb'=>?_,fun hm=>?_⟩
     . rw[RI,ha,S2,Q8,Q8,al,bl];simp[paiR]
     . rw[RI,ha,S2] at h2;have e2:(some a).toList.flatMap (paiR cs few)=paiR cs few a:=by simp
       rw[e2] at h2;by_cases hj:j<as.length
       . rw[Rh hj] at h1;rw[Rh (by omega)] at h2;have nj:b≠F:=fun e=>nF (by rw[← e];exact QC h1);rw[ao nj];exact s3 _ _ (X.at_ j b xs h1 h2)
       . rw[Rs (by omega)] at h1;rw[Rs (by omega),← al] at h2;rw[ao (nb b (QC h1))];exact Y.at_ _ b xs h1 h2
     . rcases QZ.mp hb' with h | h
       . exact fr b h
       . exact s2.free (hb b h)
     . rcases QZ.mp hm with h | h
       . exact nF h
       . exact nb _ h rfl
 . rintro σ H2 ⟨v6,as,rfl,s2,X,fr,nF⟩;rw[Qu,RB] at X;symm;exact q F as H2 s2 hF fr X
theorem vS(h:fF K c vs H Q E):lH K c (eD9 Q) (start ["rule","masks","cell","spots","few","found","first"] vs) H:=by
 obtain⟨k,r,p,A,ws,cs,Qh,n,m,z,rfl,x,hin,hc,hA,mm,q⟩:=h;obtain⟨dx,Wd,C,h1,h2,h3⟩:=x.ex;have ol:(othA cs z).length<=cs.length:=QE _ _;show lH K c _ [some (.ref r),some (.ref A),some (.int z),none,none,none,none] H;unfold lH;symm;refine methE (k:=k) rfl x.ok h1 (by rfl) ?_;symm;refine⟨r,p,ws,cs,n,m,rfl,x,fun S hS=>?_⟩;obtain⟨H1,z9,s1,eS⟩:=aY (.lst (cs.map V.int)) hS;rw[z9];symm;refine⟨k,r,p,ws,cs,n,m,z,rfl,x.same s1,hin.1,fun l H2 s2 hl el=>?_⟩;refine xy (ns:=othA cs z) el (by omega) fun l2 hl2=>?_;obtain⟨H3,z9,s3,e3⟩:=aY (.lst ((srtI (othA cs z)).map V.int)) hl2;rw[z9];have s13:=(s1.trans s2).trans s3;refine⟨l2,rfl,⟨_,QI e3⟩,?_⟩;refine bu (xs:=srtI (othA cs z)) (fun o=>decide (((sgL (Qh.getD o.toNat 0)).length:Int)<=2)) (fun o=>o) (by rw[qL];omega) (QI e3) ?_ ?_ ?_
 . intro y H4 R hy s4 k4;have yi:=hin.2 y (QW.mp (srt_mem.mp hy)).1;have ym:Qh.getD y.toNat 0∈Qh:=by rw[List.getD,Qv (by omega)];exact QX _
   show tTest _ [none,some (.int y),some (.ref A)] H4 R;symm;refine ixI ((s13.trans s4) _ _ hA) yi.1 yi.2 ?_;symm;refine⟨_,rfl,bitsA (mm _ ym).1 (mm _ ym).2,fun U H5 s5 hU eU=>?_⟩;symm;rw[bt eU,Qu];symm;exact k4 _ s5
 . intro y H4 Q4 hy hb s4 k4;show tVar 1 [none,some (.int y),some (.ref A)] H4 Q4;symm;exact k4 _ (Qy _)
 . intro W H4 hW s4 eW;rw[RT] at eW;have s34:=(s2.trans s3).trans s4;have l1:=QE (fun o=>decide (((sgL (Qh.getD o.toNat 0)).length:Int)<=2)) (srtI (othA cs z));rw[qL] at l1;exact rQ (few:=fewA cs Qh z) (s34 _ _ eS) eW hc (by unfold fewA;omega) (fun o ho=>(QW.mp (srt_mem.mp (QW.mp ho).1)).1) (q.of (s1.trans s34))
structure Tho where
 t:TK
 r:Int
 z:Int
 s:Int
 ms:List Int
noncomputable def mtF (h w g:Int) (Qj:List RR) (Qh:List Int) (t:TK) (r z s:Int):List (List Int):=
 if t=.place then plaM g s else if t=.square then squM h w z else if t=.turn then turM h w z else match Qj[r.toNat]? with
  | none=>[[]]
  | some x=>if t=.only then onlM x.cs Qh z s else if t=.reach then reaM h w x.cs x.m Qh z s else if t=.pair then paiM x.cs Qh z else [[]]
structure Lk(H:Hp)(c:RCl RK)(d:RCl PzK)(P L G A:Addr)(h w g:Int)(Qj:List RR)(cl Qh:List Int):Prop where
 P:IsPz H c d P L G h w g Qj cl
 A:H A=some (.lst (Qh.map V.int))
 n:Qh.length=(h*w).toNat
 mm:∀ m∈Qh,0<=m/\m<2^g.toNat
variable{H':Hp}{d:RCl PzK}{P L G A:Addr}{Qj:List RR}{cl Qh:List Int}
theorem Lk.same(x:Lk H c d P L G A h w g Qj cl Qh)(s:Same H H'):Lk H' c d P L G A h w g Qj cl Qh:=⟨x.P.same s,s _ _ x.A,x.n,x.mm⟩
theorem l0(g0:1<=g)(g6:g<=6):(2:Int)^g.toNat<=64:=by
 have e:g=1\/g=2\/g=3\/g=4\/g=5\/g=6:=by omega
 rcases e with rfl | rfl | rfl | rfl | rfl | rfl <;> decide
theorem Lk.m64(x:Lk H c d P L G A h w g Qj cl Qh):∀ m∈Qh,0<=m/\m<64:=fun m hm=>by
 have:=l0 x.P.R.F.g0 x.P.R.F.g1;have:=x.mm m hm;omega
def dt(K:Frag)(c:RCl RK)(d:RCl PzK):Sp:=fun vs H Q _=>∃(P L G A:Addr) (h w g:Int) (Qj:List RR) (cl Qh:List Int) (t:TK) (r z s:Int),vs=[.ref P,.ref A,.str (tx (tkC t)),.int r,.int z,.int s]/\Lk H c d P L G A h w g Qj cl Qh/\formB h w g Qj t r z s=true/\LLp Q H (mtF h w g Qj Qh t r z s)
def gE(K:Frag)(c:RCl RK)(d:RCl PzK):TS:=
 (tSeq (tIfS (tTest (tOp (cEq K) (tVar 2) (tC (.str (tx [111,110,108,121]))))) (tRet (tCall (fD K c) [] E0 (tCons (tOp cIx (aI d d.ok "rules" (bq K c d) (tVar 0) tNil) (tVar 3)) (tCons (tVar 1) (tCons (tVar 4) (tCons (tVar 5) tNil)))))) tNext)
  (tSeq (tIfS (tTest (tOp (cEq K) (tVar 2) (tC (.str (tx [114,101,97,99,104]))))) (tRet (tCall (dR K c) [] E0 (tCons (tVar 6) (tCons (tOp cIx (aI d d.ok "rules" (bq K c d) (tVar 0) tNil) (tVar 3)) (tCons (tVar 1) (tCons (tVar 4) (tCons (tVar 5) tNil))))))) tNext)
  (tSeq (tIfS (tTest (tOp (cEq K) (tVar 2) (tC (.str (tx [112,97,105,114]))))) (tRet (tCall (fF K c) [] E0 (tCons (tOp cIx (aI d d.ok "rules" (bq K c d) (tVar 0) tNil) (tVar 3)) (tCons (tVar 1) (tCons (tVar 4) tNil))))) tNext)
  (tRet (tLst (tCons (tLst tNil) tNil))))))
def jT(K:Frag)(c:RCl RK)(d:RCl PzK):TS:=
 (tSeq (tAsg (aI d d.ok "place" (cA K c d) (tVar 0) tNil) (gName 6))
  (tSeq (tIfS (tTest (tOp (cEq K) (tVar 2) (tC (.str (tx [112,108,97,99,101]))))) (tRet (tCall (dQ K) [] E0 (tCons (tVar 6) (tCons (tVar 5) tNil)))) tNext)
  (tSeq (tIfS (tTest (tOp (cEq K) (tVar 2) (tC (.str (tx [115,113,117,97,114,101]))))) (tRet (tCall (dr K) [] E0 (tCons (tVar 6) (tCons (tVar 4) tNil)))) tNext)
  (tSeq (tIfS (tTest (tOp (cEq K) (tVar 2) (tC (.str (tx [116,117,114,110]))))) (tRet (tCall (fE K) [] E0 (tCons (tVar 6) (tCons (tVar 4) tNil)))) tNext)
  (gE K c d)))))
variable{t:TK}{r:Int}
theorem yr(X:Lk H c d P L G A h w g Qj cl Qh)(hp:IsFl H p h w g)(f:formB h w g Qj t r z s=true)(n1:t≠.place)(n2:t≠.square)(n3:t≠.turn)(q:LLp Q H (mtF h w g Qj Qh t r z s)):
  gE K c d (eD9 Q) [some (.ref P),some (.ref A),some (.str (tx (tkC t))),some (.int r),some (.int z),some (.int s),some (.ref p)] H:=by
 obtain⟨dx,p0,rs,h1,h2,h3⟩:=X.P.ex;obtain⟨z0,z1,s0,s1',Qs⟩:=gu f;have hg:=X.P.R.F.g1;unfold mtF at q;rw[QT n1,QT n2,QT n3] at q
 have row:t≠.clue->∃ y,0<=r/\Qj[r.toNat]? =some y/\goesB t y.k=true:=fun hc=>by
  obtain⟨r0,y,ey,hgo,hz⟩:=qK hc Qs;exact⟨y,r0,ey,hgo⟩
 unfold gE;rw[aL,aA];symm;rw[bv,yV];by_cases e1:t=.only
 . subst e1;obtain⟨y,r0,ey,hgo⟩:=row (by decide);have O:=X.P.R.ok y (QC ey);have hin:aN y.cs Qh.length:=by rw[X.n];exact Tt O X.P.R.F
   rw[ey] at q;rw[QA rfl];refine iteT ?_;refine methE (k:=.Puzzle) rfl X.P.ok h1 (by rfl) ?_;symm;refine⟨P,L,G,h,w,g,Qj,cl,rfl,X.P,fun l p2 rs2 hl hp2 Y=>?_⟩;have s2:Same H (upd H l (.lst (rs2.map V.ref))):=(Qy H).laid hl;generalize upd H l (.lst (rs2.map V.ref))=H1 at*;have hlt:=(Qz.mp ey).1;have Qq:=Y.len;have ea:rs2[r.toNat]? =some rs2[r.toNat]:=Qv (by omega);dsimp only;refine ixL Y.top (gh r0 ea) ?_;symm;exact⟨_,_,p2,A,_,y.cs,Qh,_,_,z,s,rfl,Y.at_ _ _ _ ea ey,hin,s2 _ _ X.A,by omega,q.of s2⟩
 . rw[Qx e1];refine iteF ?_;rw[aA];symm;rw[bv,rP];by_cases e2:t=.reach
   . subst e2;obtain⟨y,r0,ey,hgo⟩:=row (by decide);have O:=X.P.R.ok y (QC ey);have ym:=(O.m0 (vF hgo)).2;have hin:aN y.cs Qh.length:=by rw[X.n];exact Tt O X.P.R.F
     rw[ey] at q;rw[QA rfl];refine iteT ?_;refine methE (k:=.Puzzle) rfl X.P.ok h1 (by rfl) ?_;symm;refine⟨P,L,G,h,w,g,Qj,cl,rfl,X.P,fun l p2 rs2 hl hp2 Y=>?_⟩;have s2:Same H (upd H l (.lst (rs2.map V.ref))):=(Qy H).laid hl;generalize upd H l (.lst (rs2.map V.ref))=H1 at*;have hlt:=(Qz.mp ey).1;have Qq:=Y.len;have ea:rs2[r.toNat]? =some rs2[r.toNat]:=Qv (by omega);dsimp only;refine ixL Y.top (gh r0 ea) ?_;symm;exact⟨_,p,_,p2,A,_,y.cs,Qh,_,_,z,s,h,w,g,rfl,s2 _ _ hp,X.P.R.F,Y.at_ _ _ _ ea ey,hin,RR.len26 O X.P.R.F,s2 _ _ X.A,by omega,q.of s2⟩
   . rw[Qx e2];refine iteF ?_;symm;rw[aA];symm;rw[bv,C8];by_cases e3:t=.pair
     . subst e3;obtain⟨y,r0,ey,hgo⟩:=row (by decide);have O:=X.P.R.ok y (QC ey);have hin:aN y.cs Qh.length:=by rw[X.n];exact Tt O X.P.R.F
       have yk:allK y.k=false:=by revert hgo;cases y.k <;> intro hgo <;> first | rfl | (cases hgo;done)
       have y16:y.cs.length<=16:=by
        obtain⟨_,c2,_,_,e⟩:=O.cl.told yk;rw[e,Qu];exact c2
       rw[ey] at q;rw[QA rfl];refine iteT ?_;refine methE (k:=.Puzzle) rfl X.P.ok h1 (by rfl) ?_;symm;refine⟨P,L,G,h,w,g,Qj,cl,rfl,X.P,fun l p2 rs2 hl hp2 Y=>?_⟩;have s2:Same H (upd H l (.lst (rs2.map V.ref))):=(Qy H).laid hl;generalize upd H l (.lst (rs2.map V.ref))=H1 at*;have hlt:=(Qz.mp ey).1;have Qq:=Y.len;have ea:rs2[r.toNat]? =some rs2[r.toNat]:=Qv (by omega);dsimp only;refine ixL Y.top (gh r0 ea) ?_;symm;exact⟨_,_,p2,A,_,y.cs,Qh,_,_,z,rfl,Y.at_ _ _ _ ea ey,hin,y16,s2 _ _ X.A,X.m64,q.of s2⟩
     . rw[Qx e3]
       have q':LLp Q H [[]]:=by
        cases ey:Qj[r.toNat]? with
        | none=>rw[ey] at q;exact q
        | some y=>
         rw[ey] at q;dsimp only at q;rw[QT e1,QT e2,QT e3] at q;exact q
       refine iteF ?_;symm;refine⟨aT (by decide),fun a ha=>?_⟩;obtain⟨H1,z9,s1,e1⟩:∃ z,upd H a (.lst [])=z/\Same H z/\z a=some (.lst (([]:List Int).map V.int)):=aY _ ha;rw[z9];refine⟨lnR rfl,fun l hl=>?_⟩;have s2:Same H1 (upd H1 l (.lst [V.ref a])):=(Qy H1).laid hl;refine q' l [a] _ (s1.trans s2) (s1.free hl) (fun b hb=>by rw[QF.mp hb];exact ha) ⟨ah,rfl,fun j b xs h1 h2=>?_⟩
       cases j with
       | zero=>cases h1;cases h2;exact s2 _ _ e1
       | succ j=>simp at h1
theorem tW(h:dt K c d vs H Q E):jT K c d (eD9 Q) (start ["puzzle","masks","kind","number","cell","sign","floor"] vs) H:=by
 obtain⟨P,L,G,A,h,w,g,Qj,cl,Qh,t,r,z,s,rfl,X,f,q⟩:=h;obtain⟨dx,p0,rs,h1,h2,h3⟩:=X.P.ex;show jT K c d _ [some (.ref P),some (.ref A),some (.str (tx (tkC t))),some (.int r),some (.int z),some (.int s),none] H;unfold jT;symm;refine methE (k:=.Puzzle) rfl X.P.ok h1 (by rfl) ?_;symm;refine⟨P,L,G,h,w,g,Qj,cl,rfl,X.P,fun p hp=>?_⟩;symm;rw[aA];symm;rw[bv,xc];by_cases e1:t=.place
 . subst e1;rw[QA rfl];unfold mtF at q;rw[Q6 rfl] at q;symm;exact⟨p,h,w,g,s,rfl,hp,X.P.R.F.g0,X.P.R.F.g1,q⟩
 . rw[Qx e1];symm;rw[aA];symm;rw[bv,vC];by_cases e2:t=.square
   . subst e2;rw[QA rfl];unfold mtF at q;rw[QT (by decide),Q6 rfl] at q;symm;exact⟨p,h,w,g,z,rfl,hp,X.P.R.F,q⟩
   . rw[Qx e2];symm;rw[aA];symm;rw[bv,C9];by_cases e3:t=.turn
     . subst e3;rw[QA rfl];unfold mtF at q;rw[QT (by decide),QT (by decide),Q6 rfl] at q;symm;exact⟨p,h,w,g,z,rfl,hp,X.P.R.F,q⟩
     . rw[Qx e3];symm;exact yr X hp f e1 e2 e3 q
theorem Eg:∀ ms∈mtF h w g Qj Qh t r z s,ms.length<=2:=fun ms hm=>by
 unfold mtF at hm
 split at hm
 . unfold plaM at hm;obtain⟨_,_,rfl⟩:=QS.mp hm;simp
 . split at hm
   . unfold squM at hm;obtain⟨_,_,rfl⟩:=QS.mp hm;simp
   . split at hm
     . unfold turM at hm;rcases QV.mp hm with rfl | hm
       . simp
       . obtain⟨_,_,rfl⟩:=QS.mp hm;simp
     . split at hm
       . rw[QF.mp hm];simp
       . split at hm
         . unfold onlM at hm;obtain⟨_,_,rfl⟩:=QS.mp hm;simp
         . split at hm
           . unfold reaM at hm
             split at hm <;> (obtain⟨_,_,rfl⟩:=QS.mp hm;simp)
           . split at hm
             . unfold paiM at hm;obtain⟨a,_,hm⟩:=List.mem_flatMap.mp hm;unfold paiR at hm;obtain⟨_,_,rfl⟩:=QS.mp hm;simp
             . rw[QF.mp hm];simp
noncomputable def faF (h w g:Int) (Qj:List RR) (cl Qh:List Int) (t:TK) (r z s:Int):Option (List Int):=(mtF h w g Qj Qh t r z s).find? fun ms=>strA h w g Qj cl Qh t r z s ms
def ik(K:Frag)(c:RCl RK)(d:RCl PzK):Sp:=fun vs H Q _=>∃(P L G A:Addr) (h w g:Int) (Qj:List RR) (cl Qh:List Int) (t:TK) (r z s:Int),vs=[.ref P,.ref A,.str (tx (tkC t)),.int r,.int z,.int s]/\Lk H c d P L G A h w g Qj cl Qh/\formB h w g Qj t r z s=true/\
 (faF h w g Qj cl Qh t r z s=none->∀ H',Same H H'->Q .non H')/\(∀(ms:List Int) (T M:Addr) (H':Hp),faF h w g Qj cl Qh t r z s=some ms->Same H H'->H T=none->H M=none->IsTh H' T M t r z s ms->Q (.ref T) H')
def nQ(K:Frag)(c:RCl RK)(d:RCl PzK):TS:=
 (tSeq (tFor (iList K (tCall (dt K c d) [] E0 (tCons (tVar 0) (tCons (tVar 1) (tCons (tVar 2) (tCons (tVar 3) (tCons (tVar 4) (tCons (tVar 5) tNil)))))))) (gName 6)
  (tSeq (tAsg (tTup (tCons (tVar 2) (tCons (tVar 3) (tCons (tVar 4) (tCons (tVar 5) (tCons (tVar 6) tNil)))))) (gName 7))
  (tIfS (tB (tCall (dE K c d) [] E0 (tCons (tVar 0) (tCons (tVar 1) (tCons (tVar 7) tNil))))) (tRet (tVar 7)) tNext)))
  (tRet (tC .non)))
theorem yt(h:ik K c d vs H Q E):nQ K c d (eD9 Q) (start ["puzzle","masks","kind","number","cell","sign","more","thought"] vs) H:=by
 obtain⟨P,L,G,A,h,w,g,Qj,cl,Qh,t,r,z,s,rfl,X,f,q1,q2⟩:=h;show nQ K c d _ [some (.ref P),some (.ref A),some (.str (tx (tkC t))),some (.int r),some (.int z),some (.int s),none,none] H;unfold nQ;symm;refine⟨P,L,G,A,h,w,g,Qj,cl,Qh,t,r,z,s,rfl,X,f,fun l as H1 s1 hl fr Y=>?_⟩;have al:=Y.len;have ml:=Eg (h:=h) (w:=w) (g:=g) (Qj:=Qj) (Qh:=Qh) (t:=t) (r:=r) (z:=z) (s:=s);unfold faF at q1 q2;generalize mtF h w g Qj Qh t r z s=Qo at*;refine⟨l,rfl,⟨_,QI Y.top⟩,?_⟩;refine bx (K:=K) (xs:=as.map V.ref) (fun i σ H'=>∃(v6 v7:Option V),σ=[some (.ref P),some (.ref A),some (.str (tx (tkC t))),some (.int r),some (.int z),some (.int s),v6,v7]/\Same H1 H'/\∀ ms∈Qo.take i,strA h w g Qj cl Qh t r z s ms=false) ⟨none,none,rfl,Qy H1,fun ms hm=>by cases hm⟩ (fun i σ H' _ ⟨_,_,_,s,_⟩=>QI (s _ _ Y.top)) ?_ ?_
 . rintro i v σ H2 hv ⟨v6,v7,rfl,s2,hno⟩;obtain⟨b,hb,rfl⟩:=bA hv;have hi:i<as.length:=(Qz.mp hb).1;have ex:Qo[i]? =some Qo[i]:=Qv (by omega);have ebm:=s2 _ _ (Y.at_ i b _ hb ex);have xl:=ml _ (QX (show i<Qo.length by omega));have et:Qo.take (i+1)=Qo.take i++[Qo[i]]:=by rw[RI,ex];rfl
   have hfind:strA h w g Qj cl Qh t r z s Qo[i]=true->Qo.find? (fun ms=>strA h w g Qj cl Qh t r z s ms)=some Qo[i]:=fun ht=>by
    rw[SM];refine⟨ht,i,by omega,rfl,fun j hj=>?_⟩;have:=hno Qo[j] (by rw[List.mem_take_iff_getElem];exact⟨j,by omega,rfl⟩);rw[this];rfl
   generalize Qo[i]=ms at*;have frb:=fr b (QC hb);symm;refine⟨lnR rfl,fun T hT=>?_⟩;have s3:Same H2 (upd H2 T (.tup [V.str (tx (tkC t)),V.int r,V.int z,V.int s,V.ref b])):=(Qy H2).laid hT;have Th:IsTh (upd H2 T (.tup [V.str (tx (tkC t)),V.int r,V.int z,V.int s,V.ref b])) T b t r z s ms:=⟨ah,s3 _ _ ebm,by omega⟩;generalize upd H2 T (.tup [V.str (tx (tkC t)),V.int r,V.int z,V.int s,V.ref b])=H3 at*;have s12:=s1.trans s2;have s13:=s12.trans s3;have X3:=X.same s13;rw[aA];symm;refine⟨P,L,G,A,T,b,h,w,g,Qj,cl,Qh,t,r,z,s,ms,rfl,⟨X3.P,Th,X3.A,X.n⟩,X.m64,f,fun H4 s4=>?_⟩
   cases hb2:strA h w g Qj cl Qh t r z s ms with
   | true=>
    refine⟨true,rfl,iteT ?_⟩;symm;exact q2 ms T b H4 (hfind hb2) (s13.trans s4) (s12.free hT) frb (Th.same s4)
   | false=>
    refine⟨false,rfl,iteF ?_⟩;refine⟨_,_,rfl,(s2.trans s3).trans s4,fun y hy=>?_⟩;rw[et] at hy;rcases QZ.mp hy with hy | hy
    . exact hno y hy
    . rw[QF.mp hy];exact hb2
 . rintro σ H2 ⟨v6,v7,rfl,s2,hno⟩;rw[Qu,al,RB] at hno;symm;exact q1 (List.find?_eq_none.mpr fun ms hm=>by rw[hno ms hm];exact Qt) H2 (s1.trans s2)
def rnF(Qj:List RR)(t:TK):List Int:=if t=.clue then [0] else((List.range Qj.length).filter fun i=>goesB t ((Qj[i]?.map RR.k).getD .Rule)).map fun(i:Nat)=>(i:Int)
def du(K:Frag)(c:RCl RK)(d:RCl PzK):Sp:=fun vs H Q _=>∃(P L G:Addr) (h w g:Int) (Qj:List RR) (cl:List Int) (t:TK),vs=[.ref P,.str (tx (tkC t))]/\IsPz H c d P L G h w g Qj cl/\∀ l H',Same H H'->H l=none->H' l=some (.lst ((rnF Qj t).map V.int))->Q (.ref l) H'
def jU(K:Frag)(c:RCl RK)(d:RCl PzK):TS:=
 (tSeq (tIfS (tTest (tOp (cEq K) (tVar 1) (tC (.str (tx [99,108,117,101]))))) (tRet (tLst (tCons (tC (.int 0)) tNil))) tNext)
  (tRet (tComp [none,none,none,some 1] (iEnum K (tCons (aI d d.ok "rules" (bq K c d) (tVar 0) tNil) tNil)) (gTup K 2 (gCons (gName 1) (gCons (gName 2) gNil))) (tB (tCall (eF K c) [] E0 (tCons (tVar 3) (tCons (tVar 2) tNil)))) (tVar 1))))
theorem tX(h:du K c d vs H Q E):jU K c d (eD9 Q) (start ["puzzle","kind"] vs) H:=by
 obtain⟨P,L,G,h,w,g,Qj,cl,t,rfl,X,q⟩:=h;obtain⟨dx,p0,rs,h1,h2,h3⟩:=X.ex;have rn:=X.R.n;show jU K c d _ [some (.ref P),some (.str (tx (tkC t)))] H;unfold jU;rw[aL,aA];symm;rw[bv,qJ];unfold rnF at q;by_cases hc:t=.clue
 . rw[Q6 hc] at q;rw[QA hc];symm;exact⟨lnR rfl,fun l hl=>q l _ ((Qy H).laid hl) hl ah⟩
 . rw[QT hc] at q;rw[Qx hc];symm;refine methE (k:=.Puzzle) rfl X.ok h1 (by rfl) ?_;symm;refine⟨P,L,G,h,w,g,Qj,cl,rfl,X,fun l p2 rs2 hl hp2 Y=>?_⟩;have s2:Same H (upd H l (.lst (rs2.map V.ref))):=(Qy H).laid hl;generalize upd H l (.lst (rs2.map V.ref))=H1 at*;have Qq:=Y.len;symm;refine⟨l,rfl,⟨_,QI Y.top⟩,?_⟩;refine oy (xs:=rs2.map V.ref) (fun i=>goesB t ((Qj[i]?.map RR.k).getD .Rule)) (fun i=>.int (i:Int)) (by rw[Qu];omega) (by decide) (QI Y.top) ?_ ?_ ?_
   . intro i x H2 R hx s3 k3;obtain⟨b,hb,rfl⟩:=bA hx;have hi:i<rs2.length:=(Qz.mp hb).1;have er:Qj[i]? =some Qj[i]:=Qv (by omega);have zz:=(Y.at_ i b _ hb er).same s3;rw[er] at k3;show tB _ [none,some (.int (i:Int)),some (.ref b),some (.str (tx (tkC t)))] H2 R;symm;exact⟨t,Qj[i].k,b,p2,_,_,_,_,rfl,hc,zz,_,rfl,k3 _ (Qy _)⟩
   . intro i x H2 Q2 hx hb s3 k3;obtain⟨b,hb,rfl⟩:=bA hx;show tVar 1 [none,some (.int (i:Int)),some (.ref b),some (.str (tx (tkC t)))] H2 Q2;symm;exact k3 _ (Qy _)
   . intro T H2 hT s3 eT;rw[Qu,Qq] at eT;refine q T H2 (s2.trans s3) (s2.free hT) ?_;rw[eT,Re];rfl
def celF(h w:Int)(Qj:List RR)(t:TK)(r:Int):List Int:=if t=.clue then rngL 0 (h*w) else match Qj[r.toNat]? with
 | none=>[]
 | some x=>srtI x.cs
def dv(K:Frag)(c:RCl RK)(d:RCl PzK):Sp:=fun vs H Q _=>∃(P L G:Addr) (h w g:Int) (Qj:List RR) (cl:List Int) (t:TK) (r:Int),vs=[.ref P,.str (tx (tkC t)),.int r]/\IsPz H c d P L G h w g Qj cl/\(t≠.clue->0<=r/\r<Qj.length)/\∀ l H',Same H H'->H l=none->H' l=some (.lst ((celF h w Qj t r).map V.int))->Q (.ref l) H'
def jV(K:Frag)(c:RCl RK)(d:RCl PzK):TS:=
 (tSeq (tIfS (tTest (tOp (cEq K) (tVar 1) (tC (.str (tx [99,108,117,101]))))) (tRet (k6 (tCons (tCall (aU K) [] E0 (tCons (aI d d.ok "place" (cA K c d) (tVar 0) tNil) tNil)) tNil))) tNext)
  (tRet (tCB fI (tCons (aI c c.ok "spots" (bF K c) (tOp cIx (aI d d.ok "rules" (bq K c d) (tVar 0) tNil) (tVar 2)) tNil) tNil))))
theorem tY(h:dv K c d vs H Q E):jV K c d (eD9 Q) (start ["puzzle","kind","number"] vs) H:=by
 obtain⟨P,L,G,h,w,g,Qj,cl,t,r,rfl,X,hr,q⟩:=h;obtain⟨dx,p0,rs,h1,h2,h3⟩:=X.ex;have F:=X.R.F;have m16:=F.m;have mpos:0<=h*w:=SB (by have:=F.h0;omega) (by have:=F.w0;omega);show jV K c d _ [some (.ref P),some (.str (tx (tkC t))),some (.int r)] H;unfold jV;rw[aL,aA];symm;rw[bv,qJ];unfold celF at q;by_cases hc:t=.clue
 . rw[Q6 hc] at q;rw[QA hc];symm;refine methE (k:=.Puzzle) rfl X.ok h1 (by rfl) ?_;symm;refine⟨P,L,G,h,w,g,Qj,cl,rfl,X,fun p hp=>?_⟩;symm;refine⟨p,h,w,g,rfl,hp,F.h0,F.h1,?_⟩;exact⟨h*w,rfl,by omega,by omega,fun l hl=>q l _ ((Qy H).laid hl) hl ah⟩
 . obtain⟨r0,r1⟩:=hr hc;have ey:Qj[r.toNat]? =some Qj[r.toNat]:=Qv (by omega);rw[QT hc,ey] at q;have O:=X.R.ok _ (QC ey);have yl:=RR.len26 O F;rw[Qx hc];symm;refine methE (k:=.Puzzle) rfl X.ok h1 (by rfl) ?_;symm;refine⟨P,L,G,h,w,g,Qj,cl,rfl,X,fun l p2 rs2 hl hp2 Y=>?_⟩;have s2:Same H (upd H l (.lst (rs2.map V.ref))):=(Qy H).laid hl;generalize upd H l (.lst (rs2.map V.ref))=H1 at*;have Qq:=Y.len;have ea:rs2[r.toNat]? =some rs2[r.toNat]:=Qv (by omega);have y:=Y.at_ _ _ _ ea ey;generalize rs2[r.toNat]=b at*;obtain⟨dy,Wy,Cy,y1,y2,y3⟩:=y.ex;dsimp only;refine ixL Y.top (gh r0 ea) ?_;refine⟨b,Qj[r.toNat].k,dy,_,rfl,y.ok,y1,by rfl,?_⟩;symm;refine⟨b,p2,_,_,_,_,rfl,y,fun l2 hl2=>?_⟩;obtain⟨H2,z9,s3,e3⟩:=aY (.lst (Qj[r.toNat].cs.map V.int)) hl2;rw[z9];refine xy e3 (by omega) fun l3 hl3=>?_;have s4:=(s2.trans s3).trans ((Qy H2).laid (o:=.lst ((srtI Qj[r.toNat].cs).map V.int)) hl3);exact q l3 _ s4 ((s2.trans s3).free hl3) ah
structure IsBk(H:Hp)(l:Addr)(bs Ms:List Addr)(Qp:List Tho):Prop where
 top:H l=some (.lst (bs.map V.ref))
 len:bs.length=Qp.length
 lnM:Ms.length=Qp.length
 nl:l∉Ms
 at_:∀(i:Nat) (b M:Addr) (th:Tho),bs[i]? =some b->Ms[i]? =some M->Qp[i]? =some th->IsTh H b M th.t th.r th.z th.s th.ms
variable{l:Addr}{Ms:List Addr}{Qp:List Tho}
theorem IsBk.same{bs:List Addr}(x:IsBk H l bs Ms Qp)(s:Same H H'):IsBk H' l bs Ms Qp:=⟨s _ _ x.top,x.len,x.lnM,x.nl,fun i b M th h1 h2 h3=>(x.at_ i b M th h1 h2 h3).same s⟩
theorem IsBk.nil(h:H l=some (.lst [])):IsBk H l [] [] []:=⟨h,rfl,rfl,by simp,fun i b M th e _ _=>by simp at e⟩
variable{th:Tho}
theorem IsBk.app{M:Addr}{bs:List Addr}(x:IsBk H l bs Ms Qp)(s:Same H H')(y:IsTh H' T M th.t th.r th.z th.s th.ms)(hM:M≠l):IsBk (upd H' l (.lst (bs.map V.ref++[V.ref T]))) l (bs++[T]) (Ms++[M]) (Qp++[th]):=by
 have e:=s _ _ x.top;have up:∀{b N:Addr} {t:Tho},IsTh H' b N t.t t.r t.z t.s t.ms->N≠l->IsTh (upd H' l (.lst (bs.map V.ref++[V.ref T]))) b N t.t t.r t.z t.s t.ms:=fun z hn=>⟨by rw[ao (fun e'=>by have:=z.T;rw[e',e] at this;cases this)];exact z.T,by rw[ao hn];exact z.M,z.n⟩;have l1:=x.len;have l2:=x.lnM;refine⟨by rw[ah];simp,by simp[l1],by simp[l2],fun hm=>?_,fun i b N t h1 h2 h3=>?_⟩
 . rcases QZ.mp hm with hm | hm
   . exact x.nl hm
   . exact hM (QF.mp hm).symm
 . by_cases hi:i<Qp.length
   . rw[Rh (by omega)] at h1;rw[Rh (by omega)] at h2;rw[Rh hi] at h3;exact up ((x.at_ i b N t h1 h2 h3).same s) fun e'=>x.nl (by rw[← e'];exact QC h2)
   . rw[Rs (by omega)] at h1 h2 h3;have i0:i-Qp.length=0:=by have:=(Qz.mp h3).1;simp at this;omega
     rw[i0] at h3;rw[show i-bs.length=0 by omega] at h1;rw[show i-Ms.length=0 by omega] at h2;cases h1;cases h2;cases h3;exact up y hM
def BkP(Q:VK)(H:Hp)(Qp:List Tho):Prop:=∀(l:Addr) (bs Ms:List Addr) (H':Hp),Same H H'->H l=none->(∀ b∈bs,H b=none)->(∀ M∈Ms,H M=none)->IsBk H' l bs Ms Qp->Q (.ref l) H'
theorem BkP.of(q:BkP Q H Qp)(s:Same H H1):BkP Q H1 Qp:=fun l bs Ms H' s' hl hb hM x=>q l bs Ms H' (s.trans s') (s.free hl) (fun b h=>s.free (hb b h)) (fun b h=>s.free (hM b h)) x
structure MkP(g:Int)(n:Nat)(ms:List Int):Prop where
 len:ms.length=n
 mm:∀ m∈ms,0<=m/\m<2^g.toNat
theorem Da:((List.range 64).all fun m=>(List.range 6).all fun s=>decide (0<=woI (m:Int) (1+(s:Int))/\woI (m:Int) (1+(s:Int))<=m)&&((List.range 6).all fun x=>decide (x=s)||decide (stB (woI (m:Int) (1+(s:Int))) (1+(x:Int))=stB (m:Int) (1+(x:Int))))&&(!stB (m:Int) (1+(s:Int))||decide ((sgL (woI (m:Int) (1+(s:Int)))).length+1=(sgL (m:Int)).length)))=true:=by decide+kernel
theorem xB(m0:0<=m)(m1:m<64)(s0:1<=s)(s6:s<=6):(0<=woI m s/\woI m s<=m)/\(∀ x,1<=x->x<=6->x≠s->stB (woI m s) x=stB m x)/\(stB m s=true->(sgL (woI m s)).length+1=(sgL m).length):=by
 have t:=QO.mp (QO.mp Da m.toNat (QQ.mpr (by omega))) (s-1).toNat (QQ.mpr (by omega));rw[show((m.toNat:Nat):Int)=m by omega,show 1+(((s-1).toNat:Nat):Int)=s by omega,Rk,Rk] at t;refine⟨QU t.1.1,fun x x0 x6 ne=>?_,fun hs=>?_⟩
 . have:=QO.mp t.1.2 (x-1).toNat (QQ.mpr (by omega));rw[show 1+(((x-1).toNat:Nat):Int)=x by omega,Qx (by omega),RQ] at this;exact QU this
 . have:=t.2;rw[hs,Sc,RQ] at this;exact QU this
theorem Db:((List.range 7).all fun g=>(List.range 64).all fun m=>!decide ((m:Int)<2^g)||(sgL (m:Int)).all fun x=>decide (1<=x/\x<=(g:Int)))=true:=by decide+kernel
theorem Bd(g0:1<=g)(g6:g<=6)(m0:0<=m)(m1:m<2^g.toNat)(hx:x∈sgL m):1<=x/\x<=g:=by
 have p:=l0 g0 g6;have t:=QO.mp (QO.mp Db g.toNat (QQ.mpr (by omega))) m.toNat (QQ.mpr (by omega));rw[show((m.toNat:Nat):Int)=m by omega,QA m1,Sc,RQ] at t;have:=QU (QO.mp t x hx);omega
variable{ms:List Int}
theorem Be{k:Nat}(hk:k<ms.length):(stL ms z s).getD k 0=if (k:Int)=z then woI (ms.getD k 0) s else ms.getD k 0:=by
 unfold stL;rw[List.getD,QD,RG hk];rfl
theorem Dc:(stL ms z s).length=ms.length:=by unfold stL;rw[Qu,RH]
theorem i4{k:Nat}(hk:k<ms.length):ms.getD k 0∈ms:=by rw[List.getD,Qv hk];exact QX _
variable{n:Nat}
theorem MkP.stL(X:MkP g n ms)(g0:1<=g)(g6:g<=6)(s0:1<=s)(s6:s<=6):MkP g n (stL ms z s):=by
 have p:=l0 g0 g6;refine⟨by rw[Dc];exact X.len,fun m hm=>?_⟩;unfold L2.stL at hm;obtain⟨i,hi,rfl⟩:=QS.mp hm;have b:=X.mm _ (i4 (QQ.mp hi))
 split
 . have:=(xB (s:=s) b.1 (by omega) s0 s6).1;omega
 . exact b
theorem Lk.mkp(x:Lk H c d P L G A h w g Qj cl Qh):MkP g (h*w).toNat Qh:=⟨x.n,x.mm⟩
def RuOk(Qj:List RR)(t:TK)(r:Int):Prop:=(t=.clue->r=0)/\(t≠.clue->0<=r/\∃ x,Qj[r.toNat]? =some x/\goesB t x.k=true)
theorem Cj(h:r∈rnF Qj t):RuOk Qj t r:=by
 unfold rnF at h;by_cases hc:t=.clue
 . rw[Q6 hc] at h;exact⟨fun _=>QF.mp h,fun n=>absurd hc n⟩
 . rw[QT hc] at h;obtain⟨i,hi,rfl⟩:=QS.mp h;obtain⟨hi,hg⟩:=QW.mp hi;have hl:=QQ.mp hi;have e:Qj[i]? =some Qj[i]:=Qv hl;refine⟨fun n=>absurd n hc,fun _=>⟨by omega,Qj[i],by rw[Int.toNat_natCast];exact e,?_⟩⟩;rw[e] at hg;exact hg
theorem xC(R:ib c h w g Qj)(ok:RuOk Qj t r)(hz:z∈celF h w Qj t r)(s0:1<=s)(s1:s<=g):formB h w g Qj t r z s=true:=by
 have inn:(0<=z/\z<h*w)/\hitB t Qj r z=true:=by
  unfold celF at hz;unfold hitB;by_cases hc:t=.clue
  . rw[Q6 hc] at hz;rw[ok.1 hc,QT (by decide),Q6 hc];exact⟨uL hz,rfl⟩
  . obtain⟨r0,x,ex,hg⟩:=ok.2 hc;rw[QT hc,ex] at hz;have hz':=srt_mem.mp hz;have ci:=(Tt (R.ok x (QC ex)) R.F).2 z hz';rw[QT (by omega),QT hc,ex];refine⟨by omega,?_⟩;dsimp only;rw[hg,QA hz'];rfl
 unfold formB;rw[QA inn.1.1,QA inn.1.2,QA s0,QA s1,inn.2];rfl
noncomputable def fbS (h w g:Int) (Qj:List RR) (cl:List Int) (t:TK) (r z:Int) (nb:List Int × List Tho) (s:Int):List Int × List Tho:=match faF h w g Qj cl nb.1 t r z s with
 | none=>nb
 | some ms=>(stL nb.1 z s,nb.2++[⟨t,r,z,s,ms⟩])
noncomputable def fbC (h w g:Int) (Qj:List RR) (cl:List Int) (t:TK) (r:Int) (nb:List Int × List Tho) (z:Int):List Int × List Tho:=(sgL (nb.1.getD z.toNat 0)).foldl (fbS h w g Qj cl t r z) nb
noncomputable def fbL (h w g:Int) (Qj:List RR) (cl:List Int) (t:TK) (r:Int):List Int->List Int × List Tho->List Tho
 | [],nb=>nb.2
 | z::zs,nb=>if 0∈(fbC h w g Qj cl t r nb z).1 then(fbC h w g Qj cl t r nb z).2 else fbL h w g Qj cl t r zs (fbC h w g Qj cl t r nb z)
noncomputable def fbF (h w g:Int) (Qj:List RR) (cl Qh:List Int) (t:TK) (r:Int):List Tho:=fbL h w g Qj cl t r (celF h w Qj t r) (Qh,[])
variable{nb:List Int × List Tho}
theorem Eh(X:MkP g n nb.1)(g0:1<=g)(g6:g<=6)(s0:1<=s)(s6:s<=6):MkP g n (fbS h w g Qj cl t r z nb s).1:=by
 unfold fbS
 split
 . exact X
 . exact X.stL g0 g6 s0 s6
def c5(K:Frag)(c:RCl RK)(d:RCl PzK):Sp:=fun vs H Q _=>∃(P L G A:Addr) (h w g:Int) (Qj:List RR) (cl Qh:List Int) (t:TK) (r:Int),vs=[.ref P,.ref A,.str (tx (tkC t)),.int r]/\Lk H c d P L G A h w g Qj cl Qh/\RuOk Qj t r/\BkP Q H (fbF h w g Qj cl Qh t r)
def fbin(K:Frag)(c:RCl RK)(d:RCl PzK):TS:=
 (tFor (iList K (tCall (aP K) [] E0 (tCons (tOp cIx (tVar 4) (tVar 6)) tNil))) (gName 7)
  (tSeq (tAsg (tCall (ik K c d) [] E0 (tCons (tVar 0) (tCons (tVar 4) (tCons (tVar 2) (tCons (tVar 3) (tCons (tVar 6) (tCons (tVar 7) tNil))))))) (gName 8))
  (tIfS (tTest (tOp rNotN (tVar 8) (tC .non))) (tSeq (tDrop (tBM K "list" b7 (tVar 5) (tCons (tVar 8) tNil)))
  (tAsg (tCall (gD K) [] E0 (tCons (tVar 4) (tCons (tVar 6) (tCons (tVar 7) tNil)))) (gName 4))) tNext)))
def i5(K:Frag)(c:RCl RK)(d:RCl PzK):TS:=
 (tSeq (tAsg (tCB kList (tCons (tVar 1) tNil)) (gName 4))
  (tSeq (tAsg (tLst tNil) (gName 5))
  (tSeq (tFor (iList K (tCall (dv K c d) [] E0 (tCons (tVar 0) (tCons (tVar 2) (tCons (tVar 3) tNil))))) (gName 6)
  (tSeq (fbin K c d)
  (tIfS (tB (tCall (bC K) [] E0 (tCons (tVar 4) tNil))) (tRet (tVar 5)) tNext)))
  (tRet (tVar 5)))))
structure Fb(H0 H:Hp)(c:RCl RK)(d:RCl PzK)(P L G N B:Addr)(bs Ms:List Addr)(h w g:Int)(Qj:List RR)(cl:List Int)(nb:List Int × List Tho):Prop where
 sm:Same H0 H
 pz:IsPz H0 c d P L G h w g Qj cl
 nw:H N=some (.lst (nb.1.map V.int))
 mp:MkP g (h*w).toNat nb.1
 bk:IsBk H B bs Ms nb.2
 nB:N≠B
 fB:H0 B=none
 fb:∀ b∈bs,H0 b=none
 fM:∀ M∈Ms,H0 M=none
variable{H0:Hp}{N B:Addr}
theorem Fb.same{bs:List Addr}(X:Fb H0 H c d P L G N B bs Ms h w g Qj cl nb)(t:Same H H'):Fb H0 H' c d P L G N B bs Ms h w g Qj cl nb:=⟨X.sm.trans t,X.pz,t _ _ X.nw,X.mp,X.bk.same t,X.nB,X.fB,X.fb,X.fM⟩
theorem Fb.lk{bs:List Addr}(X:Fb H0 H c d P L G N B bs Ms h w g Qj cl nb):Lk H c d P L G N h w g Qj cl nb.1:=⟨X.pz.same X.sm,X.nw,X.mp.len,X.mp.mm⟩
theorem Bf{α:Type}{f:α->Int->α}{x:α}{ss:List Int}{i:Nat}(e:ss[i]? =some s):(ss.take (i+1)).foldl f x=f ((ss.take i).foldl f x) s:=by
 rw[RI,e,Sa];rfl
theorem Dd:(fbS h w g Qj cl t r z nb s).2.length<=nb.2.length+1:=by
 unfold fbS
 split
 . omega
 . simp
theorem xD(m0:0<=m)(m1:m<64):(sgL m).length<=6:=by
 have t:=QU (QO.mp xw m.toNat (QQ.mpr (by omega)));rw[show((m.toNat:Nat):Int)=m by omega] at t;unfold sgL;rw[Qu];refine QG (QE _ _) ?_;rw[RH];exact t
variable{D:Ends}{v7:Option V}
theorem B5 {bs:List Addr} {v8:Option V} (X:Fb H0 H c d P L G N B bs Ms h w g Qj cl nb) (ok:RuOk Qj t r) (hz:z∈celF h w Qj t r) (bl:nb.2.length<=800) {C:Addr} {cs:List Int} (eC:H C=some (.lst (cs.map V.int))) (nCB:C≠B)
  (k:∀(N2:Addr) (bs2 Ms2:List Addr) (v7 v8:Option V) (H':Hp),Fb H0 H' c d P L G N2 B bs2 Ms2 h w g Qj cl (fbC h w g Qj cl t r nb z)->H' C=some (.lst (cs.map V.int))->(fbC h w g Qj cl t r nb z).2.length<=nb.2.length+6->D.nx [some (.ref P),some (.ref A),some (.str (tx (tkC t))),some (.int r),some (.ref N2),some (.ref B),some (.int z),v7,v8] H'):
  fbin K c d D [some (.ref P),some (.ref A),some (.str (tx (tkC t))),some (.int r),some (.ref N),some (.ref B),some (.int z),v7,v8] H:=by
 have g0:=X.pz.R.F.g0;have g6:=X.pz.R.F.g1;have p64:=l0 g0 g6;have zf:=gu (xC (s:=1) X.pz.R ok hz (by decide) g0);have nl:=X.mp.len;have mz:=X.mp.mm _ (i4 (k:=z.toNat) (ms:=nb.1) (by omega));have sb:∀ s∈sgL (nb.1.getD z.toNat 0),1<=s/\s<=g:=fun s hs=>Bd g0 g6 mz.1 mz.2 hs;have sl6:=xD mz.1 (by omega);unfold fbin;symm;refine ixI X.nw zf.1 (by omega) ?_;symm;unfold fbC at k;refine⟨_,rfl,bitsA mz.1 (by omega),fun S H1 s1 hS eS=>?_⟩;generalize sgL (nb.1.getD z.toNat 0)=ss at*;refine⟨S,rfl,⟨_,QI eS⟩,?_⟩
 refine bx (K:=K) (xs:=ss.map V.int) (fun i σ H'=>∃(N2:Addr) (bs2 Ms2:List Addr) (v7 v8:Option V),σ=[some (.ref P),some (.ref A),some (.str (tx (tkC t))),some (.int r),some (.ref N2),some (.ref B),some (.int z),v7,v8]/\Fb H0 H' c d P L G N2 B bs2 Ms2 h w g Qj cl ((ss.take i).foldl (fbS h w g Qj cl t r z) nb)/\H' S=some (.lst (ss.map V.int))/\H' C=some (.lst (cs.map V.int))/\((ss.take i).foldl (fbS h w g Qj cl t r z) nb).2.length<=nb.2.length+i)
  ⟨N,bs,Ms,_,_,rfl,X.same s1,eS,s1 _ _ eC,QR _⟩ (fun i σ H' _ ⟨_,_,_,_,_,_,_,e,_⟩=>QI e) ?_ ?_
 . rintro i v σ H2 hv ⟨N2,bs2,Ms2,v7,v8,rfl,X2,eS2,eC2,l2⟩;obtain⟨s,hs,rfl⟩:=aS hv;have hi:i<ss.length:=(Qz.mp hs).1;have sm:=sb s (QC hs);rw[Bf hs];generalize (ss.take i).foldl (fbS h w g Qj cl t r z) nb=n2 at*;have f:=xC (s:=s) X.pz.R ok hz sm.1 sm.2;have l3:=Dd (h:=h) (w:=w) (g:=g) (Qj:=Qj) (cl:=cl) (t:=t) (r:=r) (z:=z) (s:=s) (nb:=n2);have o3:=Eh (h:=h) (w:=w) (Qj:=Qj) (cl:=cl) (t:=t) (r:=r) (z:=z) X2.mp g0 g6 sm.1 (by omega);symm;refine⟨P,L,G,N2,h,w,g,Qj,cl,n2.1,t,r,z,s,rfl,X2.lk,f,fun e H3 s3=>?_,fun ms T M H3 e s3 hT hM Th=>?_⟩
   . have e2:fbS h w g Qj cl t r z n2 s=n2:=by unfold fbS;rw[e]
     rw[e2];symm;rw[aA];symm;exact⟨N2,bs2,Ms2,_,_,rfl,X2.same s3,s3 _ _ eS2,s3 _ _ eC2,by omega⟩
   . have e2:fbS h w g Qj cl t r z n2 s=(stL n2.1 z s,n2.2++[⟨t,r,z,s,ms⟩]):=by unfold fbS;rw[e]
     rw[e2] at l3 o3;rw[e2];have X3:=X2.same s3;have hMB:M≠B:=fun e'=>by rw[e',X2.bk.top] at hM;cases hM
     have b2:=X2.bk.len;have nSB:S≠B:=fun e'=>by rw[e',X.bk.top] at hS;cases hS
     symm;rw[aA];symm;rw[Qx (fun e'=>by cases e')];symm;refine⟨bj X3.bk.top,?_⟩;rw[gg X3.bk.top];refine⟨by rw[Qu];exact aD (by omega),?_⟩;have Bk:=X2.bk.app (th:=⟨t,r,z,s,ms⟩) s3 Th hMB;have s4:=X3.sm.own (o:=.lst (bs2.map V.ref++[V.ref T])) X.fB;have n4:(upd H3 B (.lst (bs2.map V.ref++[V.ref T]))) N2=some (.lst (n2.1.map V.int)):=by rw[ao X2.nB];exact X3.nw
     have S4:(upd H3 B (.lst (bs2.map V.ref++[V.ref T]))) S=some (.lst (ss.map V.int)):=by rw[ao nSB];exact s3 _ _ eS2
     have C4:(upd H3 B (.lst (bs2.map V.ref++[V.ref T]))) C=some (.lst (cs.map V.int)):=by rw[ao nCB];exact s3 _ _ eC2
     generalize upd H3 B (.lst (bs2.map V.ref++[V.ref T]))=H4 at*;symm;refine⟨N2,n2.1,z,s,rfl,n4,by have:=X2.mp.len;have:=X.pz.R.F.m;omega,by omega,fun N3 H5 s5 hN3 eN3=>?_⟩;refine⟨N3,bs2++[T],Ms2++[M],_,_,rfl,⟨s4.trans s5,X.pz,eN3,o3,Bk.same s5,fun e'=>?_,X.fB,fun b hb=>?_,fun b hb=>?_⟩,s5 _ _ S4,s5 _ _ C4,QG l3 (by omega)⟩
     . rw[e',Bk.top] at hN3;cases hN3
     . rcases QZ.mp hb with hb | hb
       . exact X2.fb b hb
       . rw[QF.mp hb];exact X2.sm.free hT
     . rcases QZ.mp hb with hb | hb
       . exact X2.fM b hb
       . rw[QF.mp hb];exact X2.sm.free hM
 . rintro σ H2 ⟨N2,bs2,Ms2,v7,v8,rfl,X2,eS2,eC2,l2⟩;rw[Qu,RB] at X2 l2;exact k N2 bs2 Ms2 v7 v8 H2 X2 eC2 (by omega)
theorem De(R:ib c h w g Qj):(celF h w Qj t r).length<=60:=by
 have:=R.F.m;unfold celF
 split
 . rw[kg];omega
 . split
   . simp
   . rename_i x e
     rw[qL];exact RR.len26 (R.ok x (QC e)) R.F
theorem rR(h:c5 K c d vs H Q E):i5 K c d (eD9 Q) (start ["puzzle","masks","kind","number","now","book","cell","sign","thought"] vs) H:=by
 obtain⟨P,L,G,A,h,w,g,Qj,cl,Qh,t,r,rfl,X,ok,q⟩:=h;show i5 K c d _ [some (.ref P),some (.ref A),some (.str (tx (tkC t))),some (.int r),none,none,none,none,none] H;have cln:=De (t:=t) (r:=r) X.P.R;unfold i5;symm;refine kZ X.A fun N hN=>?_;obtain⟨H1,z9,s1,eN⟩:=aY (.lst (Qh.map V.int)) hN;rw[z9];symm;refine⟨aT (by decide),fun B hB=>?_⟩;have s2:Same H1 (upd H1 B (.lst [])):=(Qy H1).laid hB;have eB:(upd H1 B (.lst [])) B=some (.lst []):=ah;have nNB:N≠B:=fun e=>by rw[e] at eN;rw[eN] at hB;cases hB
 generalize upd H1 B (.lst [])=H2 at*;have s12:=s1.trans s2;have X0:Fb H H2 c d P L G N B [] [] h w g Qj cl (Qh,[]):=⟨s12,X.P,s2 _ _ eN,X.mkp,IsBk.nil eB,nNB,s1.free hB,(fun b hb=>by cases hb),(fun b hb=>by cases hb)⟩;refine⟨P,L,G,h,w,g,Qj,cl,t,r,rfl,X.P.same s12,fun hc=>?_,fun C H3 s3 hC eC=>?_⟩
 . obtain⟨r0,x,ex,_⟩:=ok.2 hc;have:=(Qz.mp ex).1;omega
 . have nCB:C≠B:=fun e=>by rw[e,eB] at hC;cases hC
   unfold fbF at q;have hce:∀ z∈celF h w Qj t r,z∈celF h w Qj t r:=fun z hz=>hz;generalize hcs:celF h w Qj t r=cs at*;refine⟨C,rfl,⟨_,QI eC⟩,?_⟩
   refine bx (K:=K) (xs:=cs.map V.int) (fun i σ H'=>∃(N2:Addr) (bs2 Ms2:List Addr) (v6 v7 v8:Option V) (nb:List Int × List Tho),σ=[some (.ref P),some (.ref A),some (.str (tx (tkC t))),some (.int r),some (.ref N2),some (.ref B),v6,v7,v8]/\Fb H H' c d P L G N2 B bs2 Ms2 h w g Qj cl nb/\H' C=some (.lst (cs.map V.int))/\fbL h w g Qj cl t r cs (Qh,[])=fbL h w g Qj cl t r (cs.drop i) nb/\nb.2.length<=6*i)
    ⟨N,[],[],none,none,none,(Qh,[]),rfl,X0.same s3,eC,rfl,QR _⟩ (fun i σ H' _ ⟨_,_,_,_,_,_,_,_,_,e,_⟩=>QI e) ?_ ?_
   . rintro i v σ H4 hv ⟨N2,bs2,Ms2,v6,v7,v8,nb,rfl,X4,eC4,ef,bl⟩;obtain⟨z,hz,rfl⟩:=aS hv;have hi:i<cs.length:=(Qz.mp hz).1;have zm:z∈celF h w Qj t r:=by rw[hcs];exact QC hz
     have ed:cs.drop i=z::cs.drop (i+1):=by
      rw[RN hi]
      congr 1
      exact(Qz.mp hz).2
     rw[ed] at ef;symm;refine B5 X4 ok zm (by omega) eC4 nCB fun N3 bs3 Ms3 v7 v8 H5 X5 eC5 l5=>?_;have ef':fbL h w g Qj cl t r cs (Qh,[])=if 0∈(fbC h w g Qj cl t r nb z).1 then(fbC h w g Qj cl t r nb z).2 else fbL h w g Qj cl t r (cs.drop (i+1)) (fbC h w g Qj cl t r nb z):=ef;generalize fbC h w g Qj cl t r nb z=n5 at*;symm;rw[aA];symm;refine⟨N3,n5.1,rfl,X5.nw,?_⟩;by_cases h0:(0:Int)∈n5.1
     . rw[Q6 h0] at ef';rw[QA h0];refine⟨true,rfl,iteT ?_⟩;symm;rw[ef'] at q;exact q B bs3 Ms3 H5 X5.sm X5.fB X5.fb X5.fM X5.bk
     . rw[QT h0] at ef';rw[Qx h0];refine⟨false,rfl,iteF ?_⟩;exact⟨N3,bs3,Ms3,_,_,_,n5,rfl,X5,eC5,ef',by omega⟩
   . rintro σ H4 ⟨N2,bs2,Ms2,v6,v7,v8,nb,rfl,X4,eC4,ef,bl⟩;rw[Qu,SN] at ef;symm;rw[ef] at q;exact q B bs2 Ms2 H4 X4.sm X4.fB X4.fb X4.fM X4.bk
theorem Ei{s:Str}{ws:List Str}(h:H p=some (.lst (ws.map V.str))):cIn K false (.str s) (.ref p) H Q=Q (.bl (decide (s∈ws))) H:=by
 unfold cIn;dsimp only;rw[h];dsimp only[unD,unS,bnd];rw[iP,gj];simp[flatV]
theorem Same.sqt{xs:List V}(e:Same H H')(h:SqT K H a xs):SqT K H' a xs:=by
 rcases h with (h | ⟨o,h⟩) | h
 . exact .inl (.inl (e _ _ h))
 . exact .inl (.inr ⟨o,e _ _ h⟩)
 . exact .inr h
theorem Bg {k:Nat} {tt:TT} {te:TE} {fin:Addr->Hp->Prop} {σ0:St} {xs:List Str} (b:Str->Bool) (hn:xs.length<=900) (hq:SqT K H1 a (xs.map V.str))
  (ht:∀ x H R,x∈xs->Same H1 H->(∀ H',Same H H'->R (b x) H')->tt (σ0.set k (some (.str x))) H R)
  (he:∀ x H Q,x∈xs->b x=true->Same H1 H->(∀ H',Same H H'->Q (.str x) H')->te (σ0.set k (some (.str x))) H Q)
  (hd:∀ l H,H1 l=none->Same H1 H->H l=some (.lst ((xs.filter b).map V.str))->fin l H):CompR (Itt K a) (gName k) tt te fin σ0 H1:=by
 refine wR (xs:=xs.map V.str) (fun l i σ H=>(σ=σ0\/∃ cv,σ=σ0.set k cv)/\Same H1 H/\H l=some (.lst (((xs.take i).filter b).map V.str))) (fun l hl=>⟨.inl rfl,(Qy H1).laid hl,by rw[ah];rfl⟩) (fun l i σ H _ _ p=>p.2.1.sqt hq) ?_ (fun l σ H hl p=>hd l H hl p.2.1 (by have:=p.2.2;rw[Qu,RB] at this;exact this));rintro l i x σ H hl hx ⟨hσ,s1,el⟩;rw[QD] at hx;obtain⟨z,hz,rfl⟩:=R0.mp hx;have hi:i<xs.length:=(Qz.mp hz).1;have et:xs.take (i+1)=xs.take i++[z]:=by rw[RI,hz];rfl
 rw[bo]
 have e:σ.set k (some (.str z))=σ0.set k (some (.str z)):=by
  rcases hσ with rfl | ⟨cv,rfl⟩
  . rfl
  . exact R1 ..
 rw[e];refine ht z H _ (QC hz) s1 fun H2 s2=>?_;have el2:=s2 _ _ el;have s12:=s1.trans s2
 cases hb:b z with
 | false=>
  rw[QT Qt];refine⟨.inr ⟨_,rfl⟩,s12,?_⟩;rw[et,Rl,Rr,hb]
  simpa using el2
 | true=>
  rw[Q6 rfl];refine he z H2 _ (QC hz) hb s12 fun H3 s3=>⟨_,s3 _ _ el2,?_,.inr ⟨_,rfl⟩,(s12.trans s3).own hl,?_⟩
  . rw[Qu];exact aD (QG (QE _ _) (by rw[RE];omega))
  . rw[ah,et,Rl,Rr,hb];simp
def dBk(th:Tho):PyData:=dTh th.t th.r th.z th.s th.ms
theorem Ck{bs:List Addr}(x:IsBk H l bs Ms Qp):DV K H (.ref l) (.list (Qp.map dBk)):=by
 have l1:=x.len;have l2:=x.lnM;refine .lst (QI x.top) (DVs.of_get (by simp[x.len]) fun i y d h1 h2=>?_);obtain⟨a,ha,rfl⟩:=bA h1;rw[QD] at h2;obtain⟨th,hth,rfl⟩:=R0.mp h2;have hi:i<Qp.length:=(Qz.mp hth).1;exact EL (x.at_ i a _ th ha (Qv (by omega)) hth)
theorem y7(t:TK)(r z s:Int)(ms:List Int):PyData.canLay0 (dTh t r z s ms)=true/\PyData.depth (dTh t r z s ms)<=2:=by
 have a1:PyData.strOk (tx (tkC t))=true:=zA (by cases t <;> decide);unfold dTh;simp[PyData.canLay0,PyData.canLayAll0,a1,ou,PyData.depth,PyData.depthAll,lU]
theorem no(Qp:List Tho):SeqAt.shaped (.list (Qp.map dBk))=true:=by
 have h1:PyData.canLayAll0 (Qp.map dBk)=true:=uC fun d hd=>by obtain⟨x,_,rfl⟩:=QS.mp hd;exact(y7 _ _ _ _ _).1
 have h2:PyData.depthAll (Qp.map dBk)<=2:=pP fun d hd=>by obtain⟨x,_,rfl⟩:=QS.mp hd;exact(y7 _ _ _ _ _).2
 simp[SeqAt.shaped,PyData.canLay0,h1,PyData.depth];omega
theorem y8(Qp:List Tho):PyData.eqv (.list (Qp.map dBk)) (.list [])=decide (Qp.length=0):=by
 cases Qp <;> simp[PyData.eqv,PyData.eqvAll]
theorem Bh{E:Addr}{bs:List Addr}(x:IsBk H l bs Ms Qp)(e:H E=some (.lst []))(q:Q (.bl (!decide (Qp.length=0))) H):cNe K (.ref l) (.ref E) H Q:=by
 show rNeD K (.ref l) (.ref E) H Q;refine⟨_,.list [],Ck x,.lst (QI e) .nil,no Qp,no [],?_⟩;rw[y8];exact q
theorem Ej{E:Addr}{bs:List Addr}(x:IsBk H l bs Ms Qp)(e:H E=some (.lst []))(q:Q (.bl (decide (Qp.length=0))) H):cEq K (.ref l) (.ref E) H Q:=by
 show rEqD K (.ref l) (.ref E) H Q;refine⟨_,.list [],Ck x,.lst (QI e) .nil,no Qp,no [],?_⟩;rw[y8];exact q
abbrev txk(t:TK):Str:=tx (tkC t)
def allT:List TK:=[.clue,.only,.place,.count,.step,.sum,.square,.reach,.turn,.pair,.ways]
theorem tZ:gt_KINDS=allT.map txk:=by decide+kernel
theorem Df{a b:TK}:decide (txk a=txk b)=decide (a=b):=by cases a <;> cases b <;> decide+kernel
variable{ks:List TK}
theorem y9:decide (txk t∈ks.map txk)=decide (t∈ks):=by
 rw[Q0,QB,QB,QS];constructor
 . rintro⟨a,ha,e⟩;have:=Df (a:=a) (b:=t);rw[QA e] at this;exact(QU this.symm) ▸ ha
 . exact fun h=>⟨t,h,rfl⟩
noncomputable def ffR (h w g:Int) (Qj:List RR) (cl Qh:List Int) (t:TK):List Int->List Tho
 | []=>[]
 | r::rs=>if (fbF h w g Qj cl Qh t r).length=0 then ffR h w g Qj cl Qh t rs else fbF h w g Qj cl Qh t r
noncomputable def ffT (h w g:Int) (Qj:List RR) (cl Qh:List Int):List TK->List Tho
 | []=>[]
 | t::ts=>if (ffR h w g Qj cl Qh t (rnF Qj t)).length=0 then ffT h w g Qj cl Qh ts else ffR h w g Qj cl Qh t (rnF Qj t)
noncomputable def ffF (h w g:Int) (Qj:List RR) (cl Qh:List Int) (ks:List TK):List Tho:=ffT h w g Qj cl Qh (allT.filter fun t=>decide (t∈ks))
def KdL(H:Hp)(Kd:Addr)(ks:List TK):Prop:=H Kd=some (.lst ((ks.map txk).map V.str))
def cg(K:Frag)(c:RCl RK)(d:RCl PzK):Sp:=fun vs H Q _=>∃(P L G A Kd:Addr) (h w g:Int) (Qj:List RR) (cl Qh:List Int) (ks:List TK),vs=[.ref P,.ref A,.ref Kd]/\Lk H c d P L G A h w g Qj cl Qh/\KdL H Kd ks/\BkP Q H (ffF h w g Qj cl Qh ks)
def ffin(K:Frag)(c:RCl RK)(d:RCl PzK):TS:=
 (tFor (iList K (tCall (du K c d) [] E0 (tCons (tVar 0) (tCons (tVar 3) tNil)))) (gName 4)
  (tSeq (tAsg (tCall (c5 K c d) [] E0 (tCons (tVar 0) (tCons (tVar 1) (tCons (tVar 3) (tCons (tVar 4) tNil))))) (gName 5))
  (tIfS (tTest (tOp (cNe K) (tVar 5) (tLst tNil))) (tRet (tVar 5)) tNext)))
def ku(K:Frag)(c:RCl RK)(d:RCl PzK):TS:=
 (tSeq (tFor (iList K (tComp [none,none,some 2] (iTup K (tGT K gt_KINDS)) (gName 1) (tTest (tOp (cIn K false) (tVar 1) (tVar 2))) (tVar 1))) (gName 3)
  (ffin K c d))
  (tRet (tLst tNil)))
variable{v4:Option V}
theorem Dg {v5:Option V} (X:Lk H c d P L G A h w g Qj cl Qh)
  (k1:(ffR h w g Qj cl Qh t (rnF Qj t)).length=0->∀(v4 v5:Option V) (H':Hp),Same H H'->D.nx [some (.ref P),some (.ref A),v2,some (.str (txk t)),v4,v5] H')
  (k2:¬ (ffR h w g Qj cl Qh t (rnF Qj t)).length=0->BkP D.rt H (ffR h w g Qj cl Qh t (rnF Qj t))):
  ffin K c d D [some (.ref P),some (.ref A),v2,some (.str (txk t)),v4,v5] H:=by
 unfold ffin;symm;refine⟨P,L,G,h,w,g,Qj,cl,t,rfl,X.P,fun R H1 s1 hR eR=>?_⟩;have hok:∀ r∈rnF Qj t,RuOk Qj t r:=fun r hr=>Cj hr;generalize rnF Qj t=rs at*;refine⟨R,rfl,⟨_,QI eR⟩,?_⟩;refine bx (K:=K) (xs:=rs.map V.int) (fun i σ H'=>∃(v4 v5:Option V),σ=[some (.ref P),some (.ref A),v2,some (.str (txk t)),v4,v5]/\Same H1 H'/\ffR h w g Qj cl Qh t rs=ffR h w g Qj cl Qh t (rs.drop i)) ⟨_,_,rfl,Qy H1,rfl⟩ (fun i σ H' _ ⟨_,_,_,s,_⟩=>QI (s _ _ eR)) ?_ ?_
 . rintro i v σ H2 hv ⟨v4,v5,rfl,s2,ef⟩;obtain⟨r,hr,rfl⟩:=aS hv;have hi:i<rs.length:=(Qz.mp hr).1
   have ed:rs.drop i=r::rs.drop (i+1):=by
    rw[RN hi]
    congr 1
    exact(Qz.mp hr).2
   rw[ed] at ef;have ef':ffR h w g Qj cl Qh t rs=if (fbF h w g Qj cl Qh t r).length=0 then ffR h w g Qj cl Qh t (rs.drop (i+1)) else fbF h w g Qj cl Qh t r:=ef;have s12:=s1.trans s2;symm;refine⟨P,L,G,A,h,w,g,Qj,cl,Qh,t,r,rfl,X.same s12,hok r (QC hr),fun B bs Ms H3 s3 hB hb hM bk=>?_⟩;symm;rw[aA];symm;refine⟨aT (by decide),fun E hE=>?_⟩;obtain⟨H4,z9,s4,eE⟩:=aY (.lst []) hE;rw[z9];have s34:=s3.trans s4;refine Bh (bk.same s4) eE ?_;by_cases h0:(fbF h w g Qj cl Qh t r).length=0
   . rw[Q6 h0] at ef';rw[QA h0];refine⟨_,rfl,iteF ?_⟩;exact⟨_,_,rfl,s2.trans s34,ef'⟩
   . rw[QT h0] at ef';rw[Qx h0];refine⟨_,rfl,iteT ?_⟩;symm;refine k2 (by rw[ef'];exact h0) B bs Ms H4 (s12.trans s34) (s12.free hB) (fun b h=>s12.free (hb b h)) (fun b h=>s12.free (hM b h)) ?_;rw[ef'];exact bk.same s4
 . rintro σ H2 ⟨v4,v5,rfl,s2,ef⟩;rw[Qu,SN] at ef;exact k1 (by rw[ef];rfl) v4 v5 H2 (s1.trans s2)
theorem uT(h:cg K c d vs H Q E):ku K c d (eD9 Q) (start ["puzzle","masks","kinds","kind","number","found"] vs) H:=by
 obtain⟨P,L,G,A,Kd,h,w,g,Qj,cl,Qh,ks,rfl,X,hK,q⟩:=h;show ku K c d _ [some (.ref P),some (.ref A),some (.ref Kd),none,none,none] H;unfold ku;symm;rw[uF,Ed];intro p hp;refine⟨p,rfl,⟨_,hp⟩,?_⟩;rw[tZ] at hp;refine Bg (xs:=allT.map txk) (fun x=>decide (x∈ks.map txk)) (by decide) hp ?_ ?_ ?_
 . intro x H1 R hx s1 k1;show tTest _ [none,some (.str x),some (.ref Kd)] H1 R;symm;rw[Ei (s1 _ _ hK)];exact⟨_,rfl,k1 _ (Qy _)⟩
 . intro x H1 Q1 hx hb s1 k1;show tVar 1 [none,some (.str x),some (.ref Kd)] H1 Q1;symm;exact k1 _ (Qy _)
 . intro S H1 hS s1 eS
   have ef:((allT.map txk).filter fun x=>decide (x∈ks.map txk))=(allT.filter fun t=>decide (t∈ks)).map txk:=by
    rw[SX];refine congrArg _ (List.filter_congr fun t _=>?_);exact y9
   rw[ef] at eS;unfold ffF at q;generalize (allT.filter fun t=>decide (t∈ks))=ts at*;refine⟨S,rfl,⟨_,QI eS⟩,?_⟩;refine bx (K:=K) (xs:=(ts.map txk).map V.str) (fun i σ H'=>∃(v3 v4 v5:Option V),σ=[some (.ref P),some (.ref A),some (.ref Kd),v3,v4,v5]/\Same H1 H'/\ffT h w g Qj cl Qh ts=ffT h w g Qj cl Qh (ts.drop i)) ⟨_,_,_,rfl,Qy H1,rfl⟩ (fun i σ H' _ ⟨_,_,_,_,s,_⟩=>QI (s _ _ eS)) ?_ ?_
   . rintro i v σ H2 hv ⟨v3,v4,v5,rfl,s2,ef⟩;rw[QD,QD] at hv;obtain⟨u,hu,rfl⟩:=R0.mp hv;obtain⟨t,ht,rfl⟩:=R0.mp hu;have hi:i<ts.length:=(Qz.mp ht).1
     have ed:ts.drop i=t::ts.drop (i+1):=by
      rw[RN hi]
      congr 1
      exact(Qz.mp ht).2
     rw[ed] at ef;have ef':ffT h w g Qj cl Qh ts=if (ffR h w g Qj cl Qh t (rnF Qj t)).length=0 then ffT h w g Qj cl Qh (ts.drop (i+1)) else ffR h w g Qj cl Qh t (rnF Qj t):=ef;have s12:=s1.trans s2;symm;refine Dg (X.same s12) (fun h0 v4 v5 H3 s3=>?_) (fun h0=>?_)
     . rw[Q6 h0] at ef';exact⟨_,_,_,rfl,s2.trans s3,ef'⟩
     . rw[QT h0] at ef';rw[ef'] at q;exact q.of s12
   . rintro σ H2 ⟨v3,v4,v5,rfl,s2,ef⟩;rw[Qu,Qu,SN] at ef;rw[ef] at q;symm;refine⟨aT (by decide),fun E hE=>?_⟩;exact(q.of (s1.trans s2)) E [] [] _ ((Qy H2).laid hE) hE (fun b hb=>by cases hb) (fun b hb=>by cases hb) (IsBk.nil ah)
noncomputable def ntF (h w g:Int) (Qj:List RR) (cl Qh:List Int) (ks:List TK):Option Tho:=if 0∈Qh then none else(ffF h w g Qj cl Qh ks).head?
def dw(K:Frag)(c:RCl RK)(d:RCl PzK):Sp:=fun vs H Q _=>∃(P L G A Kd:Addr) (h w g:Int) (Qj:List RR) (cl Qh:List Int) (ks:List TK),vs=[.ref P,.ref A,.ref Kd]/\Lk H c d P L G A h w g Qj cl Qh/\KdL H Kd ks/\
 (ntF h w g Qj cl Qh ks=none->∀ H',Same H H'->Q .non H')/\∀(th:Tho) (T M:Addr) (H':Hp),ntF h w g Qj cl Qh ks=some th->Same H H'->H T=none->H M=none->IsTh H' T M th.t th.r th.z th.s th.ms->Q (.ref T) H'
def gF(K:Frag)(c:RCl RK)(d:RCl PzK):TS:=
 (tRet (tIf (tTest (tOp (cNe K) (tVar 3) (tLst tNil))) (tOp cIx (tVar 3) (tC (.int 0))) (tC .non)))
def jW(K:Frag)(c:RCl RK)(d:RCl PzK):TS:=
 (tSeq (tAsg (tIf (tNot (tB (tCall (bC K) [] E0 (tCons (tVar 1) tNil)))) (tCall (cg K c d) [] E0 (tCons (tVar 0) (tCons (tVar 1) (tCons (tVar 2) tNil)))) (tLst tNil)) (gName 3))
  (gF K c d))
theorem t3{bs:List Addr}(X:IsBk H B bs Ms Qp)(q1:Qp=[]->∀ H',Same H H'->Q .non H')(q2:∀ th r b M H',Qp=th::r->Same H H'->b∈bs->M∈Ms->IsTh H' b M th.t th.r th.z th.s th.ms->Q (.ref b) H'):
  gF K c d (eD9 Q) [v0,v1,v2,some (.ref B)] H:=by
 unfold gF;symm;refine⟨aT (by decide),fun E hE=>?_⟩;obtain⟨H4,z9,s4,eE⟩:=aY (.lst []) hE;rw[z9];have X4:=X.same s4;refine Bh X4 eE ?_
 match Qp,X4 with
 | [],X4=>
  rw[QA (show([]:List Tho).length=0 from rfl)];refine⟨_,rfl,iteF ?_⟩;exact q1 rfl _ s4
 | th::r,X4=>
  rw[Qx (by simp)];refine⟨_,rfl,iteT ?_⟩;have l1:=X4.len;have l2:=X4.lnM;rw[Rj] at l1 l2;have e1:bs[0]? =some bs[0]:=Qv (by omega);have e2:Ms[0]? =some Ms[0]:=Qv (by omega);refine ixL X4.top (v:=V.ref bs[0]) (dI (j:=0) (by rw[QD,e1];rfl)) ?_;exact q2 th r bs[0] Ms[0] _ rfl s4 (QX _) (QX _) (X4.at_ 0 _ _ th e1 e2 rfl)
theorem t4(h:dw K c d vs H Q E):jW K c d (eD9 Q) (start ["puzzle","masks","kinds","found"] vs) H:=by
 obtain⟨P,L,G,A,Kd,h,w,g,Qj,cl,Qh,ks,rfl,X,hK,q1,q2⟩:=h;show jW K c d _ [some (.ref P),some (.ref A),some (.ref Kd),none] H;unfold jW;symm;refine⟨A,Qh,rfl,X.A,?_⟩;unfold ntF at q1 q2;by_cases h0:(0:Int)∈Qh
 . rw[Q6 h0] at q1;rw[QA h0];refine⟨true,rfl,iteF ?_⟩;refine⟨aT (by decide),fun B hB=>?_⟩;obtain⟨H1,z9,s1,eB⟩:=aY (.lst []) hB;rw[z9];exact t3 (IsBk.nil eB) (fun _ H' s'=>q1 rfl H' (s1.trans s')) (fun th r b M H' e=>by cases e)
 . rw[QT h0] at q1 q2;rw[Qx h0];refine⟨false,rfl,iteT ?_⟩;refine⟨P,L,G,A,Kd,h,w,g,Qj,cl,Qh,ks,rfl,X,hK,fun B bs Ms H1 s1 hB hb hM bk=>?_⟩;refine t3 bk (fun e H' s'=>q1 (by rw[e];rfl) H' (s1.trans s')) (fun th r b M H' e s' hb' hM' Th=>?_);exact q2 th b M H' (by rw[e];rfl) (s1.trans s') (hb b hb') (hM M hM') Th
def OkT(h w g:Int)(Qj:List RR)(cl:List Int)(ks:List TK)(m:List Int)(th:Tho):Prop:=0∉m/\th.t∈ks/\(0<=th.z/\th.z<h*w)/\(1<=th.s/\th.s<=g)/\stB (m.getD th.z.toNat 0) th.s=true/\alwA h w g Qj cl m th.t th.r th.z th.s th.ms=true
def Wlk(h w g:Int)(Qj:List RR)(cl:List Int)(ks:List TK):List Int->List Tho->List Int->Prop
 | m,[],m'=>m=m'
 | m,th::r,m'=>OkT h w g Qj cl ks m th/\Wlk h w g Qj cl ks (stL m th.z th.s) r m'
theorem Wlk.trans{h w g:Int}{Qj:List RR}{cl:List Int}{ks:List TK}:∀{a b:List Tho} {m m1 m2:List Int},Wlk h w g Qj cl ks m a m1->Wlk h w g Qj cl ks m1 b m2->Wlk h w g Qj cl ks m (a++b) m2
 | [],_,_,_,_,h1,h2=>by cases (show _=_ from h1);exact h2
 | _::_,_,_,_,_,h1,h2=>⟨h1.1,Wlk.trans h1.2 h2⟩
theorem Wlk.snoc{a:List Tho}{m m1:List Int}(h1:Wlk h w g Qj cl ks m a m1)(h2:OkT h w g Qj cl ks m1 th):Wlk h w g Qj cl ks m (a++[th]) (stL m1 th.z th.s):=h1.trans ⟨h2,rfl⟩
theorem E2:stB 0 s=false:=by
 unfold stB;rw[show Builtin.Int.intBits 0=0 from rfl]
 cases h1:decide (1<=s) with
 | false=>rfl
 | true=>
  have:=QU h1;rw[Qx (show ¬ s<=((0:Nat):Int) by omega)];rfl
theorem Ek(f:formB h w g Qj t r z s=true)(e:faF h w g Qj cl Qh t r z s=some ms):alwA h w g Qj cl Qh t r z s ms=true:=by
 unfold alwA;rw[f,QL];unfold faF at e;exact List.find?_some e
theorem rS{h w g:Int}{Qj:List RR}{cl:List Int}{ks:List TK}{t:TK}{r z:Int}{n:Nat}{m0:List Int}(g0:1<=g)(g6:g<=6)(tk:t∈ks)(hn:n=(h*w).toNat)(f:∀ s,1<=s->s<=g->formB h w g Qj t r z s=true):
  ∀(ss:List Int) (nb:List Int × List Tho),ss.Nodup->(∀ s∈ss,(1<=s/\s<=g)/\stB (nb.1.getD z.toNat 0) s=true)->MkP g n nb.1->(∀ k,k<n->(k:Int)≠z->nb.1.getD k 0≠0)->Wlk h w g Qj cl ks m0 nb.2 nb.1->
  Wlk h w g Qj cl ks m0 (ss.foldl (fbS h w g Qj cl t r z) nb).2 (ss.foldl (fbS h w g Qj cl t r z) nb).1/\MkP g n (ss.foldl (fbS h w g Qj cl t r z) nb).1
 | [],nb,_,_,M,_,W=>⟨W,M⟩
 | s::ss,nb,nd,hs,M,nz,W=>by
  have p64:=l0 g0 g6;have h1:=hs s QK;have zf:=gu (f 1 (by decide) g0);have ml:=M.len;have mz:=M.mm _ (i4 (k:=z.toNat) (ms:=nb.1) (by omega));rw[RA] at nd;rw[R8]
  have no0:(0:Int)∉nb.1:=fun h0=>by
   obtain⟨k,hk,e⟩:=RW.mp h0;have ek:nb.1.getD k 0=0:=by rw[List.getD,Qv hk,e];rfl
   by_cases kz:(k:Int)=z
   . have:z.toNat=k:=by omega
     rw[this,ek,E2] at h1;cases h1.2
   . exact nz k (by omega) kz ek
  have hst:=xB (s:=s) mz.1 (by omega) h1.1.1 (by omega)
  cases e:faF h w g Qj cl nb.1 t r z s with
  | none=>
   have e2:fbS h w g Qj cl t r z nb s=nb:=by unfold fbS;rw[e]
   rw[e2];exact rS g0 g6 tk hn f ss nb nd.2 (fun x hx=>hs x (QH _ hx)) M nz W
  | some ms=>
   have e2:fbS h w g Qj cl t r z nb s=(stL nb.1 z s,nb.2++[⟨t,r,z,s,ms⟩]):=by unfold fbS;rw[e]
   rw[e2];refine rS g0 g6 tk hn f ss _ nd.2 (fun x hx=>?_) (M.stL g0 g6 h1.1.1 (by omega)) (fun k hk kz=>?_) ?_
   . have hx2:=hs x (QH _ hx);refine⟨hx2.1,?_⟩;show stB ((stL nb.1 z s).getD z.toNat 0) x=true;rw[Be (by omega),Q6 (by omega),hst.2.1 x hx2.1.1 (by omega) (fun e'=>nd.1 (e' ▸ hx))];exact hx2.2
   . show(stL nb.1 z s).getD k 0≠0;rw[Be (by omega),QT kz];exact nz k hk kz
   . exact W.snoc (th:=⟨t,r,z,s,ms⟩) ⟨no0,tk,⟨zf.1,zf.2.1⟩,h1.1,h1.2,Ek (f s h1.1.1 h1.1.2) e⟩
theorem xE{h w g:Int}{Qj:List RR}{cl:List Int}{ks:List TK}{t:TK}{r:Int}{n:Nat}{m0:List Int}(g0:1<=g)(g6:g<=6)(tk:t∈ks)(hn:n=(h*w).toNat):
  ∀(zs:List Int) (nb:List Int × List Tho),(∀ z∈zs,∀ s,1<=s->s<=g->formB h w g Qj t r z s=true)->0∉nb.1->MkP g n nb.1->Wlk h w g Qj cl ks m0 nb.2 nb.1->∃ m',Wlk h w g Qj cl ks m0 (fbL h w g Qj cl t r zs nb) m'
 | [],nb,_,_,_,W=>⟨_,W⟩
 | z::zs,nb,f,h0,M,W=>by
  have zf:=gu (f z QK 1 (by decide) g0);have ml:=M.len;have p64:=l0 g0 g6;have mz:=M.mm _ (i4 (k:=z.toNat) (ms:=nb.1) (by omega));have c:=rS (cl:=cl) g0 g6 tk hn (f z QK) (sgL (nb.1.getD z.toNat 0)) nb (Ec _) (fun s hs=>⟨Bd g0 g6 mz.1 mz.2 hs,(C7 mz.1 s).mp hs⟩) M (fun k hk _ e=>h0 (by rw[← e];exact i4 (by omega))) W;unfold fbL
  split
  . exact⟨_,c.1⟩
  . rename_i hn0
    exact xE g0 g6 tk hn zs _ (fun z hz=>f z (QH _ hz)) hn0 c.2 c.1
theorem xG{c:RCl RK}{h w g:Int}{Qj:List RR}{cl:List Int}{ks:List TK}{t:TK}{Qh:List Int}(R:ib c h w g Qj)(tk:t∈ks)(M:MkP g (h*w).toNat Qh)(h0:0∉Qh):∀ rs:List Int,(∀ r∈rs,RuOk Qj t r)->∃ m',Wlk h w g Qj cl ks Qh (ffR h w g Qj cl Qh t rs) m'
 | [],_=>⟨_,rfl⟩
 | r::rs,ok=>by
  unfold ffR
  split
  . exact xG R tk M h0 rs fun r hr=>ok r (QH _ hr)
  . exact xE R.F.g0 R.F.g1 tk rfl _ (Qh,[]) (fun z hz s s0 s1=>xC R (ok r QK) hz s0 s1) h0 M rfl
theorem B6(R:ib c h w g Qj)(M:MkP g (h*w).toNat Qh)(h0:0∉Qh):∃ m',Wlk h w g Qj cl ks Qh (ffF h w g Qj cl Qh ks) m':=by
 have go:∀ ts:List TK,(∀ t∈ts,t∈ks)->∃ m',Wlk h w g Qj cl ks Qh (ffT h w g Qj cl Qh ts) m':=fun ts=>by
  induction ts with
  | nil=>exact fun _=>⟨_,rfl⟩
  | cons t ts ih=>
   intro ht;unfold ffT
   split
   . exact ih fun t h=>ht t (QH _ h)
   . exact xG R (ht t QK) M h0 _ fun r hr=>Cj hr
 exact go _ fun t ht=>QU (QW.mp ht).2
def btA(ms:List Int):Nat:=(ms.map fun m=>(sgL m).length).sum
theorem xH(f:Int->Nat):∀(ms:List Int) (k:Nat) (x:Int),k<ms.length->((ms.set k x).map f).sum+f (ms.getD k 0)=(ms.map f).sum+f x
 | [],_,_,h=>by simp at h
 | m::r,0,x,_=>by simp;omega
 | m::r,k+1,x,h=>by
  have ih:=xH f r k x (by simpa using h);simp only[List.set_cons_succ,Rc,TZ,List.getD_cons_succ];omega
theorem za(z0:0<=z):stL ms z s=ms.set z.toNat (woI (ms.getD z.toNat 0) s):=by
 refine RZ fun i=>?_;unfold stL;rw[QD,List.getElem?_set];by_cases hi:i<ms.length
 . rw[RG hi];show some (if (i:Int)=z then woI (ms.getD i 0) s else ms.getD i 0)=_;by_cases e:z.toNat=i
   . rw[Q6 (by omega),Q6 e,Q6 (by omega),e]
   . rw[QT (by omega),QT e,List.getD,Qv hi];rfl
 . rw[Q7 (by rw[RH];omega)]
   split
   . rw[QT (by omega)];rfl
   . rw[Q7 (by omega)];rfl
theorem OkT.bits{m:List Int}(X:OkT h w g Qj cl ks m th)(M:MkP g (h*w).toNat m)(g0:1<=g)(g6:g<=6):btA (stL m th.z th.s)+1=btA m:=by
 obtain⟨_,_,z,s,st,_⟩:=X;have p64:=l0 g0 g6;have ml:=M.len;have mz:=M.mm _ (i4 (k:=th.z.toNat) (ms:=m) (by omega));have a:=(xB (s:=th.s) mz.1 (by omega) s.1 (by omega)).2.2 st;have b:=xH (fun m=>(sgL m).length) m th.z.toNat (woI (m.getD th.z.toNat 0) th.s) (by omega);unfold btA;rw[za z.1]
 try dsimp only at b
 omega
abbrev runA(m:List Int)(Qp:List Tho):List Int:=Qp.foldl (fun m th=>stL m th.z th.s) m
theorem Wlk.run{h w g:Int}{Qj:List RR}{cl:List Int}{ks:List TK}:∀{a:List Tho} {m m':List Int},Wlk h w g Qj cl ks m a m'->m'=runA m a
 | [],_,_,h=>(show _=_ from h).symm
 | th::r,m,m',h=>Wlk.run (a:=r) h.2
theorem Wlk.pre{h w g:Int}{Qj:List RR}{cl:List Int}{ks:List TK}:∀{a b:List Tho} {m m':List Int},Wlk h w g Qj cl ks m (a++b) m'->Wlk h w g Qj cl ks m a (runA m a)/\Wlk h w g Qj cl ks (runA m a) b m'
 | [],_,_,_,h=>⟨rfl,h⟩
 | th::r,b,m,m',h=>⟨⟨h.1,(Wlk.pre (a:=r) h.2).1⟩,(Wlk.pre (a:=r) h.2).2⟩
theorem Wlk.okM{h w g:Int}{Qj:List RR}{cl:List Int}{ks:List TK}(g0:1<=g)(g6:g<=6):∀{a:List Tho} {m m':List Int},Wlk h w g Qj cl ks m a m'->MkP g (h*w).toNat m->MkP g (h*w).toNat m'/\btA m'+a.length=btA m
 | [],_,_,h,M=>by cases (show _=_ from h);exact⟨M,by simp⟩
 | th::r,m,m',h,M=>by
  have s:=h.1.2.2.2.1;have b:=h.1.bits M g0 g6;have:=Wlk.okM g0 g6 (a:=r) h.2 (M.stL g0 g6 s.1 (by omega));refine⟨this.1,?_⟩;rw[Rj];omega
theorem Bi(g0:1<=g)(g6:g<=6)(M:MkP g n ms)(hn:n<=16):btA ms<=96:=by
 have p64:=l0 g0 g6
 have go:∀ xs:List Int,(∀ m∈xs,0<=m/\m<64)->btA xs<=6*xs.length:=fun xs=>by
  induction xs with
  | nil=>exact fun _=>QR _
  | cons x r ih=>
   intro hx;have a:=ih fun m hm=>hx m (QH _ hm);have b:=hx x QK;have c:=xD b.1 b.2;unfold btA at a ⊢;rw[Rc,TZ,Rj];omega
 have:=go ms fun m hm=>by have:=M.mm m hm;omega
 have:=M.len;omega
theorem IsBk.keep{x:Addr}{bs:List Addr}{xs ys:List V}(X:IsBk H l bs Ms Qp)(hx:H x=some (.lst xs))(nl:l≠x)(nM:x∉Ms):IsBk (upd H x (.lst ys)) l bs Ms Qp:=
 ⟨by rw[ao nl];exact X.top,X.len,X.lnM,X.nl,fun i b M th h1 h2 h3=>by
  have z:=X.at_ i b M th h1 h2 h3;have nM':M≠x:=fun e=>nM (by rw[← e];exact QC h2);exact⟨by rw[ao (fun e=>by have:=z.T;rw[e,hx] at this;cases this)];exact z.T,by rw[ao nM'];exact z.M,z.n⟩⟩
def ThkP(Q:VK)(H:Hp)(h w g:Int)(Qj:List RR)(cl Qh:List Int)(ks:List TK):Prop:=∀(T N B:Addr) (bs Ms:List Addr) (now:List Int) (Qp:List Tho) (H':Hp),Same H H'->H T=none->H N=none->H B=none->(∀ b∈bs,H b=none)->(∀ M∈Ms,H M=none)->H' T=some (.tup [.ref N,.ref B])->H' N=some (.lst (now.map V.int))->IsBk H' B bs Ms Qp->N≠B->Wlk h w g Qj cl ks Qh Qp now->(0∈now\/ffF h w g Qj cl now ks=[])->Q (.ref T) H'
def kx(K:Frag)(c:RCl RK)(d:RCl PzK):Sp:=fun vs H Q _=>∃(P L G A Kd:Addr) (h w g:Int) (Qj:List RR) (cl Qh:List Int) (ks:List TK),vs=[.ref P,.ref A,.ref Kd]/\Lk H c d P L G A h w g Qj cl Qh/\KdL H Kd ks/\ThkP Q H h w g Qj cl Qh ks
def thin(K:Frag)(c:RCl RK)(d:RCl PzK):TS:=
 (tFor (iList K (tVar 5)) (gName 6)
  (tSeq (tDrop (tBM K "list" b7 (tVar 4) (tCons (tVar 6) tNil)))
  (tAsg (tCall (gD K) [] E0 (tCons (tVar 3) (tCons (tOp cIx (tVar 6) (tC (.int 2))) (tCons (tOp cIx (tVar 6) (tC (.int 3))) tNil)))) (gName 3))))
def rT(K:Frag)(c:RCl RK)(d:RCl PzK):TS:=
 (tSeq (tAsg (tCB kList (tCons (tVar 1) tNil)) (gName 3))
  (tSeq (tAsg (tLst tNil) (gName 4))
  (tSeq (wt (tNot (tB (tCall (bC K) [] E0 (tCons (tVar 3) tNil))))
  (tSeq (tAsg (tCall (cg K c d) [] E0 (tCons (tVar 0) (tCons (tVar 3) (tCons (tVar 2) tNil)))) (gName 5))
  (tSeq (tIfS (tTest (tOp (cEq K) (tVar 5) (tLst tNil))) (tRet (tTup (tCons (tVar 3) (tCons (tVar 4) tNil)))) tNext)
  (thin K c d))))
  (tRet (tTup (tCons (tVar 3) (tCons (tVar 4) tNil)))))))
theorem Dh {F:Addr} {bs bs2 Ms2:List Addr} {Qp m':_} {v6:Option V} (X:Fb H0 H c d P L G N B bs Ms h w g Qj cl nb) (fN:H0 N=none) (Y:IsBk H F bs2 Ms2 Qp) (nF:F≠B) (nM:B∉Ms2) (fb2:∀ b∈bs2,H0 b=none) (fM2:∀ M∈Ms2,H0 M=none) (W:Wlk h w g Qj cl ks nb.1 Qp m') (bl:nb.2.length+Qp.length<=96)
  (k:∀(N2:Addr) (v6:Option V) (H':Hp),Fb H0 H' c d P L G N2 B (bs++bs2) (Ms++Ms2) h w g Qj cl (m',nb.2++Qp)->H0 N2=none->D.nx [some (.ref P),v1,v2,some (.ref N2),some (.ref B),some (.ref F),v6] H'):
  thin K c d D [some (.ref P),v1,v2,some (.ref N),some (.ref B),some (.ref F),v6] H:=by
 have g0:=X.pz.R.F.g0;have g6:=X.pz.R.F.g1;have m16:=X.pz.R.F.m;have l1:=Y.len;have l2:=Y.lnM;unfold thin;symm;refine⟨⟨_,QI Y.top⟩,?_⟩
 refine bx (K:=K) (xs:=bs2.map V.ref) (fun i σ H'=>∃(N2:Addr) (v6:Option V),σ=[some (.ref P),v1,v2,some (.ref N2),some (.ref B),some (.ref F),v6]/\Fb H0 H' c d P L G N2 B (bs++bs2.take i) (Ms++Ms2.take i) h w g Qj cl (runA nb.1 (Qp.take i),nb.2++Qp.take i)/\H0 N2=none/\IsBk H' F bs2 Ms2 Qp)
  ⟨N,_,rfl,by simpa using X,fN,Y⟩ (fun i σ H' _ ⟨_,_,_,_,_,y⟩=>QI y.top) ?_ ?_
 . rintro i v σ H1 hv ⟨N2,v6,rfl,X1,fN2,Y1⟩;obtain⟨b,hb,rfl⟩:=bA hv;have hi:i<bs2.length:=(Qz.mp hb).1;have eM:Ms2[i]? =some Ms2[i]:=Qv (by omega);have et:Qp[i]? =some Qp[i]:=Qv (by omega);have Th:=Y1.at_ i b _ _ hb eM et;have hMm:Ms2[i]∈Ms2:=QX _;have tb:bs2.take (i+1)=bs2.take i++[b]:=by rw[RI,hb];rfl
   have tM:Ms2.take (i+1)=Ms2.take i++[Ms2[i]]:=by rw[RI,eM];rfl
   have tt:Qp.take (i+1)=Qp.take i++[Qp[i]]:=by rw[RI,et];rfl
   have W1:Wlk h w g Qj cl ks nb.1 (Qp.take i++Qp.drop i) m':=by rw[SG];exact W
   have W2:=W1.pre.2;rw[RN (show i<Qp.length by omega)] at W2;have ok:=W2.1;have M1:=X1.mp;dsimp only at M1;have tl:(Qp.take i).length<=Qp.length:=by rw[RE];omega
   generalize hM:Ms2[i]=M at*;generalize hth:Qp[i]=th at*;rw[tb,tM,tt];have er:runA nb.1 (Qp.take i++[th])=stL (runA nb.1 (Qp.take i)) th.z th.s:=by unfold runA;rw[Sa];rfl
   rw[er];generalize runA nb.1 (Qp.take i)=nw at*;have MB:M≠B:=fun e=>nM (e ▸ hMm);have bkl:=X1.bk.len;rw[Q8] at bkl;symm;refine⟨bj X1.bk.top,?_⟩;rw[gg X1.bk.top];refine⟨by rw[Qu,X1.bk.len,Q8];exact aD (by omega),?_⟩;have Bk:=X1.bk.app (th:=th) (Qy H1) Th MB;have s4:=X1.sm.own (o:=.lst ((bs++bs2.take i).map V.ref++[V.ref b])) X.fB;have n4:(upd H1 B (.lst ((bs++bs2.take i).map V.ref++[V.ref b]))) N2=some (.lst (nw.map V.int)):=by rw[ao X1.nB];exact X1.nw
   have Y4:=Y1.keep (ys:=(bs++bs2.take i).map V.ref++[V.ref b]) X1.bk.top nF nM;have Th4:=Y4.at_ i b M th hb (by rw[eM]) (by rw[et]);generalize upd H1 B (.lst ((bs++bs2.take i).map V.ref++[V.ref b]))=H4 at*;symm;refine ixT Th4.T (v:=V.int th.z) rfl ?_;symm;refine ixT Th4.T (v:=V.int th.s) rfl ?_;symm;have sb:=ok.2.2.2.1;refine⟨N2,nw,th.z,th.s,rfl,n4,by have:=M1.len;omega,by omega,fun N3 H5 s5 hN3 eN3=>?_⟩;refine⟨N3,_,rfl,⟨s4.trans s5,X.pz,eN3,M1.stL g0 g6 sb.1 (by omega),?_,fun e'=>?_,X.fB,fun x hx=>?_,fun x hx=>?_⟩,s4.free hN3,Y4.same s5⟩
   . have:=Bk.same s5;rw[RS,RS,RS] at this;exact this
   . rw[e',Bk.top] at hN3;cases hN3
   . rw[← RS] at hx;rcases QZ.mp hx with hx | hx
     . exact X1.fb x hx
     . rw[QF.mp hx];exact fb2 b (QC hb)
   . rw[← RS] at hx;rcases QZ.mp hx with hx | hx
     . exact X1.fM x hx
     . rw[QF.mp hx];exact fM2 M hMm
 . rintro σ H1 ⟨N2,v6,rfl,X1,fN2,Y1⟩;rw[Qu,RB,show bs2.length=Ms2.length by omega,RB,show Ms2.length=Qp.length by omega,RB] at X1;rw[← W.run] at X1;exact k N2 v6 H1 X1 fN2
theorem B7(h:kx K c d vs H Q E):rT K c d (eD9 Q) (start ["puzzle","masks","kinds","now","book","found","thought"] vs) H:=by
 obtain⟨P,L,G,A,Kd,h,w,g,Qj,cl,Qh,ks,rfl,X,hK,q⟩:=h;have g0:=X.P.R.F.g0;have g6:=X.P.R.F.g1;have m16:=X.P.R.F.m;have b96:=Bi g0 g6 X.mkp (by omega);show rT K c d _ [some (.ref P),some (.ref A),some (.ref Kd),none,none,none,none] H;unfold rT;symm;refine kZ X.A fun N hN=>?_;obtain⟨H1,z9,s1,eN⟩:=aY (.lst (Qh.map V.int)) hN;rw[z9];symm;refine⟨aT (by decide),fun B hB=>?_⟩;have s2:Same H1 (upd H1 B (.lst [])):=(Qy H1).laid hB;have eB:(upd H1 B (.lst [])) B=some (.lst []):=ah;have nNB:N≠B:=fun e=>by rw[e] at eN;rw[eN] at hB;cases hB
 generalize upd H1 B (.lst [])=H2 at*;have s12:=s1.trans s2;have X0:Fb H H2 c d P L G N B [] [] h w g Qj cl (Qh,[]):=⟨s12,X.P,s2 _ _ eN,X.mkp,IsBk.nil eB,nNB,s1.free hB,(fun b hb=>by cases hb),(fun b hb=>by cases hb)⟩
 refine⟨fun m σ H'=>∃(N:Addr) (bs Ms:List Addr) (v5 v6:Option V) (nb:List Int × List Tho),σ=[some (.ref P),some (.ref A),some (.ref Kd),some (.ref N),some (.ref B),v5,v6]/\Fb H H' c d P L G N B bs Ms h w g Qj cl nb/\H N=none/\Wlk h w g Qj cl ks Qh nb.2 nb.1/\m=btA nb.1,
  ⟨_,N,[],[],none,none,(Qh,[]),rfl,X0,hN,rfl,rfl⟩,?_⟩
 rintro m σ H3 ⟨N2,bs,Ms,v5,v6,nb,rfl,X3,fN,W,rfl⟩
 have ret:∀(H4:Hp),Same H3 H4->(0∈nb.1\/ffF h w g Qj cl nb.1 ks=[])->([V.ref N2,V.ref B]:List V).length<=sizeLine/\∀ p,H4 p=none->Q (.ref p) (upd H4 p (.tup [V.ref N2,V.ref B])):=fun H4 s4 hend=>by
  have X4:=X3.same s4;refine⟨lnR rfl,fun T hT=>?_⟩;have s5:Same H4 (upd H4 T (.tup [V.ref N2,V.ref B])):=(Qy H4).laid hT;exact q T N2 B bs Ms nb.1 nb.2 _ (X4.sm.trans s5) (X4.sm.free hT) fN X3.fB X3.fb X3.fM ah (s5 _ _ X4.nw) (X4.bk.same s5) X3.nB W hend
 have ob:=W.okM g0 g6 X.mkp;symm;refine⟨N2,nb.1,rfl,X3.nw,?_⟩;by_cases h0:(0:Int)∈nb.1
 . rw[QA h0];refine⟨true,rfl,iteF ?_⟩;symm;exact ret H3 (Qy _) (.inl h0)
 . rw[Qx h0];refine⟨false,rfl,iteT ?_⟩
   refine⟨fun σ H'=>∃(N:Addr) (bs Ms:List Addr) (v5 v6:Option V) (nb2:List Int × List Tho),σ=[some (.ref P),some (.ref A),some (.ref Kd),some (.ref N),some (.ref B),v5,v6]/\Fb H H' c d P L G N B bs Ms h w g Qj cl nb2/\H N=none/\Wlk h w g Qj cl ks Qh nb2.2 nb2.1/\btA nb2.1<btA nb.1,
    fun σ' H' ⟨N',bs',Ms',v5',v6',nb',e,X',fN',W',lt⟩=>⟨_,lt,N',bs',Ms',v5',v6',nb',e,X',fN',W',rfl⟩,?_⟩
   symm;refine⟨P,L,G,N2,Kd,h,w,g,Qj,cl,nb.1,ks,rfl,X3.lk,X3.sm _ _ hK,fun F bs2 Ms2 H4 s4 hF hb2 hM2 Y=>?_⟩;obtain⟨m',W2⟩:=B6 (cl:=cl) (ks:=ks) X.P.R X3.mp h0;symm;rw[aA];symm;refine⟨aT (by decide),fun E hE=>?_⟩;obtain⟨H5,z9,s5,eE⟩:=aY (.lst []) hE;rw[z9];have s45:=s4.trans s5;refine Ej (Y.same s5) eE ?_;by_cases hl:(ffF h w g Qj cl nb.1 ks).length=0
   . rw[QA hl];refine⟨_,rfl,iteT ?_⟩;symm;exact ret H5 s45 (.inr (List.length_eq_zero_iff.mp hl))
   . rw[Qx hl];refine⟨_,rfl,iteF ?_⟩;have ob2:=W2.okM g0 g6 X3.mp;have X5:=X3.same s45;have nF:F≠B:=fun e=>by rw[e,X3.bk.top] at hF;cases hF
     have nM:B∉Ms2:=fun hm=>by have:=hM2 B hm;rw[X3.bk.top] at this;cases this
     refine Dh X5 fN (Y.same s5) nF nM (fun b hb=>X3.sm.free (hb2 b hb)) (fun M hM=>X3.sm.free (hM2 M hM)) W2 (by omega) fun N3 v6 H6 X6 fN3=>?_;exact⟨N3,_,_,_,_,_,rfl,X6,fN3,W.trans W2,by show btA m'<btA nb.1;omega⟩
def b5(K:Frag):Sp:=fun vs H Q _=>∃(num many:Int),vs=[.int num,.int many]/\0<=many/\many<=16/\
 ∀(l:Addr) (H':Hp) (cs:List Nat),Same H H'->H l=none->H' l=some (.lst (nsV cs))->cs.Nodup->(∀ c∈cs,(c:Int)<many)->(cs.length:Int)=many->Q (.ref l) H'
def jX(K:Frag):TS:=
 (tSeq (tAsg (k6 (tCons (tVar 1) tNil)) (gName 2))
  (tSeq (tAsg (tLst tNil) (gName 3))
  (tSeq (tFor (jj (tCons (tVar 1) tNil)) (gName 4)
  (tDrop (tBM K "list" b7 (tVar 3) (tCons (tBM K "list" sZ (tVar 2) (tCons (tOp cMod (tOp cDiv (tVar 0) (tOp cAdd (tVar 4) (tC (.int 2)))) (tCB kLen (tCons (tVar 2) tNil))) tNil)) tNil))))
  (tRet (tVar 3)))))
theorem t5(h:b5 K vs H Q E):jX K (eD9 Q) (start ["_law_number","_law_many","_law_left","_law_found","_law_k"] vs) H:=by
 obtain⟨num,many,rfl,c0,m1,q⟩:=h;show jX K _ [some (.int num),some (.int many),none,none,none] H;unfold jX;symm;refine⟨many,rfl,by omega,by omega,fun L hL=>?_⟩;obtain⟨H1,z9,s1,eL⟩:=aY (.lst ((rngL 0 many).map V.int)) hL;rw[z9];symm;refine⟨aT (by decide),fun R hR=>?_⟩;have nRL:R≠L:=fun e=>by rw[e,eL] at hR;cases hR
 refine⟨many,rfl,by omega,by omega,?_⟩
 refine m4 (fun i σ H'=>∃(kv:Option V) (fs ls:List Int),σ=[some (.int num),some (.int many),some (.ref L),some (.ref R),kv]/\Same H H'/\H' L=some (.lst (ls.map V.int))/\H' R=some (.lst (fs.map V.int))/\(fs++ls).Perm (rngL 0 many)/\fs.length=i)
  ⟨none,[],rngL 0 many,rfl,s1.laid hR,by rw[ao nRL.symm];exact eL,by rw[ah];rfl,List.Perm.refl _,rfl⟩ ?_ ?_
 . rintro i σ H2 hi ⟨kv,fs,ls,rfl,s2,e1,e2,hp,hl⟩;have Qq:=hp.length_eq;rw[Q8,kg] at Qq;symm;refine⟨bj e2,bj e1,⟨by omega,by omega⟩,?_⟩;rw[bt e1,Qu];have hpos:0 < (ls.length:Int):=by omega
   generalize num / (0+(i:Int)+2)=y at*;have j0:=Rq y (Int.ne_of_gt hpos);have j1:=Ri y hpos;refine⟨hpos,?_⟩;generalize y % (ls.length:Int)=j at*;have hj:j.toNat<ls.length:=by omega
   refine CM e1 j0 (by rw[Qu];omega) (y:=V.int ls[j.toNat]) (by rw[QD,Qv hj];rfl) ?_;have e2':(upd H2 L (.lst ((ls.map V.int).eraseIdx j.toNat))) R=some (.lst (fs.map V.int)):=by rw[ao nRL];exact e2
   symm;rw[gg e2'];refine⟨by rw[Qu];exact aD (by omega),_,fs++[ls[j.toNat]],ls.eraseIdx j.toNat,rfl,(s2.own hL).own (s1.free hR),?_,?_,?_,by simp[hl]⟩
   . rw[ao nRL.symm,ah,vB]
   . rw[ah];simp
   . have p1:=tw ls j.toNat hj;have p2:=List.Perm.append_left fs p1;refine List.Perm.trans ?_ hp;rw[RS];exact p2
 . rintro σ H2 ⟨kv,fs,ls,rfl,s2,e1,e2,hp,hl⟩;symm;have hnd:(fs++ls).Nodup:=hp.nodup_iff.mpr (AS many);have hm:∀ x∈fs,0<=x/\x<many:=fun x hx=>uL (hp.mem_iff.mp (QZ.mpr (.inl hx)))
   have ef:(fs.map Int.toNat).map (fun(n:Nat)=>(n:Int))=fs:=by
    rw[Re]
    conv=>rhs;rw[← List.map_id fs]
    exact S1 fun x hx=>by have:=hm x hx;show((x.toNat:Nat):Int)=x;omega
   refine q R H2 (fs.map Int.toNat) s2 (s1.free hR) (by unfold nsV;rw[ef];exact e2) ?_ ?_ ?_
   . have h1:=(Sj.mp hnd).1;rw[← ef] at h1;exact pT _ h1
   . intro c hc;obtain⟨x,hx,rfl⟩:=QS.mp hc;have:=hm x hx;omega
   . rw[Qu,hl];omega
theorem Bj{s:Str}{ws:List Str}(h:H p=some (.tup (ws.map V.str))):cIn K false (.str s) (.ref p) H Q=Q (.bl (decide (s∈ws))) H:=by
 unfold cIn;dsimp only;rw[h];dsimp only[unD,unS,bnd];rw[iP,gj];simp[flatV]
theorem EM(k:RK):decide (tx (nmC k)∈[tx [106,111,105,110,101,100],tx [114,105,110,103],tx [110,111,115,113,117,97,114,101]])=allK k:=by cases k <;> decide+kernel
def unrK(k:RK):Bool:=decide (k=.Unlike)||decide (k=.Rising)
theorem EN(k:RK):decide (tx (nmC k)∈[tx [117,110,108,105,107,101],tx [114,105,115,105,110,103]])=unrK k:=by cases k <;> decide+kernel
theorem EO(k:RK):decide (tx (nmC k)=tx [115,117,109])=decide (k=.Sum):=by cases k <;> decide+kernel
theorem Bl(k:RK):decide (tx (nmC k)=tx [115,101,101,110])=decide (k=.Seen):=by cases k <;> decide+kernel
theorem zO(k:RK):decide (tx (nmC k)=tx [99,111,117,110,116])=decide (k=.Count):=by cases k <;> decide+kernel
theorem zc(k:RK):(nmC k).length<=20:=by cases k <;> decide
theorem toSA{i:Int}(h0:0<=i)(h1:i<100):Str.ofString (toString i)=tx (numC i.toNat)/\i.natAbs.log2<1920:=by
 have e:i=((i.toNat:Nat):Int):=by omega
 have a:=yR (n:=i.toNat) (by omega);have b:=yT (n:=i.toNat) (by omega);rw[← e] at a b;exact⟨a,b⟩
def ks51:List RK:=[.Unlike,.Count,.Joined,.Sum,.Ring,.Rising,.Unlike,.Seen,.NoSquare,.Count]
theorem Di{i:Int}(h0:0<=i)(h1:i<10):∃ k:RK,k≠.Rule/\atI (ks51.map fun k=>V.str (tx (nmC k))) i=some (V.str (tx (nmC k))):=by
 have e:i=0\/i=1\/i=2\/i=3\/i=4\/i=5\/i=6\/i=7\/i=8\/i=9:=by omega
 rcases e with rfl | rfl | rfl | rfl | rfl | rfl | rfl | rfl | rfl | rfl
 . exact⟨.Unlike,by decide,rfl⟩
 . exact⟨.Count,by decide,rfl⟩
 . exact⟨.Joined,by decide,rfl⟩
 . exact⟨.Sum,by decide,rfl⟩
 . exact⟨.Ring,by decide,rfl⟩
 . exact⟨.Rising,by decide,rfl⟩
 . exact⟨.Unlike,by decide,rfl⟩
 . exact⟨.Seen,by decide,rfl⟩
 . exact⟨.NoSquare,by decide,rfl⟩
 . exact⟨.Count,by decide,rfl⟩
def fG(K:Frag):Sp:=fun vs H Q _=>∃(y h w g:Int),vs=[.int y,.int (h*w),.int g]/\0<=y/\FlOk h w g/\1<=h*w/\∀(r:RR) (H':Hp),Same H H'->r.Ok h w g->Q (.str r.txt) H'
def eP(K:Frag):TS:=
 (tRet (tBM K "str" pS (tC (.str (tx [32]))) (tCons (tOp cAdd (tLst (tCons (tVar 3) tNil)) (tComp [none,none] (iList K (tOp cAdd (tVar 5) (tVar 4))) (gName 1) tTrue (tCB kStr (tCons (tVar 1) tNil)))) tNil)))
def i6(K:Frag):TS:=
 (tSeq (tIfS (tTest (tOp (cEq K) (tVar 3) (tC (.str (tx [115,117,109]))))) (tAsg (tLst (tCons (tOp cAdd (tCB kLen (tCons (tVar 4) tNil)) (tOp cMod (tOp cDiv (tVar 0) (tC (.int 70))) (tOp cAdd (tOp cMul (tC (.int 2)) (tCB kLen (tCons (tVar 4) tNil))) (tC (.int 1))))) tNil)) (gName 5)) tNext)
  (tSeq (tIfS (tTest (tOp (cEq K) (tVar 3) (tC (.str (tx [115,101,101,110]))))) (tAsg (tLst (tCons (tOp cAdd (tC (.int 1)) (tOp cMod (tOp cDiv (tVar 0) (tC (.int 70))) (tC (.int 2)))) tNil)) (gName 5)) tNext)
  (tSeq (tIfS (tTest (tOp (cEq K) (tVar 3) (tC (.str (tx [99,111,117,110,116]))))) (tAsg (tLst (tCons (tOp cMod (tOp cDiv (tVar 0) (tC (.int 70))) (tOp cAdd (tCB kLen (tCons (tVar 4) tNil)) (tC (.int 1)))) (tCons (tOp cAdd (tC (.int 1)) (tOp cMod (tOp cDiv (tVar 0) (tC (.int 30))) (tVar 2))) tNil))) (gName 5)) tNext)
  (eP K))))
def i7(K:Frag):TS:=
 (tSeq (tAsg (tLst tNil) (gName 5))
  (i6 K))
def mI(K:Frag):TS:=
 (tSeq (tAsg (tSl ln (tCall (b5 K) [] E0 (tCons (tOp cDiv (tVar 0) (tC (.int 10))) (tCons (tVar 1) tNil))) gH (tPart (tOp cAdd (tC (.int 1)) (tOp cMod (tOp cDiv (tVar 0) (tC (.int 60))) (tVar 1))))) (gName 4))
  (tSeq (tIfS (tTest (tOp (cIn K false) (tVar 3) (tTup (tCons (tC (.str (tx [117,110,108,105,107,101]))) (tCons (tC (.str (tx [114,105,115,105,110,103]))) tNil))))) (tAsg (tSl ln (tVar 4) gH (tPart (tVar 2))) (gName 4)) tNext)
  (i7 K)))
def mJ(K:Frag):TS:=
 (tSeq (tIfS (tTest (tOp (cIn K false) (tVar 3) (tTup (tCons (tC (.str (tx [106,111,105,110,101,100]))) (tCons (tC (.str (tx [114,105,110,103]))) (tCons (tC (.str (tx [110,111,115,113,117,97,114,101]))) tNil)))))) (tRet (tOp cAdd (tOp cAdd (tVar 3) (tC (.str (tx [32])))) (tCB kStr (tCons (tOp cAdd (tC (.int 1)) (tOp cMod (tOp cDiv (tVar 0) (tC (.int 10))) (tVar 2))) tNil)))) tNext)
  (mI K))
def lI(K:Frag):TS:=
 (tSeq (tAsg (tOp cIx (tLst (tCons (tC (.str (tx [117,110,108,105,107,101]))) (tCons (tC (.str (tx [99,111,117,110,116]))) (tCons (tC (.str (tx [106,111,105,110,101,100]))) (tCons (tC (.str (tx [115,117,109]))) (tCons (tC (.str (tx [114,105,110,103]))) (tCons (tC (.str (tx [114,105,115,105,110,103]))) (tCons (tC (.str (tx [117,110,108,105,107,101]))) (tCons (tC (.str (tx [115,101,101,110]))) (tCons (tC (.str (tx [110,111,115,113,117,97,114,101]))) (tCons (tC (.str (tx [99,111,117,110,116]))) tNil))))))))))) (tOp cMod (tVar 0) (tC (.int 10)))) (gName 3))
  (mJ K))
variable{cs:List Nat}
theorem yu{k:RK}{O Nu:Addr}{nu:List Nat}(eO:H O=some (.lst (nsV cs)))(eN:H Nu=some (.lst (nsV nu)))(hc:∀ c∈cs,c<100)(hn:∀ c∈nu,c<100)(cl:cs.length<=16)(nl:nu.length<=2)(q:∀ H',Same H H'->Q (.str (tx (catL 32 (nmC k::(nu++cs).map numC)))) H'):
  eP K (eD9 Q) [v0,v1,v2,some (.str (tx (nmC k))),some (.ref O),some (.ref Nu)] H:=by
 unfold eP;symm;refine⟨Cc,lnR rfl,fun Wd hW=>?_⟩;obtain⟨H1,z9,s1,eW⟩:∃ z,upd H Wd (.lst [V.str (tx (nmC k))])=z/\Same H z/\z Wd=some (.lst ((([nmC k]:List (List Nat)).map tx).map V.str)):=aY _ hW;rw[z9];refine pR (s1 _ _ eN) (s1 _ _ eO) (by unfold nsV;simp;omega) fun Y hY=>?_;have s2:Same H1 (upd H1 Y (.lst (nsV nu++nsV cs))):=(Qy H1).laid hY;have eY:(upd H1 Y (.lst (nsV nu++nsV cs))) Y=some (.lst (((nu++cs).map fun(n:Nat)=>(n:Int)).map V.int)):=by rw[ah];unfold nsV;simp
 generalize upd H1 Y (.lst (nsV nu++nsV cs))=H2 at*;refine⟨Y,rfl,⟨_,QI eY⟩,?_⟩;refine AT eY (by simp;omega) (fun c h=>(QZ.mp h).elim (hn c) (hc c)) fun l H3 hl s3 el=>?_;symm;refine pR ((s2.trans s3) _ _ eW) el (by simp;omega) fun Z hZ=>?_;have s4:Same H3 (upd H3 Z (.lst ((([nmC k]:List (List Nat)).map tx).map V.str++(((nu++cs).map numC).map tx).map V.str))):=(Qy H3).laid hZ;have eZ:(upd H3 Z (.lst ((([nmC k]:List (List Nat)).map tx).map V.str++(((nu++cs).map numC).map tx).map V.str))) Z=some (.lst (((nmC k::(nu++cs).map numC).map tx).map V.str)):=by rw[ah];rfl
 generalize upd H3 Z (.lst ((([nmC k]:List (List Nat)).map tx).map V.str++(((nu++cs).map numC).map tx).map V.str))=H4 at*;have kl:=zc k
 refine CO eZ (wQ (by simp;omega) (fun t ht=>by
  obtain⟨z,hz,rfl⟩:=QS.mp ht;rw[gi];rcases QV.mp hz with rfl | hz
  . omega
  . obtain⟨x,_,rfl⟩:=QS.mp hz;exact QG qH (by decide)) (by rw[gi];decide)) ?_
 rw[BR,uE];exact q _ (((s1.trans s2).trans s3).trans s4)
theorem yw{k:RK}{O Nu:Addr}{y:Int}(y0:0<=y)(F:FlOk h w g)(eO:H O=some (.lst (nsV cs)))(eN:H Nu=some (.lst (nsV [])))(hne:cs≠[])(lt:∀ c∈cs,(c:Int)<h*w)(nd:cs.Nodup)(cl:cs.length<=16)(ha:allK k=false)(k0:k≠.Rule)(q:∀(r:RR) (H':Hp),Same H H'->r.Ok h w g->Q (.str r.txt) H'):
  i6 K (eD9 Q) [some (.int y),v1,some (.int g),some (.str (tx (nmC k))),some (.ref O),some (.ref Nu)] H:=by
 have g0:=F.g0;have g1:=F.g1;have m16:=F.m;have lt100:∀ c∈cs,c<100:=fun c hc=>by have:=lt c hc;omega
 have ol:(nsV cs).length=cs.length:=by unfold nsV;simp
 have fin:∀(n m:Nat) (nu:List Nat) (Nu2:Addr) (H1:Hp),Same H H1->H1 Nu2=some (.lst (nsV nu))->(∀ c∈nu,c<100)->nu.length<=2->n<=99->(numK k=false->n=0)->(sgnK k=true->1<=(m:Int)/\(m:Int)<=g)->(sgnK k=false->m=0)->nu.map numC=(if numK k then [numC n] else [])++(if sgnK k then [numC m] else [])->eP K (eD9 Q) [some (.int y),v1,some (.int g),some (.str (tx (nmC k))),some (.ref O),some (.ref Nu2)] H1:=fun n m nu Nu2 H1 s1 e1 hnu nl n9 nz m0 mz enu=>by
  refine yu (s1 _ _ eO) e1 lt100 hnu cl nl fun H' s'=>?_;have Ok:=zN (k:=k) (n:=n) (m:=m) F hne lt nd cl ha k0 n9 nz m0 mz
  have e:tx (catL 32 (nmC k::(nu++cs).map numC))=RR.txt ⟨k,n,m,cs,cs.map fun(n:Nat)=>(n:Int)⟩:=by
   show _=tx (catL 32 (rowW k n m cs));unfold rowW;rw[TQ,enu]
  rw[e];exact q _ H' (s1.trans s') Ok
 unfold i6;rw[aL,aA];symm;rw[EO];by_cases e1:k=.Sum
 . rw[QA e1];symm;rw[bt eO,ol];symm;refine⟨⟨by decide,by decide⟩,?_⟩;rw[bt eO,ol];symm;refine⟨.inl ⟨by omega,by omega⟩,by omega,lnR rfl,fun N hN=>?_⟩;have b0:=Rq (y/70) (show 2*(cs.length:Int)+1≠0 by omega);have b1:=Ri (y/70) (show 0<2*(cs.length:Int)+1 by omega);generalize y/70 % (2*(cs.length:Int)+1)=x at*;have s1:Same H (upd H N (.lst [V.int ((cs.length:Int)+x)])):=(Qy H).laid hN
   have eN2:(upd H N (.lst [V.int ((cs.length:Int)+x)])) N=some (.lst (nsV [((cs.length:Int)+x).toNat])):=by
    rw[ah];show _=some (HO.lst [V.int ((((cs.length:Int)+x).toNat:Nat):Int)]);rw[show((((cs.length:Int)+x).toNat:Nat):Int)=(cs.length:Int)+x by omega]
   generalize upd H N (.lst [V.int ((cs.length:Int)+x)])=H1 at*;rw[aA];symm;rw[Bl,e1,Qx (by decide)];symm;rw[aA];symm;have e9:=fin (((cs.length:Int)+x).toNat) 0 _ N H1 s1 eN2 (fun c hc=>by rw[QF.mp hc];omega) (by simp) (by omega) (fun e=>by rw[e1] at e;cases e) (fun e=>by rw[e1] at e;cases e) (fun _=>rfl) (by rw[e1];rfl);rw[e1] at e9;rw[zO,Qx (show ¬ RK.Sum=RK.Count by decide)];symm;exact e9
 . rw[Qx e1];symm;rw[aA];symm;rw[Bl];by_cases e2:k=.Seen
   . rw[QA e2];symm;refine⟨⟨by decide,by decide⟩,by decide,lnR rfl,fun N hN=>?_⟩;have b0:=Rq (y/70) (show(2:Int)≠0 by decide);have b1:=Ri (y/70) (show(0:Int)<2 by decide);generalize y/70%2=x at*;have s1:Same H (upd H N (.lst [V.int (1+x)])):=(Qy H).laid hN
     have eN2:(upd H N (.lst [V.int (1+x)])) N=some (.lst (nsV [(1+x).toNat])):=by
      rw[ah];show _=some (HO.lst [V.int (((1+x).toNat:Nat):Int)]);rw[show(((1+x).toNat:Nat):Int)=1+x by omega]
     generalize upd H N (.lst [V.int (1+x)])=H1 at*;rw[aA];symm;have e9:=fin ((1+x).toNat) 0 _ N H1 s1 eN2 (fun c hc=>by rw[QF.mp hc];omega) (by simp) (by omega) (fun e=>by rw[e2] at e;cases e) (fun e=>by rw[e2] at e;cases e) (fun _=>rfl) (by rw[e2];rfl);rw[e2] at e9;rw[zO,e2,Qx (show ¬ RK.Seen=RK.Count by decide)];symm;exact e9
   . rw[Qx e2];symm;rw[aA];symm;rw[zO];by_cases e3:k=.Count
     . rw[QA e3];symm;refine⟨⟨by decide,by decide⟩,?_⟩;rw[bt eO,ol];symm;refine⟨by omega,⟨by decide,by decide⟩,by omega,lnR rfl,fun N hN=>?_⟩;have b0:=Rq (y/70) (show(cs.length:Int)+1≠0 by omega);have b1:=Ri (y/70) (show 0 < (cs.length:Int)+1 by omega);have c0:=Rq (y/30) (show g≠0 by omega);have c1:=Ri (y/30) (show 0<g by omega);generalize y/70 % ((cs.length:Int)+1)=x at*;generalize y/30%g=z at*;have s1:Same H (upd H N (.lst [V.int x,V.int (1+z)])):=(Qy H).laid hN
       have eN2:(upd H N (.lst [V.int x,V.int (1+z)])) N=some (.lst (nsV [x.toNat,(1+z).toNat])):=by
        rw[ah];show _=some (HO.lst [V.int ((x.toNat:Nat):Int),V.int (((1+z).toNat:Nat):Int)]);rw[show((x.toNat:Nat):Int)=x by omega,show(((1+z).toNat:Nat):Int)=1+z by omega]
       generalize upd H N (.lst [V.int x,V.int (1+z)])=H1 at*
       exact fin x.toNat (1+z).toNat _ N H1 s1 eN2 (fun c hc=>by
        simp only[QV,R6,Tq] at hc;rcases hc with rfl | rfl <;> omega) (by simp) (by omega) (fun e=>by rw[e3] at e;cases e) (fun _=>by omega) (fun e=>by rw[e3] at e;cases e) (by rw[e3];rfl)
     . rw[Qx e3];symm;have hnk:numK k=false:=by revert e1 e2 e3;cases k <;> intro e1 e2 e3 <;> first | rfl | exact absurd rfl e1 | exact absurd rfl e2 | exact absurd rfl e3
       have hsk:sgnK k=false:=by revert ha e3;cases k <;> intro ha e3 <;> first | rfl | exact absurd rfl e3 | (cases ha;done)
       exact fin 0 0 [] Nu H (Qy _) eN (fun c hc=>by cases hc) (by simp) (by decide) (fun _=>rfl) (fun e=>by rw[hsk] at e;cases e) (fun _=>rfl) (by rw[hnk,hsk];rfl)
theorem rV(cs:List Nat)(k:Nat):(nsV cs).take k=nsV (cs.take k):=by unfold nsV;rw[SQ,SQ]
theorem vT(h:fG K vs H Q E):lI K (eD9 Q) (start ["_law_cell","_law_many","_law_signs","_law_word","_law_order_here","_law_numbers"] vs) H:=by
 obtain⟨y,h,w,g,rfl,y0,F,mp,q⟩:=h;have g0:=F.g0;have g1:=F.g1;have m16:=F.m;show lI K _ [some (.int y),some (.int (h*w)),some (.int g),none,none,none] H;unfold lI;symm;refine⟨lnR rfl,fun U hU=>?_⟩;have s1:Same H (upd H U (.lst (ks51.map fun k=>V.str (tx (nmC k))))):=(Qy H).laid hU;have eU:(upd H U (.lst (ks51.map fun k=>V.str (tx (nmC k))))) U=some (.lst (ks51.map fun k=>V.str (tx (nmC k)))):=ah;refine⟨by decide,?_⟩;show cIx (V.ref U) (V.int (y%10)) (upd H U (.lst (ks51.map fun k=>V.str (tx (nmC k))))) _;generalize upd H U (.lst (ks51.map fun k=>V.str (tx (nmC k))))=H1 at*;obtain⟨k,k0,ek⟩:=Di (i:=y%10) (Rq _ (by decide)) (Ri _ (by decide));refine ixL eU ek ?_;unfold mJ;rw[aL,aA];symm;refine⟨lnR rfl,fun T hT=>?_⟩;have s2:Same H1 (upd H1 T (.tup ([tx [106,111,105,110,101,100],tx [114,105,110,103],tx [110,111,115,113,117,97,114,101]].map V.str))):=(Qy H1).laid hT;have eT:(upd H1 T (.tup ([tx [106,111,105,110,101,100],tx [114,105,110,103],tx [110,111,115,113,117,97,114,101]].map V.str))) T=some (.tup ([tx [106,111,105,110,101,100],tx [114,105,110,103],tx [110,111,115,113,117,97,114,101]].map V.str)):=ah;show cIn K false (V.str (tx (nmC k))) (V.ref T) (upd H1 T (.tup ([tx [106,111,105,110,101,100],tx [114,105,110,103],tx [110,111,115,113,117,97,114,101]].map V.str))) _;generalize upd H1 T (.tup ([tx [106,111,105,110,101,100],tx [114,105,110,103],tx [110,111,115,113,117,97,114,101]].map V.str))=H2 at*;rw[Bj eT,EM];have s12:=s1.trans s2
 cases ha:allK k with
 | true=>
  have hs:sgnK k=true:=by revert ha;cases k <;> intro ha <;> first | rfl | (cases ha;done)
  have hk:numK k=false:=by revert ha;cases k <;> intro ha <;> first | rfl | (cases ha;done)
  have kl:=zc k;have b0:=Rq (y/10) (show g≠0 by omega);have b1:=Ri (y/10) (show 0<g by omega);refine⟨true,rfl,iteT ?_⟩;symm;have t:=toSA (i:=1+y/10%g) (by omega) (by omega);rw[t.1,sY,sY];have nl:=qH (n:=(1+y/10%g).toNat);refine⟨by rw[gi,gi];exact aT (by simp;omega),⟨by decide,by decide⟩,by omega,t.2,by rw[gi,gi];exact aT (by simp;omega),?_⟩
  have e:nmC k++[32]++numC (1+y/10%g).toNat=catL 32 (rowW k 0 (1+y/10%g).toNat []):=by
   unfold rowW;rw[hk,hs];show _=nmC k++32::numC (1+y/10%g).toNat;simp
  rw[e];exact q ⟨k,0,(1+y/10%g).toNat,[],rngL 0 (h*w)⟩ H2 s12 (AX ha k0 hk hs (by omega) (by omega))
 | false=>
  refine⟨false,rfl,iteF ?_⟩;unfold mI;symm;refine⟨⟨by decide,by decide⟩,?_⟩;refine⟨_,h*w,rfl,by omega,m16,fun O H3 cs s3 hO eO nd lt len=>?_⟩;have b0:=Rq (y/60) (show h*w≠0 by omega);have b1:=Ri (y/60) (show 0<h*w by omega);symm;refine⟨⟨by decide,by decide⟩,by omega,?_⟩;generalize y/60 % (h*w)=x at*;refine qE eO fun O2 hO2=>?_;rw[rJ _ (by omega),rV];obtain⟨H4,z9,s4,e4⟩:=aY (.lst (nsV (cs.take (1+x).toNat))) hO2;rw[z9];have tl:(cs.take (1+x).toNat).length=(1+x).toNat:=by rw[RE];omega
  have fin:∀(O3:Addr) (ds:List Nat) (H5:Hp),Same H H5->H5 O3=some (.lst (nsV ds))->ds≠[]->ds.Sublist cs->i7 K (eD9 Q) [some (.int y),some (.int (h*w)),some (.int g),some (.str (tx (nmC k))),some (.ref O3),none] H5:=fun O3 ds H5 s5 e5 ne sub=>by
   unfold i7;symm;refine⟨aT (by decide),fun N hN=>?_⟩;obtain⟨H6,z9,s6,e6⟩:∃ z,upd H5 N (.lst [])=z/\Same H5 z/\z N=some (.lst (nsV [])):=aY _ hN;rw[z9];have dl:=sub.length_le;exact yw y0 F (s6 _ _ e5) e6 ne (fun c hc=>lt c (sub.subset hc)) (nd.sublist sub) (by omega) ha k0 fun r H' s' ok=>q r H' ((s5.trans s6).trans s') ok
  have ne1:cs.take (1+x).toNat≠[]:=fun e=>by rw[e] at tl;simp at tl;omega
  have s14:=(s12.trans s3).trans s4;rw[aA];symm;refine⟨lnR rfl,fun T2 hT2=>?_⟩;have s5:Same H4 (upd H4 T2 (.tup ([tx [117,110,108,105,107,101],tx [114,105,115,105,110,103]].map V.str))):=(Qy H4).laid hT2;have eT2:(upd H4 T2 (.tup ([tx [117,110,108,105,107,101],tx [114,105,115,105,110,103]].map V.str))) T2=some (.tup ([tx [117,110,108,105,107,101],tx [114,105,115,105,110,103]].map V.str)):=ah;show cIn K false (V.str (tx (nmC k))) (V.ref T2) (upd H4 T2 (.tup ([tx [117,110,108,105,107,101],tx [114,105,115,105,110,103]].map V.str))) _;generalize upd H4 T2 (.tup ([tx [117,110,108,105,107,101],tx [114,105,115,105,110,103]].map V.str))=H5 at*;rw[Bj eT2,EN]
  cases hu:unrK k with
  | false=>
   refine⟨false,rfl,iteF ?_⟩;exact fin O2 _ H5 (s14.trans s5) (s5 _ _ e4) ne1 (Sx _ _)
  | true=>
   refine⟨true,rfl,iteT ?_⟩;symm;refine qE (s5 _ _ e4) fun O3 hO3=>?_;rw[rJ _ (by omega),rV];refine fin O3 _ _ ((s14.trans s5).trans ((Qy H5).laid hO3)) ah (fun e=>?_) ((Sx _ _).trans (Sx _ _));have:=congrArg List.length e;rw[RE,tl] at this;simp at this;omega
def uU(ns:List Int)(k:Int):Int:=if k < (ns.length:Int) then ns.getD k.toNat 0 else 0
def bm(K:Frag):Sp:=fun vs H Q _=>∃(a:Addr) (ns:List Int) (k:Int),vs=[.ref a,.int k]/\SqL K H a (ns.map V.int)/\ns.length<=63/\0<=k/\k<=1000/\Q (.int (uU ns k)) H
def mK(K:Frag):TS:=
 (tSeq (tIfS (tTest (tOp (cCmp fun i j=>decide (i<j)) (tVar 1) (tCB (kLenS K) (tCons (tVar 0) tNil)))) (tRet (tOp (rIxL K) (tVar 0) (tVar 1))) tNext)
  (tRet (tC (.int 0))))
theorem xI(h:bm K vs H Q E):mK K (eD9 Q) (start ["_law_script","_law_k"] vs) H:=by
 obtain⟨a,ns,k,rfl,hS,hn,k0,k1,q⟩:=h;show mK K _ [some (.ref a),some (.int k)] H;unfold mK;rw[aL,aA];symm;refine⟨a,_,rfl,.inl hS,?_⟩;symm;rw[Qu];unfold uU at q;by_cases hk:k < (ns.length:Int)
 . rw[Q6 hk] at q;rw[Q6 (QA hk)];exact⟨a,_,k,_,rfl,rfl,hS,rA k0 hk,q⟩
 . rw[QT hk] at q;rw[QT (by simpa using hk)];symm;exact q
def zP:List (Int × Int)->(St->Hp->(List V->Hp->Prop)->Prop)
 | []=>tNil
 | p::r=>tCons (tTup (tCons (tC (.int p.1)) (tCons (tC (.int p.2)) tNil))) (zP r)
theorem xJ{σ:St}:∀(ps:List (Int × Int)) (H:Hp) (Q:List V->Hp->Prop),(∀(as:List Addr) (H':Hp),Same H H'->as.length=ps.length->(∀(j:Nat) (a:Addr) (p:Int × Int),as[j]? =some a->ps[j]? =some p->H' a=some (.tup [.int p.1,.int p.2]))->Q (as.map V.ref) H')->zP ps σ H Q
 | [],H,Q,h=>h [] H (Qy H) rfl fun j a p e _=>by simp at e
 | p::r,H,Q,h=>by
  unfold zP;symm;refine⟨lnR rfl,fun t ht=>?_⟩;obtain⟨H1,z9,s1,et⟩:=aY (.tup [V.int p.1,V.int p.2]) ht;rw[z9];refine xJ r H1 _ fun as H2 s2 hl ha=>?_;refine h (t::as) H2 (s1.trans s2) (by simp[hl]) fun j a q e1 e2=>?_
  match j,e1,e2 with
  | 0,e1,e2=>
   simp at e1 e2;subst e1 e2;exact s2 _ _ et
  | j+1,e1,e2=>exact ha j a q (by simpa using e1) (by simpa using e2)
def c6(K:Frag)(c:RCl RK)(d:RCl PzK):Sp:=fun vs H Q _=>∃(a p:Addr) (ns:List Int) (n h w g:Int),vs=[.ref a,.ref p,.int n]/\SqL K H a (ns.map V.int)/\ns.length<=63/\IsFl H p h w g/\FlOk h w g/\0<=n/\n<=4/\(∀ k,k≠.Rule->c.ok k=true)/\d.ok .Puzzle=true/\∀(P L G:Addr) (Qj:List RR) (cl:List Int) (H':Hp),Same H H'->IsPz H' c d P L G h w g Qj cl->Q (.ref P) H'
def fS(K:Frag)(c:RCl RK)(d:RCl PzK):TS:=
 (tSeq (tAsg (tLst tNil) (gName 6))
  (tSeq (tFor (jj (tCons (tVar 3) tNil)) (gName 4)
  (tSeq (tAsg (tOp cMod (tOp cMul (tOp cAdd (tCall (bm K) [] E0 (tCons (tVar 0) (tCons (tOp cAdd (tC (.int 5)) (tVar 4)) tNil))) (tOp cMul (tOp cMul (tC (.int 97)) (tVar 4)) (tVar 4))) (tC (.int 48271))) (tC (.int 50021))) (gName 7))
  (tDrop (tBM K "list" b7 (tVar 6) (tCons (tOp cIx (tLst (tCons (tC (.int 0)) (tCons (tC (.int 0)) (tCons (tOp cAdd (tC (.int 1)) (tOp cMod (tOp cDiv (tVar 7) (tC (.int 3))) (tOp cIx (tVar 1) (tC (.int 2))))) tNil)))) (tOp cMod (tVar 7) (tC (.int 3)))) tNil)))))
  (tRet (tMake (d.A .Puzzle) (bz K c d) [] E0 (tCons (tVar 1) (tCons (tVar 5) (tCons (tVar 6) tNil)))))))
def i8(K:Frag)(c:RCl RK)(d:RCl PzK):TS:=
 (tSeq (tAsg (tOp cMul (tOp cIx (tVar 1) (tC (.int 0))) (tOp cIx (tVar 1) (tC (.int 1)))) (gName 3))
  (tSeq (sComp 5 [none,none,some 1,some 3,some 0] (jj (tCons (tVar 2) tNil)) (gName 1) tTrue (tCall (fG K) [] E0 (tCons (tOp cMod (tOp cMul (tOp cAdd (tCall (bm K) [] E0 (tCons (tVar 4) (tCons (tOp cAdd (tC (.int 1)) (tVar 1)) tNil))) (tOp cMul (tC (.int 89)) (tVar 1))) (tC (.int 30011))) (tC (.int 1000003))) (tCons (tVar 3) (tCons (tOp cIx (tVar 2) (tC (.int 2))) tNil)))))
  (fS K c d)))
theorem uV{R:Addr}(hS:SqL K H a (ns.map V.int))(hn:ns.length<=63)(hp:IsFl H p h w g)(F:FlOk h w g)(eR:H R=some (.lst ((Qj.map RR.txt).map V.str)))(Ro:ib c h w g Qj)(ok:d.ok .Puzzle=true)(q:∀(P L G:Addr) (Qj:List RR) (cl:List Int) (H':Hp),Same H H'->IsPz H' c d P L G h w g Qj cl->Q (.ref P) H'):
  fS K c d (eD9 Q) [some (.ref a),some (.ref p),v2,some (.int (h*w)),v4,some (.ref R),none,none] H:=by
 obtain⟨h0,h1,w0,w1,m16,g0,g1⟩:=id F;have mpos:1<=h*w:=Int.le_trans (by omega) (Int.mul_le_mul h0 w0 (by omega) (by omega));unfold fS;symm;refine⟨aT (by decide),fun C hC=>?_⟩;obtain⟨H1,z9,s1,eC⟩:∃ z,upd H C (.lst [])=z/\Same H z/\z C=some (.lst (([]:List Int).map V.int)):=aY _ hC;rw[z9];refine⟨h*w,rfl,by omega,by omega,?_⟩;refine m4 (fun i σ H'=>∃(v4 v7:Option V) (cl:List Int),σ=[some (.ref a),some (.ref p),v2,some (.int (h*w)),v4,some (.ref R),some (.ref C),v7]/\Same H H'/\H' C=some (.lst (cl.map V.int))/\cl.length=i/\∀ x∈cl,0<=x/\x<=g) ⟨_,_,[],rfl,s1,eC,rfl,fun x hx=>by cases hx⟩ ?_ ?_
 . rintro i σ H2 hi ⟨v4,v7,cl,rfl,s2,e2,cn,cx⟩;have hil:i < (h*w).toNat:=hi;rw[SD];symm;refine⟨a,ns,_,rfl,s2.seq hS,hn,by omega,by omega,?_⟩;symm;have ii:(97*(i:Int))*(i:Int)=97*(i:Int)*(i:Int):=rfl;refine⟨.inl ⟨by decide,by decide⟩,.inl ⟨by omega,by omega⟩,.inr ⟨by decide,by decide⟩,by decide,?_⟩;generalize (uU ns (5+(i:Int))+97*(i:Int)*(i:Int))*48271%50021=y at*;refine⟨bj e2,⟨by decide,by decide⟩,?_⟩;refine ixT (s2 _ _ hp) (v:=V.int g) rfl ?_;symm;have b0:=Rq (y/3) (show g≠0 by omega);have b1:=Ri (y/3) (show 0<g by omega);generalize y/3%g=x at*;refine⟨by omega,lnR rfl,fun U hU=>?_⟩;obtain⟨H3,z9,s3,eU⟩:∃ z,upd H2 U (.lst [V.int 0,V.int 0,V.int (1+x)])=z/\Same H2 z/\z U=some (.lst (([0,0,1+x]:List Int).map V.int)):=aY _ hU;rw[z9];have c0:=Rq y (show(3:Int)≠0 by decide);have c1:=Ri y (show(0:Int)<3 by decide);refine⟨by decide,?_⟩;refine ixI eU c0 (by show _ < (3:Int);omega) ?_
   have vb:0<=([0,0,1+x]:List Int).getD (y%3).toNat 0/\([0,0,1+x]:List Int).getD (y%3).toNat 0<=g:=by
    have e:(y%3).toNat=0\/(y%3).toNat=1\/(y%3).toNat=2:=by omega
    rcases e with e | e | e <;> rw[e]
    . exact⟨by show(0:Int)<=0;decide,by show(0:Int)<=g;omega⟩
    . exact⟨by show(0:Int)<=0;decide,by show(0:Int)<=g;omega⟩
    . exact⟨by show(0:Int)<=1+x;omega,by show 1+x<=g;omega⟩
   generalize ([0,0,1+x]:List Int).getD (y%3).toNat 0=v at*;symm;rw[gg (s3 _ _ e2)];refine⟨by rw[Qu];exact aD (by omega),_,_,cl++[v],rfl,(s2.trans s3).own hC,by rw[ah];simp,by simp[cn],fun z hz=>?_⟩;rcases QZ.mp hz with hz | hz
   . exact cx z hz
   . rw[QF.mp hz];exact vb
 . rintro σ H2 ⟨v4,v7,cl,rfl,s2,e2,cn,cx⟩;symm;exact D1 ok (s2 _ _ hp) (s2 _ _ eR) e2 Ro ⟨cn,cx⟩ fun P L G H3 s3 _ _ _ pz=>q P L G Qj cl H3 (s2.trans s3) pz
theorem rW(h:c6 K c d vs H Q E):i8 K c d (eD9 Q) (start ["_law_script","_law_floor","_law_rules","_law_many","_law_k","_law_rows","_law_clues","_law_cell"] vs) H:=by
 obtain⟨a,p,ns,n,h,w,g,rfl,hS,hn,hp,F,n0,n4,hk,ok,q⟩:=h;obtain⟨h0,h1,w0,w1,m16,g0,g1⟩:=id F;have mpos:1<=h*w:=Int.le_trans (by omega) (Int.mul_le_mul h0 w0 (by omega) (by omega));show i8 K c d _ [some (.ref a),some (.ref p),some (.int n),none,none,none,none,none] H;unfold i8;symm;refine ixT hp (v:=V.int h) rfl ?_;symm;refine ixT hp (v:=V.int w) rfl ?_;symm;refine⟨m8 h0 h1,n,rfl,by omega,by omega,?_⟩;refine A0 (h:=h) (w:=w) (g:=g) F (by omega) hk ?_ ?_
 . intro i H3 Q3 hi s3 k3;have hi4:i<4:=by omega
   show tCall _ _ _ _ [none,some (.int (0+(i:Int))),some (.ref p),some (.int (h*w)),some (.ref a)] H3 Q3;rw[SD];symm;refine⟨a,ns,_,rfl,s3.seq hS,hn,by omega,by omega,?_⟩;symm;refine⟨.inl ⟨by decide,by decide⟩,.inr ⟨by decide,by decide⟩,by decide,?_⟩;refine ixT (s3 _ _ hp) (v:=V.int g) rfl ?_;symm;exact⟨_,h,w,g,rfl,Rq _ (by decide),F,mpos,k3⟩
 . intro R Qj H3 hR s3 eR Qq Ro;exact uV (s3.seq hS) hn (s3 _ _ hp) F eR Ro ok fun P L G Qj cl H' s' pz=>q P L G Qj cl H' (s3.trans s') pz
def dz(K:Frag):Sp:=fun vs H Q _=>∃(a:Addr) (ns:List Int) (m g:Int),vs=[.ref a,.int m,.int g]/\SqL K H a (ns.map V.int)/\ns.length<=63/\1<=m/\m<=16/\2<=g/\g<=4/\∀(l:Addr) (ms:List Int) (H':Hp),Same H H'->H l=none->H' l=some (.lst (ms.map V.int))->MkP g m.toNat ms->Q (.ref l) H'
def lg(K:Frag):TS:=
 (tSeq (tAsg (tOp cMod (tOp cMul (tCall (bm K) [] E0 (tCons (tVar 0) (tCons (tC (.int 23)) tNil))) (tC (.int 69621))) (tC (.int 50021))) (gName 6))
  (tSeq (tIfS (tTest (tOp (cEq K) (tOp cMod (tVar 6) (tC (.int 11))) (tC (.int 10)))) (tAsg (tC (.int 0)) (gSub (tVar 4) (tOp cMod (tOp cDiv (tVar 6) (tC (.int 11))) (tVar 1)) cPut)) tNext)
  (tRet (tVar 4))))
def jY(K:Frag):TS:=
 (tSeq (tAsg (tOp cIx (tLst (tCons (tC (.int 1)) (tCons (tC (.int 3)) (tCons (tC (.int 7)) (tCons (tC (.int 15)) tNil))))) (tOp cSub (tVar 2) (tC (.int 1)))) (gName 3))
  (tSeq (tAsg (tLst tNil) (gName 4))
  (tSeq (tFor (jj (tCons (tVar 1) tNil)) (gName 5)
  (tSeq (tAsg (tOp cMod (tOp cMul (tOp cAdd (tCall (bm K) [] E0 (tCons (tVar 0) (tCons (tOp cAdd (tC (.int 14)) (tVar 5)) tNil))) (tOp cMul (tOp cMul (tC (.int 101)) (tVar 5)) (tVar 5))) (tC (.int 16807))) (tC (.int 65521))) (gName 6))
  (tDrop (tBM K "list" b7 (tVar 4) (tCons (tOp cIx (tLst (tCons (tVar 3) (tCons (tVar 3) (tCons (tVar 3) (tCons (tOp cAdd (tC (.int 1)) (tOp cMod (tOp cDiv (tVar 6) (tC (.int 4))) (tVar 3))) tNil))))) (tOp cMod (tVar 6) (tC (.int 4)))) tNil)))))
  (lg K))))
theorem t6(h:dz K vs H Q E):jY K (eD9 Q) (start ["_law_script","_law_many","_law_signs","_law_whole","_law_masks_here","_law_k","_law_cell"] vs) H:=by
 obtain⟨a,ns,m,g,rfl,hS,hn,m0,m1,g2,g4,q⟩:=h;show jY K _ [some (.ref a),some (.int m),some (.int g),none,none,none,none] H;unfold jY;symm;refine⟨lnR rfl,fun U hU=>?_⟩;obtain⟨H1,z9,s1,eU⟩:∃ z,upd H U (.lst [V.int 1,V.int 3,V.int 7,V.int 15])=z/\Same H z/\z U=some (.lst (([1,3,7,15]:List Int).map V.int)):=aY _ hU;rw[z9];refine ixI eU (by omega) (by show _ < (4:Int);omega) ?_
 have wb:([1,3,7,15]:List Int).getD (g-1).toNat 0=2^g.toNat-1/\(3:Int)<=2^g.toNat-1/\(2:Int)^g.toNat-1<=15:=by
  have e:g=2\/g=3\/g=4:=by omega
  rcases e with rfl | rfl | rfl <;> decide
 obtain⟨we,w3,w15⟩:=wb;rw[we];obtain⟨wh,ewh⟩:∃ wh:Int,wh=2^g.toNat-1:=⟨_,rfl⟩;rw[← ewh] at w3 w15 ⊢;symm;refine⟨aT (by decide),fun C hC=>?_⟩;obtain⟨H2,z9,s2,eC⟩:∃ z,upd H1 C (.lst [])=z/\Same H1 z/\z C=some (.lst (([]:List Int).map V.int)):=aY _ hC;rw[z9];have s12:=s1.trans s2;have hC0:H C=none:=s1.free hC;refine⟨m,rfl,by omega,by omega,?_⟩;refine m4 (fun i σ H'=>∃(v5 v6:Option V) (cl:List Int),σ=[some (.ref a),some (.int m),some (.int g),some (.int wh),some (.ref C),v5,v6]/\Same H H'/\H' C=some (.lst (cl.map V.int))/\cl.length=i/\∀ x∈cl,0<=x/\x<=wh) ⟨_,_,[],rfl,s12,eC,rfl,fun x hx=>by cases hx⟩ ?_ ?_
 . rintro i σ H3 hi ⟨v5,v6,cl,rfl,s3,e3,cn,cx⟩;have hil:i<m.toNat:=hi;rw[SD];symm;refine⟨a,ns,_,rfl,s3.seq hS,hn,by omega,by omega,?_⟩;symm;refine⟨.inl ⟨by decide,by decide⟩,.inl ⟨by omega,by omega⟩,.inr ⟨by decide,by decide⟩,by decide,?_⟩;generalize (uU ns (14+(i:Int))+101*(i:Int)*(i:Int))*16807%65521=y at*;refine⟨bj e3,⟨by decide,by decide⟩,by omega,lnR rfl,fun V1 hV=>?_⟩;have b0:=Rq (y/4) (show wh≠0 by omega);have b1:=Ri (y/4) (show 0<wh by omega);generalize y/4%wh=x at*;obtain⟨H4,z9,s4,eV⟩:∃ z,upd H3 V1 (.lst [V.int wh,V.int wh,V.int wh,V.int (1+x)])=z/\Same H3 z/\z V1=some (.lst (([wh,wh,wh,1+x]:List Int).map V.int)):=aY _ hV;rw[z9];have c0:=Rq y (show(4:Int)≠0 by decide);have c1:=Ri y (show(0:Int)<4 by decide);refine⟨by decide,?_⟩;refine ixI eV c0 (by show _ < (4:Int);omega) ?_
   have vb:0<=([wh,wh,wh,1+x]:List Int).getD (y%4).toNat 0/\([wh,wh,wh,1+x]:List Int).getD (y%4).toNat 0<=wh:=by
    have e:(y%4).toNat=0\/(y%4).toNat=1\/(y%4).toNat=2\/(y%4).toNat=3:=by omega
    rcases e with e | e | e | e <;> rw[e]
    . exact⟨by show(0:Int)<=wh;omega,by show wh<=wh;omega⟩
    . exact⟨by show(0:Int)<=wh;omega,by show wh<=wh;omega⟩
    . exact⟨by show(0:Int)<=wh;omega,by show wh<=wh;omega⟩
    . exact⟨by show(0:Int)<=1+x;omega,by show 1+x<=wh;omega⟩
   generalize ([wh,wh,wh,1+x]:List Int).getD (y%4).toNat 0=v at*;symm;rw[gg (s4 _ _ e3)];refine⟨by rw[Qu];exact aD (by omega),_,_,cl++[v],rfl,(s3.trans s4).own hC0,by rw[ah];simp,by simp[cn],fun z hz=>?_⟩;rcases QZ.mp hz with hz | hz
   . exact cx z hz
   . rw[QF.mp hz];exact vb
 . rintro σ H3 ⟨v5,v6,cl,rfl,s3,e3,cn,cx⟩;unfold lg;symm;refine⟨a,ns,23,rfl,s3.seq hS,hn,by decide,by decide,?_⟩;symm;refine⟨.inr ⟨by decide,by decide⟩,by decide,?_⟩;generalize uU ns 23*69621%50021=y at*;rw[aA];symm;refine⟨by decide,?_⟩
   cases decide (y%11=10) with
   | false=>
    refine iteF ?_;symm;exact q C cl H3 s3 hC0 e3 ⟨cn,fun x hx=>by have:=cx x hx;omega⟩
   | true=>
    refine iteT ?_;symm;have c0:=Rq (y/11) (show m≠0 by omega);have c1:=Ri (y/11) (show 0<m by omega);refine⟨⟨by decide,by decide⟩,by omega,?_⟩;refine Cd e3 c0 (by rw[Qu];omega) ?_;rw[rl];symm;refine q C (cl.set (y/11%m).toNat 0) _ (s3.own hC0) hC0 ah ⟨by rw[List.length_set];exact cn,fun x hx=>?_⟩;rcases List.mem_or_eq_of_mem_set hx with hx | rfl
    . have:=cx x hx;omega
    . omega
theorem iteF'{b:Bool}{A B:Prop}(e:b=false)(h:B):if b=true then A else B:=by rw[e];exact iteF h
theorem Dj{s:Str}{ws:List Str}(h:H p=some (.lst (ws.map V.str))):cIn K true (.str s) (.ref p) H Q=Q (.bl (!decide (s∈ws))) H:=by
 unfold cIn;dsimp only;rw[h];dsimp only[unD,unS,bnd];rw[iP,gj];simp[flatV]
def cj(K:Frag)(c:RCl RK)(d:RCl PzK):Sp:=fun vs H Q _=>∃(P L G A Kd T N B:Addr) (bs Ms:List Addr) (h w g:Int) (Qj:List RR) (cl Qh now:List Int) (ks:List TK) (Qp:List Tho),vs=[.ref P,.ref A,.ref Kd,.ref T]/\Lk H c d P L G A h w g Qj cl Qh/\KdL H Kd ks/\g<=4/\H T=some (.tup [.ref N,.ref B])/\H N=some (.lst (now.map V.int))/\IsBk H B bs Ms Qp/\Wlk h w g Qj cl ks Qh Qp now/\(0∈now\/ffF h w g Qj cl now ks=[])/\∀ H',Same H H'->Q (.bl true) H'
def Bm(K:Frag)(c:RCl RK)(d:RCl PzK):TS:=
 (tSeq (tAsg (tOp cIx (tLst (tCons (tC (.int 1)) (tCons (tC (.int 2)) (tCons (tC (.int 4)) (tCons (tC (.int 8)) tNil))))) (tOp cSub (tOp cIx (tVar 5) (tC (.int 3))) (tC (.int 1)))) (gName 6))
  (tSeq (tIfS (tOr (tTest (tOp (cEq K) (tOp cMod (tOp cDiv (tOp cIx (tVar 4) (tOp cIx (tVar 5) (tC (.int 2)))) (tVar 6)) (tC (.int 2))) (tC (.int 0)))) (tNot (tB (tCall (ij K c d) [] E0 (tCons (tVar 0) (tCons (tVar 4) (tCons (tVar 5) tNil))))))) (tRet (tC (.bl false))) tNext)
  (tAsg (tOp cSub (tOp cIx (tVar 4) (tOp cIx (tVar 5) (tC (.int 2)))) (tVar 6)) (gSub (tVar 4) (tOp cIx (tVar 5) (tC (.int 2))) cPut))))
def fT(K:Frag)(c:RCl RK)(d:RCl PzK):TS:=
 (tSeq (tFor (iList K (tOp cIx (tVar 3) (tC (.int 0)))) (gName 7)
  (tIfS (tOr (tNot (tB (tCB kIsi (tCons (tVar 7) (tCons (tC (.ty "int")) tNil))))) (tB (tCB kIsi (tCons (tVar 7) (tCons (tC (.ty "bool")) tNil))))) (tRet (tC (.bl false))) tNext))
  (tRet (tAndV (tOp (cEq K) (tOp cIx (tVar 3) (tC (.int 0))) (tVar 4)) (tOrV (tOp (cIn K false) (tC (.int 0)) (tVar 4)) (tOp rIsN (tCall (dw K c d) [] E0 (tCons (tVar 0) (tCons (tVar 4) (tCons (tVar 2) tNil)))) (tC .non))))))
def fU(K:Frag)(c:RCl RK)(d:RCl PzK):TS:=
 (tSeq (tFor (iList K (tOp cIx (tVar 3) (tC (.int 1)))) (gName 5)
  (tSeq (tIfS (tOr (tTest (tOp (cIn K false) (tC (.int 0)) (tVar 4))) (tOr (tNot (tB (tCB kIsi (tCons (tVar 5) (tCons (tC (.ty "tuple")) tNil))))) (tOr (tTest (tOp (cNe K) (tCB kLen (tCons (tVar 5) tNil)) (tC (.int 5)))) (tTest (tOp (cIn K true) (tOp cIx (tVar 5) (tC (.int 0))) (tVar 2)))))) (tRet (tC (.bl false))) tNext)
  (Bm K c d)))
  (fT K c d))
def i9(K:Frag)(c:RCl RK)(d:RCl PzK):TS:=
 (tSeq (tIfS (tOr (tNot (tB (tCB kIsi (tCons (tVar 3) (tCons (tC (.ty "tuple")) tNil))))) (tTest (tOp (cNe K) (tCB kLen (tCons (tVar 3) tNil)) (tC (.int 2))))) (tRet (tC (.bl false))) tNext)
  (tSeq (tIfS (tOr (tNot (tB (tCB kIsi (tCons (tOp cIx (tVar 3) (tC (.int 0))) (tCons (tC (.ty "list")) tNil))))) (tNot (tB (tCB kIsi (tCons (tOp cIx (tVar 3) (tC (.int 1))) (tCons (tC (.ty "list")) tNil)))))) (tRet (tC (.bl false))) tNext)
  (tSeq (tAsg (tCB kList (tCons (tVar 1) tNil)) (gName 4))
  (fU K c d))))
structure Wk51(H:Hp)(c:RCl RK)(d:RCl PzK)(P L G Kd T N B:Addr)(bs Ms:List Addr)(h w g:Int)(Qj:List RR)(cl Qh now:List Int)(ks:List TK)(Qp:List Tho):Prop where
 pz:IsPz H c d P L G h w g Qj cl
 mk0:MkP g (h*w).toNat Qh
 kd:KdL H Kd ks
 g4:g<=4
 tt:H T=some (.tup [.ref N,.ref B])
 nn:H N=some (.lst (now.map V.int))
 bk:IsBk H B bs Ms Qp
 wl:Wlk h w g Qj cl ks Qh Qp now
 en:0∈now\/ffF h w g Qj cl now ks=[]
variable{Kd:Addr}{now:List Int}
theorem Wk51.same{bs:List Addr}(X:Wk51 H c d P L G Kd T N B bs Ms h w g Qj cl Qh now ks Qp)(s:Same H H'):Wk51 H' c d P L G Kd T N B bs Ms h w g Qj cl Qh now ks Qp:=
 ⟨X.pz.same s,X.mk0,s _ _ X.kd,X.g4,s _ _ X.tt,s _ _ X.nn,X.bk.same s,X.wl,X.en⟩
theorem uW{Lf:Addr}{bs:List Addr}{v5 v6:Option V}(X:Wk51 H c d P L G Kd T N B bs Ms h w g Qj cl Qh now ks Qp)(eL:H Lf=some (.lst (now.map V.int)))(q:∀ H',Same H H'->Q (.bl true) H'):
  fT K c d (eD9 Q) [some (.ref P),v1,some (.ref Kd),some (.ref T),some (.ref Lf),v5,v6,v7] H:=by
 have F:=X.pz.R.F;have ob:=X.wl.okM F.g0 F.g1 X.mk0;unfold fT;symm;refine ixT X.tt (v:=V.ref N) rfl ?_;refine⟨N,rfl,⟨_,QI X.nn⟩,?_⟩;refine bx (K:=K) (xs:=now.map V.int) (fun i σ H'=>∃(v7:Option V),σ=[some (.ref P),v1,some (.ref Kd),some (.ref T),some (.ref Lf),v5,v6,v7]/\H'=H) ⟨_,rfl,rfl⟩ (fun i σ H' _ ⟨_,_,e⟩=>by rw[e];exact QI X.nn) ?_ ?_
 . rintro i v σ H1 hv ⟨v7,rfl,rfl⟩;obtain⟨z,hz,rfl⟩:=aS hv;symm;rw[aA];symm;exact⟨_,rfl,trivial⟩
 . rintro σ H1 ⟨v7,rfl,rfl⟩;symm;refine ixT X.tt (v:=V.ref N) rfl ?_;symm;refine qD X.nn eL ?_;rw[QA rfl];refine⟨true,rfl,?_⟩;symm;rw[mf eL];by_cases h0:(0:Int)∈now
   . rw[QA h0];refine⟨true,rfl,?_⟩;symm;exact q _ (Qy _)
   . rw[Qx h0];refine⟨false,rfl,?_⟩;symm;have en:=X.en.resolve_left h0;have nt:ntF h w g Qj cl now ks=none:=by unfold ntF;rw[QT h0,en];rfl
     refine⟨P,L,G,Lf,Kd,h,w,g,Qj,cl,now,ks,rfl,⟨X.pz,eL,ob.1.len,ob.1.mm⟩,X.kd,fun _ H' s'=>?_,fun th T M H' e=>by rw[nt] at e;cases e⟩;symm;exact q _ s'
theorem EQ(s0:1<=s)(s4:s<=4):([1,2,4,8]:List Int).getD (s-1).toNat 0=2^(s-1).toNat:=by
 have e:s=1\/s=2\/s=3\/s=4:=by omega
 rcases e with rfl | rfl | rfl | rfl <;> decide
theorem El(h:stB m s=true):m/2^(s-1).toNat%2=1:=by
 unfold stB at h;rw[Rk,Rk] at h;exact QU h.2.2
theorem uX{Lf:Addr}{bs:List Addr}(X:Wk51 H0 c d P L G Kd T N B bs Ms h w g Qj cl Qh now ks Qp)(s0:Same H0 H)(hL:H0 Lf=none)(eL:H Lf=some (.lst (Qh.map V.int)))(q:∀ H',Same H0 H'->Q (.bl true) H'):
  fU K c d (eD9 Q) [some (.ref P),v1,some (.ref Kd),some (.ref T),some (.ref Lf),none,none,none] H:=by
 have F:=X.pz.R.F;have g0:=F.g0;have g6:=F.g1;have g4:=X.g4;have p64:=l0 g0 g6;have l1:=X.bk.len;have l2:=X.bk.lnM;unfold fU;symm;refine ixT (s0 _ _ X.tt) (v:=V.ref B) rfl ?_;refine⟨B,rfl,⟨_,QI (s0 _ _ X.bk.top)⟩,?_⟩;refine bx (K:=K) (xs:=bs.map V.ref) (fun i σ H'=>∃(v5 v6:Option V),σ=[some (.ref P),v1,some (.ref Kd),some (.ref T),some (.ref Lf),v5,v6,none]/\Same H0 H'/\H' Lf=some (.lst ((runA Qh (Qp.take i)).map V.int))) ⟨none,none,rfl,s0,eL⟩ (fun i σ H' _ ⟨_,_,_,s,_⟩=>QI (s _ _ X.bk.top)) ?_ ?_
 . rintro i v σ H1 hv ⟨v5,v6,rfl,s1,e1⟩;obtain⟨b,hb,rfl⟩:=bA hv;have hi:i<bs.length:=(Qz.mp hb).1;have eM:Ms[i]? =some Ms[i]:=Qv (by omega);have et:Qp[i]? =some Qp[i]:=Qv (by omega);have Th:=(X.bk.at_ i b _ _ hb eM et).same s1;have tt:Qp.take (i+1)=Qp.take i++[Qp[i]]:=by rw[RI,et];rfl
   have W1:Wlk h w g Qj cl ks Qh (Qp.take i++Qp.drop i) now:=by rw[SG];exact X.wl
   have M1:=(W1.pre.1.okM g0 g6 X.mk0).1;have W2:=W1.pre.2;rw[RN (show i<Qp.length by omega)] at W2;obtain⟨no0,tk,zb,sb,st,alw⟩:=W2.1;have er:runA Qh (Qp.take i++[Qp[i]])=stL (runA Qh (Qp.take i)) Qp[i].z Qp[i].s:=by unfold runA;rw[Sa];rfl
   rw[tt,er,za zb.1];generalize Ms[i]=M at*;generalize Qp[i]=th at*;generalize runA Qh (Qp.take i)=nw at*;have nl:=M1.len;have mz:=M1.mm _ (i4 (k:=th.z.toNat) (ms:=nw) (by omega));have tyT:∀{H':Hp} {v:V} {j:Int},atI [V.str (tx (tkC th.t)),V.int th.r,V.int th.z,V.int th.s,V.ref M] j=some v->Same H1 H'->∀{Q':VK},Q' v H'->cIx (.ref b) (.int j) H' Q':=fun e s' Q' q'=>ixT (s' _ _ Th.T) e q';symm;rw[aA];symm;rw[mf e1,Qx no0];refine⟨false,rfl,?_⟩;symm;refine sW Th.T ?_;symm;rw[sP Th.T];symm;refine iteF' (by rfl) ?_;refine tyT (v:=V.str (txk th.t)) rfl (Qy _) ?_;rw[Dj (s1 _ _ X.kd),y9,QA tk];refine⟨_,rfl,?_⟩;symm;unfold Bm;symm;refine⟨lnR rfl,fun U hU=>?_⟩;obtain⟨H2,z9,s2,eU⟩:∃ z,upd H1 U (.lst [V.int 1,V.int 2,V.int 4,V.int 8])=z/\Same H1 z/\z U=some (.lst (([1,2,4,8]:List Int).map V.int)):=aY _ hU;rw[z9];have s12:=s1.trans s2;refine tyT (v:=V.int th.s) rfl s2 ?_;symm;refine ixI eU (by omega) (by show _ < (4:Int);omega) ?_;rw[EQ sb.1 (by omega)]
   have p1:(0:Int)<2^(th.s-1).toNat/\(2:Int)^(th.s-1).toNat<=8:=by
    have e:th.s=1\/th.s=2\/th.s=3\/th.s=4:=by omega
    rcases e with e | e | e | e <;> rw[e] <;> decide
   have sd:=El st;have wo:woI (nw.getD th.z.toNat 0) th.s=nw.getD th.z.toNat 0-2^(th.s-1).toNat:=by unfold woI;rw[Q6 st]
   generalize (2:Int)^(th.s-1).toNat=pw at*;symm;rw[aA];symm;refine tyT (v:=V.int th.z) rfl s2 ?_;refine ixI (s2 _ _ e1) zb.1 (by omega) ?_;symm;refine⟨⟨by omega,by omega⟩,by decide,?_⟩;rw[sd,Qx (by decide)];symm;have Lk2:Lk H2 c d P L G Lf h w g Qj cl nw:=⟨X.pz.same s12,s2 _ _ e1,nl,M1.mm⟩;refine⟨P,L,G,Lf,b,M,h,w,g,Qj,cl,nw,th.t,th.r,th.z,th.s,th.ms,rfl,⟨Lk2.P,Th.same s2,Lk2.A,nl⟩,Lk2.m64,fun H3 s3=>?_⟩;rw[alw];refine⟨true,rfl,?_⟩;have s23:=s2.trans s3;symm;refine tyT (v:=V.int th.z) rfl s23 ?_;refine ixI (s23 _ _ e1) zb.1 (by omega) ?_;symm;refine tyT (v:=V.int th.z) rfl s23 ?_;refine Cd (s23 _ _ e1) zb.1 (by rw[Qu];omega) ?_;rw[rl,← wo];exact⟨_,_,rfl,(s1.trans s23).own hL,ah⟩
 . rintro σ H1 ⟨v5,v6,rfl,s1,e1⟩;rw[Qu,l1,RB,← X.wl.run] at e1;exact uW (X.same s1) e1 fun H' s'=>q H' (s1.trans s')
theorem rX(h:cj K c d vs H Q E):i9 K c d (eD9 Q) (start ["_law_puzzle_here","_law_masks_here","_law_kinds","_law_found","_law_left","_law_thought","_law_one","_law_mask"] vs) H:=by
 obtain⟨P,L,G,A,Kd,T,N,B,bs,Ms,h,w,g,Qj,cl,Qh,now,ks,Qp,rfl,X,hK,g4,eT,eN,Bk,W,en,q⟩:=h;show i9 K c d _ [some (.ref P),some (.ref A),some (.ref Kd),some (.ref T),none,none,none,none] H;unfold i9;rw[aL,aA];symm;refine sW eT ?_;symm;rw[sP eT];symm;refine iteF' (by rfl) ?_;rw[aA];symm;refine ixT eT (v:=V.ref N) rfl ?_;refine sV eN ?_;symm;refine ixT eT (v:=V.ref B) rfl ?_;refine sV Bk.top ?_;symm;refine kZ X.A fun Lf hL=>?_;have s1:Same H (upd H Lf (.lst (Qh.map V.int))):=(Qy H).laid hL;exact uX ⟨X.P,X.mkp,hK,g4,eT,eN,Bk,W,en⟩ s1 hL ah q
def xK(K:Frag)(c:RCl RK)(d:RCl PzK):Sp:=fun vs H Q _=>∃(a:Addr) (ns:List Int),vs=[.ref a]/\SqL K H a (ns.map V.int)/\ns.length<=63/\(∀ k,k≠.Rule->c.ok k=true)/\d.ok .Puzzle=true/\∀ H',Q (.bl true) H'
def uY(K:Frag):Sp:=fun vs H Q _=>∃(a:Addr) (ns:List Int),vs=[.ref a]/\SqL K H a (ns.map V.int)/\ns.length<=63/\∀ H',Q (.bl true) H'
theorem Em(h:xK K c d vs H Q E):vs.length=1:=by
 obtain⟨_,_,rfl,_⟩:=h;rfl
def oQ(K:Frag)(c:RCl RK)(d:RCl PzK):TS:=
 (tSeq (tAsg (tCall (kx K c d) [] E0 (tCons (tVar 5) (tCons (tVar 6) (tCons (tVar 8) tNil)))) (gName 14))
  (tRet (tCall (cj K c d) [] E0 (tCons (tVar 5) (tCons (tVar 6) (tCons (tVar 8) (tCons (tVar 14) tNil)))))))
def oR(K:Frag)(c:RCl RK)(d:RCl PzK):TS:=
 (tSeq (tFor (iList K (tOp cIx (tVar 11) (tC (.int 1)))) (gName 13)
  (tDrop (tBM K "list" b7 (tOp cIx (tVar 13) (tC (.int 4))) (tCons (tC (.int 1)) tNil))))
  (tSeq (tDrop (uz K "list" pK (tOp cIx (tVar 11) (tC (.int 0)))))
  (tSeq (tDrop (uz K "list" pK (tOp cIx (tVar 11) (tC (.int 1)))))
  (oQ K c d))))
def oS(K:Frag)(c:RCl RK)(d:RCl PzK):TS:=
 (tSeq (tAsg (tCB kLen (tCons (tOp cIx (tVar 11) (tC (.int 1))) tNil)) (gName 12))
  (tSeq (tIfS (tAnd (tTest (tOp (cIn K false) (tC (.int 0)) (tVar 6))) (tTest (tOp (cCmp fun i j=>decide (j<i)) (tVar 12) (tC (.int 0))))) (tRet (tC (.bl false))) tNext)
  (oR K c d)))
def oT(K:Frag)(c:RCl RK)(d:RCl PzK):TS:=
 (tSeq (tIfS (tOr (tNot (tB (tCall (cj K c d) [] E0 (tCons (tVar 5) (tCons (tVar 6) (tCons (tVar 8) (tCons (tVar 11) tNil))))))) (tOr (tTest (tOp (cNe K) (tVar 9) (tVar 6))) (tTest (tOp (cNe K) (tVar 10) (tVar 8))))) (tRet (tC (.bl false))) tNext)
  (oS K c d))
def qd(K:Frag)(c:RCl RK)(d:RCl PzK):TS:=
 (tSeq (tAsg (tCB kList (tCons (tVar 6) tNil)) (gName 9))
  (tSeq (tAsg (tCB kList (tCons (tVar 8) tNil)) (gName 10))
  (tSeq (tAsg (tCall (kx K c d) [] E0 (tCons (tVar 5) (tCons (tVar 9) (tCons (tVar 10) tNil)))) (gName 11))
  (oT K c d))))
def qe(K:Frag)(c:RCl RK)(d:RCl PzK):TS:=
 (tSeq (tAsg (tCall (c6 K c d) [] E0 (tCons (tVar 0) (tCons (tVar 4) (tCons (tOp cMod (tOp cDiv (tVar 1) (tC (.int 18))) (tC (.int 5))) tNil)))) (gName 5))
  (tSeq (tAsg (tCall (dz K) [] E0 (tCons (tVar 0) (tCons (tOp cMul (tVar 2) (tVar 3)) (tCons (tOp cIx (tVar 4) (tC (.int 2))) tNil)))) (gName 6))
  (tSeq (tAsg (tCall (b5 K) [] E0 (tCons (tOp cMod (tOp cMul (tCall (bm K) [] E0 (tCons (tVar 0) (tCons (tC (.int 24)) tNil))) (tC (.int 48271))) (tC (.int 1000003))) (tCons (tC (.int 11)) tNil))) (gName 7))
  (tSeq (sComp 8 [none,none] (iList K (tSl ln (tVar 7) gH (tPart (tOp cAdd (tC (.int 4)) (tOp cMod (tOp cDiv (tVar 1) (tC (.int 72))) (tC (.int 8))))))) (gName 1) tTrue (tOp (rIxT K) (tGT K gt_KINDS) (tVar 1)))
  (qd K c d)))))
def qf(K:Frag)(c:RCl RK)(d:RCl PzK):TS:=
 (tSeq (tAsg (tTup (tCons (tVar 2) (tCons (tVar 3) (tCons (tOp cAdd (tC (.int 2)) (tOp cMod (tOp cDiv (tVar 1) (tC (.int 6))) (tC (.int 3)))) tNil)))) (gName 4))
  (qe K c d))
def qg(K:Frag)(c:RCl RK)(d:RCl PzK):TS:=
 (tSeq (tAsg (tOp cIx (tLst (tCons (tTup (tCons (tC (.int 1)) (tCons (tC (.int 2)) tNil))) (tCons (tTup (tCons (tC (.int 2)) (tCons (tC (.int 2)) tNil))) (tCons (tTup (tCons (tC (.int 1)) (tCons (tC (.int 5)) tNil))) (tCons (tTup (tCons (tC (.int 2)) (tCons (tC (.int 3)) tNil))) (tCons (tTup (tCons (tC (.int 3)) (tCons (tC (.int 3)) tNil))) (tCons (tTup (tCons (tC (.int 4)) (tCons (tC (.int 2)) tNil))) tNil))))))) (tOp cMod (tVar 1) (tC (.int 6)))) (gTup K 2 (gCons (gName 2) (gCons (gName 3) gNil))))
  (qf K c d))
def t7(K:Frag)(c:RCl RK)(d:RCl PzK):TS:=
 (tSeq (tAsg (tOp cMod (tOp cMul (tCall (bm K) [] E0 (tCons (tVar 0) (tCons (tC (.int 0)) tNil))) (tC (.int 30011))) (tC (.int 65537))) (gName 1))
  (qg K c d))
structure B51(K:Frag)(H:Hp)(c:RCl RK)(d:RCl PzK)(P L G A Kd:Addr)(h w g:Int)(Qj:List RR)(cl Qh:List Int)(ks:List TK):Prop where
 lk:Lk H c d P L G A h w g Qj cl Qh
 kd:KdL H Kd ks
 g4:g<=4
theorem B51.same(X:B51 K H c d P L G A Kd h w g Qj cl Qh ks)(s:Same H H'):B51 K H' c d P L G A Kd h w g Qj cl Qh ks:=⟨X.lk.same s,s _ _ X.kd,X.g4⟩
theorem zQ{v3 v9 v10 v11 v12 v13:Option V}(X:B51 K H c d P L G A Kd h w g Qj cl Qh ks)(q:∀ H',Q (.bl true) H'):
  oQ K c d (eD9 Q) [v0,v1,v2,v3,v4,some (.ref P),some (.ref A),v7,some (.ref Kd),v9,v10,v11,v12,v13,none] H:=by
 unfold oQ;symm;refine⟨P,L,G,A,Kd,h,w,g,Qj,cl,Qh,ks,rfl,X.lk,X.kd,fun T N B bs Ms now Qp H1 s1 hT hN hB hb hM eT eN Bk nNB W en=>?_⟩;have X1:=X.same s1;symm;exact⟨P,L,G,A,Kd,T,N,B,bs,Ms,h,w,g,Qj,cl,Qh,now,ks,Qp,rfl,X1.lk,X1.kd,X.g4,eT,eN,Bk,W,en,fun H' _=>q H'⟩
theorem En{m m':List Int}(W:Wlk h w g Qj cl ks m Qp m')(h0:0∈m):Qp=[]:=by
 cases Qp with
 | nil=>rfl
 | cons th r=>exact absurd h0 W.1.1
theorem t8{bs:List Addr}{v3 v9 v10 v12:Option V}(X:B51 K H0 c d P L G A Kd h w g Qj cl Qh ks)(s0:Same H0 H)(hN:H0 N=none)(hB:H0 B=none)(hM:∀ M∈Ms,H0 M=none)(hT:H0 T=none)(eT:H T=some (.tup [.ref N,.ref B]))(eN:H N=some (.lst (now.map V.int)))(Bk:IsBk H B bs Ms Qp)(nNB:N≠B)(bl:Qp.length<=96)(q:∀ H',Q (.bl true) H'):
  oR K c d (eD9 Q) [v0,v1,v2,v3,v4,some (.ref P),some (.ref A),v7,some (.ref Kd),v9,v10,some (.ref T),v12,none,none] H:=by
 have l1:=Bk.len;have l2:=Bk.lnM;unfold oR;symm;refine ixT eT (v:=V.ref B) rfl ?_;refine⟨B,rfl,⟨_,QI Bk.top⟩,?_⟩
 refine bx (K:=K) (xs:=bs.map V.ref) (fun i σ H'=>∃(v13:Option V),σ=[v0,v1,v2,v3,v4,some (.ref P),some (.ref A),v7,some (.ref Kd),v9,v10,some (.ref T),v12,v13,none]/\Same H0 H'/\H' T=some (.tup [.ref N,.ref B])/\H' B=some (.lst (bs.map V.ref))/\(∃ xs,H' N=some (.lst xs))/\(∀(j:Nat) (b M:Addr) (th:Tho),bs[j]? =some b->Ms[j]? =some M->Qp[j]? =some th->H' b=some (.tup [.str (tx (tkC th.t)),.int th.r,.int th.z,.int th.s,.ref M])/\∃ xs,H' M=some (.lst xs)/\xs.length<=100+i))
  ⟨none,rfl,s0,eT,Bk.top,⟨_,eN⟩,fun j b M th h1 h2 h3=>⟨(Bk.at_ j b M th h1 h2 h3).T,_,(Bk.at_ j b M th h1 h2 h3).M,by rw[Qu];exact(Bk.at_ j b M th h1 h2 h3).n⟩⟩ (fun i σ H' _ ⟨_,_,_,_,e,_⟩=>QI e) ?_ ?_
 . rintro i v σ H1 hv ⟨v13,rfl,s1,t1,b1,⟨xs,n1⟩,at1⟩;obtain⟨b,hb,rfl⟩:=bA hv;have hi:i<bs.length:=(Qz.mp hb).1;have eM:Ms[i]? =some Ms[i]:=Qv (by omega);have et:Qp[i]? =some Qp[i]:=Qv (by omega);obtain⟨tb,ys,ym,yl⟩:=at1 i b _ _ hb eM et;have mM:Ms[i]∈Ms:=QX _;generalize Ms[i]=M at*;generalize Qp[i]=th at*;have MB:M≠B:=fun e=>Bk.nl (e ▸ mM);have i16:i<=96:=by omega
   symm;refine ixT tb (v:=V.ref M) rfl ?_;symm;refine⟨bj ym,?_⟩;rw[gg ym];have nT:T≠M:=fun e=>by rw[e,ym] at t1;cases t1
   refine⟨aD (by omega),_,rfl,s1.own (hM M mM),by rw[ao nT];exact t1,by rw[ao (Tj MB)];exact b1,?_,fun j b' M' th' h1 h2 h3=>?_⟩
   . by_cases e:N=M
     . rw[e,ah];exact⟨_,rfl⟩
     . rw[ao e];exact⟨_,n1⟩
   . obtain⟨tb',zs,zm,zl⟩:=at1 j b' M' th' h1 h2 h3;refine⟨by rw[ao (fun e=>by rw[e,ym] at tb';cases tb')];exact tb',?_⟩;by_cases e:M'=M
     . rw[e,ah];exact⟨_,rfl,by simp;omega⟩
     . rw[ao e];exact⟨_,zm,by omega⟩
 . rintro σ H1 ⟨v13,rfl,s1,t1,b1,⟨xs,n1⟩,at1⟩;symm;refine ixT t1 (v:=V.ref N) rfl ?_;refine⟨bj n1,?_⟩;refine yP n1 ?_;have nTN:T≠N:=fun e=>by rw[e,n1] at t1;cases t1
   have t2:(upd H1 N (.lst [])) T=some (.tup [.ref N,.ref B]):=by rw[ao nTN];exact t1
   have b2:(upd H1 N (.lst [])) B=some (.lst (bs.map V.ref)):=by rw[ao (Tj nNB)];exact b1
   have s2:=s1.own (o:=.lst []) hN;generalize upd H1 N (.lst [])=H2 at*;symm;refine ixT t2 (v:=V.ref B) rfl ?_;refine⟨bj b2,?_⟩;refine yP b2 ?_;have s3:=s2.own (o:=.lst []) hB;generalize upd H2 B (.lst [])=H3 at*;exact zQ (X.same s3) q
structure T51(H0 H:Hp)(T N B:Addr)(bs Ms:List Addr)(h w g:Int)(Qj:List RR)(cl Qh now:List Int)(ks:List TK)(Qp:List Tho):Prop where
 s:Same H0 H
 hT:H0 T=none
 hN:H0 N=none
 hB:H0 B=none
 hM:∀ M∈Ms,H0 M=none
 eT:H T=some (.tup [.ref N,.ref B])
 eN:H N=some (.lst (now.map V.int))
 bk:IsBk H B bs Ms Qp
 ne:N≠B
 W:Wlk h w g Qj cl ks Qh Qp now
theorem T51.same{bs:List Addr}(X:T51 H0 H T N B bs Ms h w g Qj cl Qh now ks Qp)(s:Same H H'):T51 H0 H' T N B bs Ms h w g Qj cl Qh now ks Qp:=⟨X.s.trans s,X.hT,X.hN,X.hB,X.hM,s _ _ X.eT,s _ _ X.eN,X.bk.same s,X.ne,X.W⟩
theorem zR{bs:List Addr}{v3 v9 v10:Option V}(X:B51 K H0 c d P L G A Kd h w g Qj cl Qh ks)(Y:T51 H0 H T N B bs Ms h w g Qj cl Qh now ks Qp)(q:∀ H',Q (.bl true) H'):
  oS K c d (eD9 Q) [v0,v1,v2,v3,v4,some (.ref P),some (.ref A),v7,some (.ref Kd),v9,v10,some (.ref T),none,none,none] H:=by
 have F:=X.lk.P.R.F;have m16:=F.m;have g0:=F.g0;have g1:=F.g1
 have bl:Qp.length<=96:=by
  have a:=(Y.W.okM g0 g1 X.lk.mkp).2;have b:=Bi g0 g1 X.lk.mkp (by omega);omega
 have l1:=Y.bk.len;unfold oS;symm;refine ixT Y.eT (v:=V.ref B) rfl ?_;rw[bt Y.bk.top];rw[aA];symm;rw[mf (Y.s _ _ X.lk.A)];by_cases h0:(0:Int)∈Qh
 . rw[QA h0];have e:=En Y.W h0;symm;rw[Qu,show bs.length=0 by rw[l1,e];rfl];refine iteF' (by rfl) ?_;exact t8 X Y.s Y.hN Y.hB Y.hM Y.hT Y.eT Y.eN Y.bk Y.ne bl q
 . rw[Qx h0];symm;exact t8 X Y.s Y.hN Y.hB Y.hM Y.hT Y.eT Y.eN Y.bk Y.ne bl q
theorem Cl(ks:List TK):∀ x∈ks.map txk,PyData.strOk x=true:=fun x hx=>by
 obtain⟨t,_,rfl⟩:=QS.mp hx;exact zA (by cases t <;> decide)
theorem zS{A2 Kd2:Addr}{bs:List Addr}{v3:Option V}(X:B51 K H0 c d P L G A Kd h w g Qj cl Qh ks)(Y:T51 H0 H T N B bs Ms h w g Qj cl Qh now ks Qp)(eA:H A2=some (.lst (Qh.map V.int)))(eK:KdL H Kd2 ks)(en:0∈now\/ffF h w g Qj cl now ks=[])(q:∀ H',Q (.bl true) H'):
  oT K c d (eD9 Q) [v0,v1,v2,v3,v4,some (.ref P),some (.ref A),v7,some (.ref Kd),some (.ref A2),some (.ref Kd2),some (.ref T),none,none,none] H:=by
 have X1:=X.same Y.s;unfold oT;rw[aL,aA];symm;refine⟨P,L,G,A,Kd,T,N,B,bs,Ms,h,w,g,Qj,cl,Qh,now,ks,Qp,rfl,X1.lk,X1.kd,X.g4,Y.eT,Y.eN,Y.bk,Y.W,en,fun H2 s2=>?_⟩;have Y2:=Y.same s2;have X2:=X1.same s2;symm;refine ox (s2 _ _ eA) X2.lk.A ?_;rw[QA rfl];symm;refine AQ (s2 _ _ eK) X2.kd (Cl ks) (Cl ks) ?_;rw[QA rfl];symm;exact zR X Y2 q
theorem Bn{v3:Option V}(X:B51 K H c d P L G A Kd h w g Qj cl Qh ks)(q:∀ H',Q (.bl true) H'):
  qd K c d (eD9 Q) [v0,v1,v2,v3,v4,some (.ref P),some (.ref A),v7,some (.ref Kd),none,none,none,none,none,none] H:=by
 unfold qd;symm;refine kZ X.lk.A fun A2 hA2=>?_;obtain⟨H1,z9,s1,eA⟩:=aY (.lst (Qh.map V.int)) hA2;rw[z9];symm;refine kZ (X.same s1).kd fun K2 hK2=>?_;have s2:Same H1 (upd H1 K2 (.lst ((ks.map txk).map V.str))):=(Qy H1).laid hK2;have eK:KdL (upd H1 K2 (.lst ((ks.map txk).map V.str))) K2 ks:=ah;generalize upd H1 K2 (.lst ((ks.map txk).map V.str))=H2 at*;have X2:=X.same (s1.trans s2);symm;refine⟨P,L,G,A2,K2,h,w,g,Qj,cl,Qh,ks,rfl,⟨X2.lk.P,s2 _ _ eA,X2.lk.n,X2.lk.mm⟩,eK,fun T N B bs Ms now Qp H3 s3 hT hN hB hb hM eT eN Bk nNB W en=>?_⟩;exact zS X2 ⟨s3,hT,hN,hB,hM,eT,eN,Bk,nNB,W⟩ (s3 _ _ (s2 _ _ eA)) (s3 _ _ eK) en q
theorem Dk(hn:n<11):atI (gt_KINDS.map V.str) (n:Int)=some (V.str (txk (allT.getD n .clue))):=by
 refine dI ?_;rw[tZ,QD,QD,Qv (show n<allT.length from hn),List.getD,Qv (show n<allT.length from hn)];rfl
theorem Dl{i:Nat}{x:V}(e:(nsV cs)[i]? =some x):i<cs.length/\x=V.int ((cs.getD i 0:Nat):Int):=by
 unfold nsV at e;rw[QD,QD] at e
 cases hi:cs[i]? with
 | none=>rw[hi] at e;cases e
 | some y=>
  rw[hi] at e;refine⟨(Qz.mp hi).1,?_⟩;rw[List.getD,hi];exact(RU e).symm
theorem Bo{y:Int}(hS:SqL K H a (ns.map V.int))(hn:ns.length<=63)(hp:IsFl H p h w g)(F:FlOk h w g)(m1:1<=h*w)(g2:2<=g)(g4:g<=4)(hk:∀ k,k≠.Rule->c.ok k=true)(ok:d.ok .Puzzle=true)(k:∀ H',Q (.bl true) H'):
  qe K c d (eD9 Q) [some (.ref a),some (.int y),some (.int h),some (.int w),some (.ref p),none,none,none,none,none,none,none,none,none,none] H:=by
 have m16:=F.m;unfold qe;symm;have n0:=Rq (y/18) (show(5:Int)≠0 by decide);have n1:=Ri (y/18) (show(0:Int)<5 by decide);refine⟨⟨by decide,by decide⟩,by decide,?_⟩;refine⟨a,p,ns,_,h,w,g,rfl,hS,hn,hp,F,n0,by omega,hk,ok,fun P L G Qj cl H1 s1 pz=>?_⟩;symm;refine⟨m8 F.h0 F.h1,?_⟩;refine ixT (s1 _ _ hp) (v:=V.int g) rfl ?_;symm;refine⟨a,ns,h*w,g,rfl,s1.seq hS,hn,m1,m16,g2,g4,fun A ms H2 s2 hA eA mk=>?_⟩;symm;have s12:=s1.trans s2;refine⟨a,ns,24,rfl,s12.seq hS,hn,by decide,by decide,?_⟩;symm;refine⟨.inr ⟨by decide,by decide⟩,by decide,?_⟩;refine⟨_,11,rfl,by decide,by decide,fun O H3 cs s3 hO eO nd lt len=>?_⟩;symm;have b0:=Rq (y/72) (show(8:Int)≠0 by decide);have b1:=Ri (y/72) (show(0:Int)<8 by decide);refine⟨⟨by decide,by decide⟩,by decide,?_⟩;generalize y/72%8=x at*;refine qE eO fun O2 hO2=>?_;rw[rJ _ (by omega),rV];obtain⟨H4,z9,s4,e4⟩:=aY (.lst (nsV (cs.take (4+x).toNat))) hO2;rw[z9];have lt2:∀ z∈cs.take (4+x).toNat,z<11:=fun z hz=>by have:=lt z (List.mem_of_mem_take hz);omega
 have tl:(cs.take (4+x).toNat).length<=11:=by rw[RE];omega
 generalize cs.take (4+x).toNat=ds at*;have nl:(nsV ds).length=ds.length:=by unfold nsV;rw[Qu,Qu]
 refine⟨O2,rfl,⟨_,QI e4⟩,?_⟩;refine bY (fun _=>true) (fun i=>V.str (txk (allT.getD (ds.getD i 0) .clue))) (by omega) (QI e4) ?_ ?_ ?_
 . intro i z H5 R5 hz s5 k5;exact k5 _ (Qy _)
 . intro i z H5 Q5 hz hb5 s5 k5;obtain⟨hi,rfl⟩:=Dl hz;show tOp _ _ _ [none,some (.int _)] H5 Q5;have hd:ds.getD i 0<11:=lt2 _ (by rw[List.getD,Qv hi];exact QX hi);rw[iN,Ed];intro u hu;symm;exact Ee hu (Dk hd) (k5 _ (Qy _))
 . intro Kd H5 hKd s5 eK;rw[bf] at eK
   have ek:KdL H5 Kd ((List.range (nsV ds).length).map fun i=>allT.getD (ds.getD i 0) .clue):=by
    unfold KdL;rw[Re,Re];exact eK
   have s25:=s3.trans (s4.trans s5);symm;exact Bn ⟨⟨(pz.same s2).same s25,s25 _ _ eA,mk.1,mk.2⟩,ek,g4⟩ k
theorem Bp{y:Int}(hS:SqL K H a (ns.map V.int))(hn:ns.length<=63)(h0:1<=h)(h6:h<=6)(w0:1<=w)(w6:w<=6)(m1:1<=h*w)(m9:h*w<=9)(hk:∀ k,k≠.Rule->c.ok k=true)(ok:d.ok .Puzzle=true)(k:∀ H',Q (.bl true) H'):
  qf K c d (eD9 Q) [some (.ref a),some (.int y),some (.int h),some (.int w),none,none,none,none,none,none,none,none,none,none,none] H:=by
 unfold qf;symm;refine⟨⟨by decide,by decide⟩,by decide,?_⟩;have g0:=Rq (y/6) (show(3:Int)≠0 by decide);have g1:=Ri (y/6) (show(0:Int)<3 by decide);have g2:2<=2+y/6%3:=by omega
 have g4:2+y/6%3<=4:=by omega
 generalize 2+y/6%3=g at*;have F:FlOk h w g:=⟨h0,h6,w0,w6,by omega,by omega,by omega⟩;refine⟨lnR rfl,fun p hp=>?_⟩;have s2:Same H (upd H p (.tup [V.int h,V.int w,V.int g])):=(Qy H).laid hp;have ep:IsFl (upd H p (.tup [V.int h,V.int w,V.int g])) p h w g:=ah;generalize upd H p (.tup [V.int h,V.int w,V.int g])=H2 at*;exact Bo (s2.seq hS) hn ep F m1 g2 g4 hk ok k
def fl51:List (Int × Int):=[(1,2),(2,2),(1,5),(2,3),(3,3),(4,2)]
theorem Dm:∀ p∈fl51,1<=p.1/\p.1<=6/\1<=p.2/\p.2<=6/\1<=p.1*p.2/\p.1*p.2<=9:=by decide
theorem Bq{n:Int}(hS:SqL K H a (ns.map V.int))(hn:ns.length<=63)(hk:∀ k,k≠.Rule->c.ok k=true)(ok:d.ok .Puzzle=true)(k:∀ H',Q (.bl true) H'):
  qg K c d (eD9 Q) [some (.ref a),some (.int n),none,none,none,none,none,none,none,none,none,none,none,none,none] H:=by
 unfold qg;rw[aL,cp,iN,gK];refine xJ fl51 H _ fun as H1 s1 hl ha=>?_;have hl6:as.length=6:=hl;refine⟨by rw[Qu];exact aT (by omega),fun U hU=>?_⟩;obtain⟨H2,z9,s2,eU⟩:=aY (.lst (as.map V.ref)) hU;rw[z9];symm;refine⟨by decide,?_⟩;have j0:=Rq n (show(6:Int)≠0 by decide);have j1:=Ri n (show(0:Int)<6 by decide);have ej:n%6=(((n%6).toNat:Nat):Int):=by omega
 have hj:(n%6).toNat<fl51.length:=by show _<6;omega
 rw[ej];generalize (n%6).toNat=j at*;have ea:as[j]? =some (as[j]'(by omega)):=Qv (by omega);have ep:fl51[j]? =some fl51[j]:=Qv hj;have et:=ha j _ _ ea ep;have ok2:=Dm _ (QX hj);generalize fl51[j]=pr at*;refine ixL eU (v:=V.ref (as[j]'(by omega))) (dI (by rw[QD,ea];rfl)) ?_;refine DS (s2 _ _ et) rfl ?_;rw[BQ];symm;exact Bp ((s1.trans s2).seq hS) hn ok2.1 ok2.2.1 ok2.2.2.1 ok2.2.2.2.1 ok2.2.2.2.2.1 ok2.2.2.2.2.2 hk ok k
theorem Eo(h:xK K c d vs H Q E):t7 K c d (eD9 Q) (start ["_law_script","_law_cell","_law_high","_law_wide","_law_floor","_law_puzzle_here","_law_masks_here","_law_order_here","_law_kinds","_law_heard","_law_words","_law_found","_law_many","_law_thought","_law_again"] vs) H:=by
 obtain⟨a,ns,rfl,hS,hn,hk,ok,k⟩:=h;show t7 K c d _ [some (.ref a),none,none,none,none,none,none,none,none,none,none,none,none,none,none] H;unfold t7;symm;refine⟨a,ns,0,rfl,hS,hn,by decide,by decide,?_⟩;symm;refine⟨.inr ⟨by decide,by decide⟩,by decide,?_⟩;generalize uU ns 0*30011%65537=n at*;exact Bq hS hn hk ok k
section
variable{X:Cx}{e:Expr}{es rs:List Expr}{te:TE}{t:TA}
theorem ky{k}{p:Pos}(ha:PE X (.Tuple rs k p) te)(hr:PA X es t):PA X (.Tuple rs k p::es) (tCons te t):=aa ha hr
theorem cB{c:Const}{k}{p:Pos}(ha:PE X (.Constant c k p) te)(hr:PA X es t):PA X (.Constant c k p::es) (tCons te t):=aa ha hr
end
section
variable{P:Program}{w:World}{K:Frag}{mg:Str->Option Value}{base:Heap}{k:Nat}{x qual y:Str}{st:Stmt}{f:Addr}{fd:FuncData}{sp:Sp}
theorem np{a0:Str}(F:Fun K x qual st f fd)(h:∀(kV doc pm:Value) (an:Option Addr) (Qk ct u0:Value),bindArgs (fnOf x qual (bR st) (bB st) (ag st) .none kV doc pm an Qk ct) ⟨[u0],[]⟩=pure (([a0]:List Str).zip [u0]):=by intros;rfl):Binds K fd [a0] []:=F.binds fun _ _ _ _ _ _ us hl=>match us,hl with | [u0],_=>h _ _ _ _ _ _ _
theorem oU{a0:Str}(T:FnOk P w K mg base CX0 k f fd [a0] sp)(F:Fun K x qual st f fd)(hm:mg y=some (.ref f))(h:∀(kV doc pm:Value) (an:Option Addr) (Qk ct u0:Value),bindArgs (fnOf x qual (bR st) (bB st) (ag st) .none kV doc pm an Qk ct) ⟨[u0],[]⟩=pure (([a0]:List Str).zip [u0]):=by intros;rfl):Cal P w K mg base k y [a0] sp:=⟨f,fd,T,hm,F.kp,np F h⟩
theorem iL{a0 a1:Str}(F:Fun K x qual st f fd)(h:∀(kV doc pm:Value) (an:Option Addr) (Qk ct u0 u1:Value),bindArgs (fnOf x qual (bR st) (bB st) (ag st) .none kV doc pm an Qk ct) ⟨[u0,u1],[]⟩=pure (([a0,a1]:List Str).zip [u0,u1]):=by intros;rfl):Binds K fd [a0,a1] []:=F.binds fun _ _ _ _ _ _ us hl=>match us,hl with | [u0,u1],_=>h _ _ _ _ _ _ _ _
theorem bO{a0 a1:Str}(T:FnOk P w K mg base CX0 k f fd [a0,a1] sp)(F:Fun K x qual st f fd)(hm:mg y=some (.ref f))(h:∀(kV doc pm:Value) (an:Option Addr) (Qk ct u0 u1:Value),bindArgs (fnOf x qual (bR st) (bB st) (ag st) .none kV doc pm an Qk ct) ⟨[u0,u1],[]⟩=pure (([a0,a1]:List Str).zip [u0,u1]):=by intros;rfl):Cal P w K mg base k y [a0,a1] sp:=⟨f,fd,T,hm,F.kp,iL F h⟩
theorem Cm{a0 a1 a2:Str}(F:Fun K x qual st f fd)(h:∀(kV doc pm:Value) (an:Option Addr) (Qk ct u0 u1 u2:Value),bindArgs (fnOf x qual (bR st) (bB st) (ag st) .none kV doc pm an Qk ct) ⟨[u0,u1,u2],[]⟩=pure (([a0,a1,a2]:List Str).zip [u0,u1,u2]):=by intros;rfl):Binds K fd [a0,a1,a2] []:=F.binds fun _ _ _ _ _ _ us hl=>match us,hl with | [u0,u1,u2],_=>h _ _ _ _ _ _ _ _ _
theorem cI{a0 a1 a2:Str}(T:FnOk P w K mg base CX0 k f fd [a0,a1,a2] sp)(F:Fun K x qual st f fd)(hm:mg y=some (.ref f))(h:∀(kV doc pm:Value) (an:Option Addr) (Qk ct u0 u1 u2:Value),bindArgs (fnOf x qual (bR st) (bB st) (ag st) .none kV doc pm an Qk ct) ⟨[u0,u1,u2],[]⟩=pure (([a0,a1,a2]:List Str).zip [u0,u1,u2]):=by intros;rfl):Cal P w K mg base k y [a0,a1,a2] sp:=⟨f,fd,T,hm,F.kp,Cm F h⟩
theorem Cn{a0 a1 a2 a3:Str}(F:Fun K x qual st f fd)(h:∀(kV doc pm:Value) (an:Option Addr) (Qk ct u0 u1 u2 u3:Value),bindArgs (fnOf x qual (bR st) (bB st) (ag st) .none kV doc pm an Qk ct) ⟨[u0,u1,u2,u3],[]⟩=pure (([a0,a1,a2,a3]:List Str).zip [u0,u1,u2,u3]):=by intros;rfl):Binds K fd [a0,a1,a2,a3] []:=F.binds fun _ _ _ _ _ _ us hl=>match us,hl with | [u0,u1,u2,u3],_=>h _ _ _ _ _ _ _ _ _ _
theorem xM{a0 a1 a2 a3:Str}(T:FnOk P w K mg base CX0 k f fd [a0,a1,a2,a3] sp)(F:Fun K x qual st f fd)(hm:mg y=some (.ref f))(h:∀(kV doc pm:Value) (an:Option Addr) (Qk ct u0 u1 u2 u3:Value),bindArgs (fnOf x qual (bR st) (bB st) (ag st) .none kV doc pm an Qk ct) ⟨[u0,u1,u2,u3],[]⟩=pure (([a0,a1,a2,a3]:List Str).zip [u0,u1,u2,u3]):=by intros;rfl):Cal P w K mg base k y [a0,a1,a2,a3] sp:=⟨f,fd,T,hm,F.kp,Cn F h⟩
theorem ER{a0 a1 a2 a3 a4:Str}(F:Fun K x qual st f fd)(h:∀(kV doc pm:Value) (an:Option Addr) (Qk ct u0 u1 u2 u3 u4:Value),bindArgs (fnOf x qual (bR st) (bB st) (ag st) .none kV doc pm an Qk ct) ⟨[u0,u1,u2,u3,u4],[]⟩=pure (([a0,a1,a2,a3,a4]:List Str).zip [u0,u1,u2,u3,u4]):=by intros;rfl):Binds K fd [a0,a1,a2,a3,a4] []:=F.binds fun _ _ _ _ _ _ us hl=>match us,hl with | [u0,u1,u2,u3,u4],_=>h _ _ _ _ _ _ _ _ _ _ _
theorem oV{a0 a1 a2 a3 a4:Str}(T:FnOk P w K mg base CX0 k f fd [a0,a1,a2,a3,a4] sp)(F:Fun K x qual st f fd)(hm:mg y=some (.ref f))(h:∀(kV doc pm:Value) (an:Option Addr) (Qk ct u0 u1 u2 u3 u4:Value),bindArgs (fnOf x qual (bR st) (bB st) (ag st) .none kV doc pm an Qk ct) ⟨[u0,u1,u2,u3,u4],[]⟩=pure (([a0,a1,a2,a3,a4]:List Str).zip [u0,u1,u2,u3,u4]):=by intros;rfl):Cal P w K mg base k y [a0,a1,a2,a3,a4] sp:=⟨f,fd,T,hm,F.kp,ER F h⟩
theorem Co{a0 a1 a2 a3 a4 a5:Str}(F:Fun K x qual st f fd)(h:∀(kV doc pm:Value) (an:Option Addr) (Qk ct u0 u1 u2 u3 u4 u5:Value),bindArgs (fnOf x qual (bR st) (bB st) (ag st) .none kV doc pm an Qk ct) ⟨[u0,u1,u2,u3,u4,u5],[]⟩=pure (([a0,a1,a2,a3,a4,a5]:List Str).zip [u0,u1,u2,u3,u4,u5]):=by intros;rfl):Binds K fd [a0,a1,a2,a3,a4,a5] []:=F.binds fun _ _ _ _ _ _ us hl=>match us,hl with | [u0,u1,u2,u3,u4,u5],_=>h _ _ _ _ _ _ _ _ _ _ _ _
theorem uZ{a0 a1 a2 a3 a4 a5:Str}(T:FnOk P w K mg base CX0 k f fd [a0,a1,a2,a3,a4,a5] sp)(F:Fun K x qual st f fd)(hm:mg y=some (.ref f))(h:∀(kV doc pm:Value) (an:Option Addr) (Qk ct u0 u1 u2 u3 u4 u5:Value),bindArgs (fnOf x qual (bR st) (bB st) (ag st) .none kV doc pm an Qk ct) ⟨[u0,u1,u2,u3,u4,u5],[]⟩=pure (([a0,a1,a2,a3,a4,a5]:List Str).zip [u0,u1,u2,u3,u4,u5]):=by intros;rfl):Cal P w K mg base k y [a0,a1,a2,a3,a4,a5] sp:=⟨f,fd,T,hm,F.kp,Co F h⟩
end
variable{P:Program}{w:World}{K:Frag}{mg:Str->Option Value}{base:Heap}
def top(i:Nat):Stmt:=PySem.Challenge.pw_cluemaker_k51_thinking_walked.main.body.getD i (.Pass ⟨0,0,0,0⟩)
def mtop(i j:Nat):Stmt:=match top i with
 | .ClassDef _ _ _ body _ _ _ _ _ _ _=>body.getD j (.Pass ⟨0,0,0,0⟩)
 | s=>s
section
variable{X:Cx}{a b e:Expr}{ta tb te:TE}{pos pos' p:Pos}{x:Str}{es:List Expr}{t:TA}{ps:List Str}{sp:Sp}{k n:Nat}
theorem kcal(C:Cal X.prog X.w X.K X.mg X.base k x ps sp)(hr:Room n X.A)(ha:PA X (e::es) t)(hk:k<=n:=by decide)(hg:Gl X x:=by exact rfl)(hdb:(x==("__debug__":Str))=false:=by decide)(he:starEach (e::es) X.env=(false,eval e X.env)::starEach es X.env:=by rfl)(hpl:(backTo pos (starEach es X.env)).any (·.1)=false:=by rfl):PE X (.Call (.Name x p) (e::es) [] pos) (tCall sp [] E0 t):=DM C hr hk hg ha hdb he hpl
theorem kix(hu:X.A.units+64<cLine)(ha:PE X a ta)(hb:PE X b tb)(hs:uy b:=by exact fun _ _=>rfl):PE X (.Subscript a b pos) (tOp cIx ta tb):=sH (DK hu) ha hb hs
theorem kset(i:Nat)(hN:X.N.Nodup)(he:PE X e te)(hi:X.N[i]? =some x:=by exact rfl)(hx:Loc X.env.scope x:=by exact Or.inl rfl)(hs:swapsWith e (some (.Name x pos')) pos.line X.env=pure false:=by rfl)(hf:X.fn x=true\/X.env.scope.names.lookup x=some .local:=by first | exact .inl rfl | exact .inr rfl | assumption):PS X (.Assign [.Name x pos'] e pos) (tAsg te (gName i)):=gc hN hi hx he hs hf
end
local macro_rules | `(tactic| walk_at "l")=>`(tactic| (intro vs H Q E h; (repeat obtain ⟨_,h⟩:=h); subst_vars; rfl))
variable{f:Addr}{fd:FuncData}
theorem okk{x qual:Str}{st:Stmt}{f:Addr}{fd:FuncData}{N ps:List Str}{k:Nat}{sp:Sp}{t:TS}(F:Fun K x qual st f fd)(S:ak N ps (ag st))(rk:∀{vs H Q E},sp vs H Q E->t (eD9 Q) (start N vs) H)(hb:∀{Qk:Value} {A:Around} {outer:List Env} {s:Shared} {H:Hp} {E:XK},Room k (A.deeper (envOfC qual (ag st) s.heap.objs.size f Qk))->(A.deeper (envOfC qual (ag st) s.heap.objs.size f Qk)).units+64<cLine->N.Nodup->PSs (cxOf CX0 P w K mg base N qual (ag st) f Qk A outer s H E).nox (bB st) t)(len:∀{vs H Q E},sp vs H Q E->vs.length=ps.length:=by walk_at "l"):FnOk P w K mg base CX0 (k+1) f fd ps sp:=F.ok S (fun _ _ _ _ h=>len h) fun Qk A outer s H vs Q E hr h=>⟨t,hb hr hr.units S.nd,rk h⟩
local macro_rules | `(tactic| ac_rfl)=>`(tactic| exact ⟨rfl,rfl,rfl,by decide+kernel,rfl,by decide+kernel,by decide+kernel⟩)
abbrev oW:Stmt:=top 10
theorem E3:ak ["value"] ["value"] (ag oW):=by ac_rfl
theorem yx(B:Bt2 mg)(F:Fun K "is_whole" "is_whole" oW f fd):FnOk P w K mg base CX0 1 f fd ["value"] (bp K):=okk F E3 ye fun hr hu nd=>(ae (af (br (au bS rfl B.isinstance_ bb (aa (pv 0) (aa (cM (v:=.ty "int") rfl B.int_ wI rfl) ab))) (bD (Ac (au bS rfl B.isinstance_ bb (aa (pv 0) (aa (cM (v:=.ty "bool") rfl B.bool_ yO rfl) ab))))))))
abbrev mL:Stmt:=top 13
theorem E4:ak ["floor"] ["floor"] (ag mL):=by ac_rfl
theorem vU(B:Bt2 mg)(F:Fun K "many_cells" "many_cells" mL f fd):FnOk P w K mg base CX0 1 f fd ["floor"] (aU K):=okk F E4 vI fun hr hu nd=>(ae (af (ar bI (kix hu (pv 0) ad) (kix hu (pv 0) ad))))
abbrev qh:Stmt:=top 14
theorem E5:ak ["floor","cell","wide"] ["floor","cell"] (ag qh):=by ac_rfl
theorem zT(B:Bt2 mg)(F:Fun K "spot_of" "spot_of" qh f fd):FnOk P w K mg base CX0 1 f fd ["floor","cell"] (dY K):=okk F E5 zu fun hr hu nd=>(ac (kset 2 nd (kix hu (pv 0) ad))
   (ae (af (de (aa (ar b6 (pv 1) (pv 2)) (aa (ar aX (pv 1) (pv 2)) ab))))))
abbrev nR:Stmt:=top 17
theorem E6:ak ["floor","corner","below"] ["floor","corner"] (ag nR):=by ac_rfl
theorem xN(B:Bt2 mg)(F:Fun K "square_at" "square_at" nR f fd):FnOk P w K mg base CX0 1 f fd ["floor","corner"] (gm K):=okk F E6 wV fun hr hu nd=>(ac (kset 2 nd (ar aM (pv 1) (kix hu (pv 0) ad)))
   (ae (af (aE (aa (pv 1) (aa (ar aM (pv 1) ad) (aa (pv 2) (aa (ar aM (pv 2) ad) ab))))))))
abbrev rY:Stmt:=top 21
theorem E7:ak ["sign","bit","step"] ["sign"] (ag rY):=by ac_rfl
theorem Br(B:Bt2 mg)(F:Fun K "bit_of" "bit_of" rY f fd):FnOk P w K mg base CX0 1 f fd ["sign"] (lc K):=okk F E7 AV fun hr hu nd=>(ac (kset 1 nd ad)
   (ac (bK Rb rfl (gd rfl B.range_ (aa (ar cf (pv 0) ad) ab)) (av (i:=2) nd rfl (Or.inl rfl))
   (ae (kset 1 nd (ar bI (pv 1) ad))))
   (ae (af (pv 1)))))
abbrev rZ:Stmt:=top 22
theorem ES:ak ["mask","sign"] ["mask","sign"] (ag rZ):=by ac_rfl
theorem Bs(B:Bt2 mg)(F:Fun K "stands" "stands" rZ f fd):FnOk P w K mg base CX0 1 f fd ["mask","sign"] (bT K):=okk F ES AU fun hr hu nd=>(ae (af (br (ay h9 ad (pv 1) (ai _)) (br (ay h9 (pv 1) (sI TF S6 S7 sR (pv 0)) (ai _)) (bD (ay (az hu) (ar aX (ar CI (pv 0) (ar cf (pv 1) ad)) ad) ad (ai _)))))))
abbrev qi:Stmt:=top 27
theorem E8:ak ["masks"] ["masks"] (ag qi):=by ac_rfl
theorem zU(B:Bt2 mg)(F:Fun K "clashes" "clashes" qi f fd):FnOk P w K mg base CX0 1 f fd ["masks"] (bC K):=okk F E8 zH fun hr hu nd=>(ae (af (ay (cQ hu) ad (pv 0) (by with_unfolding_all rfl))))
abbrev oX:Stmt:=top 38
theorem E9:ak ["masks","cells"] ["masks","cells"] (ag oX):=by ac_rfl
theorem yy(B:Bt2 mg)(F:Fun K "masks_at" "masks_at" oX f fd):FnOk P w K mg base CX0 1 f fd ["masks","cells"] (aZ K):=okk F E9 yj fun hr hu nd=>(ae (af (aK (ix:=[none,none,some 0]) [".0","cell","masks"] (aF rfl (by decide+kernel) rfl rfl rfl) rfl (aB (pv 1)) (fun cl s H fp=>(av (i:=1) (show([".0","cell","masks"]:List Str).Nodup by decide+kernel) rfl (Or.inl rfl))) (fun cl s H fp=>ba) (fun cl s H fp=>(kix hu (pv 2) (pv 1))))))
abbrev kA:Stmt:=top 43
theorem Fa:ak ["clues","cell","sign","more"] ["clues","cell","sign","more"] (ag kA):=by ac_rfl
theorem t9(B:Bt2 mg)(F:Fun K "clue_strikes" "clue_strikes" kA f fd):FnOk P w K mg base CX0 1 f fd ["clues","cell","sign","more"] (di K):=okk F Fa tJ fun hr hu nd=>(ae (af (br (ay (az hu) (pv 3) (aE ab) (ai _)) (br (ay (aW hu) (kix hu (pv 0) (pv 1)) ad (ai _)) (bD (ay (aW hu) (kix hu (pv 0) (pv 1)) (pv 2) (ai _)))))))
abbrev fV:Stmt:=top 51
theorem sq4:ak ["cells","more"] ["cells","more"] (ag fV):=by ac_rfl
theorem oY(B:Bt2 mg)(F:Fun K "are_told_in_order" "are_told_in_order" fV f fd):FnOk P w K mg base CX0 1 f fd ["cells","more"] (b3 K):=okk F sq4 oM fun hr hu nd=>(ac (aw (Sm (bw (aj (aW hu) (au aG rfl B.len_ aR (aa (pv 1) ab)) ad (ai _)) (bw (aj (cJ hu) (kix hu (pv 1) ad) (pv 0) (by with_unfolding_all rfl)) (bQ (aj (cJ hu) (kix hu (pv 1) ad) (pv 0) (by with_unfolding_all rfl)))))) (ae (af bn)) ap)
   (ae (af (ay cC (ca QM RO RP (jf hu) (pv 0) (aa (kix hu (pv 1) ad) ab)) (ca QM RO RP (jf hu) (pv 0) (aa (kix hu (pv 1) ad) ab)) (ai _)))))
abbrev nS:Stmt:=top 59
theorem Fc:ak ["filling","cell","sign"] ["filling","cell","sign"] (ag nS):=by ac_rfl
theorem xO(B:Bt2 mg)(F:Fun K "with_sign" "with_sign" nS f fd):FnOk P w K mg base CX0 1 f fd ["filling","cell","sign"] (cY K):=okk F Fc xk fun hr hu nd=>(ae (af (aK (ix:=[none,none,none,some 1,some 2]) [".0","place","other","cell","sign"] (aF rfl (by decide+kernel) rfl rfl rfl) rfl (uB rfl B.enumerate_ (aa (pv 0) ab)) (fun cl s H fp=>(sE rfl (gb (av (i:=1) (show([".0","place","other","cell","sign"]:List Str).Nodup by decide+kernel) rfl (Or.inl rfl)) (gb (av (i:=2) (show([".0","place","other","cell","sign"]:List Str).Nodup by decide+kernel) rfl (Or.inl rfl)) qx)))) (fun cl s H fp=>ba) (fun cl s H fp=>(iM (aj (az hu) (pv 1) (pv 3) (ai _)) (pv 4) (pv 2))))))
abbrev lJ:Stmt:=top 76
theorem Fd:ak ["floor","sign"] ["floor","sign"] (ag lJ):=by ac_rfl
theorem u6(B:Bt2 mg)(F:Fun K "place_mores" "place_mores" lJ f fd):FnOk P w K mg base CX0 1 f fd ["floor","sign"] (dQ K):=okk F Fd uR fun hr hu nd=>(ae (af (aK (ix:=[none,none,some 1]) [".0","other","sign"] (aF rfl (by decide+kernel) rfl rfl rfl) rfl (vh rfl B.range_ (aa ad (aa (ar aM (kix hu (pv 0) ad) ad) ab))) (fun cl s H fp=>(av (i:=1) (show([".0","other","sign"]:List Str).Nodup by decide+kernel) rfl (Or.inl rfl))) (fun cl s H fp=>(bi (aj (aW hu) (pv 1) (pv 2) (ai _)))) (fun cl s H fp=>(aE (aa (pv 1) ab))))))
abbrev nU:Stmt:=top 91
theorem Fe:ak ["some","cells"] ["some","cells"] (ag nU):=by ac_rfl
theorem xP(B:Bt2 mg)(F:Fun K "is_within" "is_within" nU f fd):FnOk P w K mg base CX0 1 f fd ["some","cells"] (gy K):=okk F Fe xi fun hr hu nd=>(ae (af (au (df rfl) rfl B.all_ jn (aa (aK (ix:=[none,none,some 1]) [".0","cell","cells"] (aF rfl (by decide+kernel) rfl rfl rfl) rfl (aB (pv 0)) (fun cl s H fp=>(av (i:=1) (show([".0","cell","cells"]:List Str).Nodup by decide+kernel) rfl (Or.inl rfl))) (fun cl s H fp=>ba) (fun cl s H fp=>(ay (cQ hu) (pv 1) (pv 2) (by with_unfolding_all rfl)))) ab))))
abbrev jZ:Stmt:=mtop 92 0
theorem Ff:ak ["self","floor","words","cells","amount","mark"] ["self","floor","words","cells","amount","mark"] (ag jZ):=by ac_rfl
theorem r8(B:Bt2 mg){c:RCl RK}(GW:FldK K c "amount")(G8:FldK K c "cells")(Hh:FldK K c "floor")(Ho:FldK K c "mark")(Ii:FldK K c "words")(F:Fun K "__init__" "Rule.__init__" jZ f fd):FnOk P w K mg base CX0 1 f fd ["self","floor","words","cells","amount","mark"] (ax K c):=okk F Ff rD fun hr hu nd=>(ac (jg (pv 0) (pv 1) Hh)
   (ac (jg (pv 0) (bG rh rfl B.tuple_ ke (aa (pv 2) ab)) Ii)
   (ac (jg (pv 0) (bG rh rfl B.tuple_ ke (aa (pv 3) ab)) G8)
   (ac (jg (pv 0) (pv 4) GW)
   (ae (jg (pv 0) (pv 5) Ho))))))
abbrev nV:Stmt:=mtop 92 1
theorem Fg:ak ["self"] ["self"] (ag nV):=by ac_rfl
theorem xQ(B:Bt2 mg){c:RCl RK}(Ii:FldK K c "words")(F:Fun K "name" "Rule.name" nV f fd):FnOk P w K mg base CX0 1 f fd ["self"] (mr K c):=okk F Fg wW fun hr hu nd=>(ae (af (kix hu (bJ (pv 0) Ii) ad)))
abbrev mN:Stmt:=mtop 92 2
theorem Fh:ak ["self"] ["self"] (ag mN):=by ac_rfl
theorem vV(B:Bt2 mg){c:RCl RK}(G8:FldK K c "cells")(F:Fun K "spots" "Rule.spots" mN f fd):FnOk P w K mg base CX0 1 f fd ["self"] (lu K c):=okk F Fh vJ fun hr hu nd=>(ae (af (bG cG rfl B.list_ cm (aa (bJ (pv 0) G8) ab))))
abbrev lK:Stmt:=mtop 92 3
theorem Fi:ak ["self"] ["self"] (ag lK):=by ac_rfl
theorem u7(B:Bt2 mg){c:RCl RK}(GW:FldK K c "amount")(F:Fun K "number" "Rule.number" lK f fd):FnOk P w K mg base CX0 1 f fd ["self"] (kh K c):=okk F Fi uG fun hr hu nd=>(ae (af (bJ (pv 0) GW)))
abbrev nX:Stmt:=mtop 92 4
theorem Fj:ak ["self"] ["self"] (ag nX):=by ac_rfl
theorem xR(B:Bt2 mg){c:RCl RK}(Ho:FldK K c "mark")(F:Fun K "sign" "Rule.sign" nX f fd):FnOk P w K mg base CX0 1 f fd ["self"] (mw K c):=okk F Fj wX fun hr hu nd=>(ae (af (bJ (pv 0) Ho)))
abbrev j2:Stmt:=mtop 92 8
theorem Fk:ak ["self","filling"] ["self","filling"] (ag j2):=by ac_rfl
theorem se(B:Bt2 mg){c:RCl RK}(G8:FldK K c "cells")(F:Fun K "signs_at" "Rule.signs_at" j2 f fd):FnOk P w K mg base CX0 1 f fd ["self","filling"] (iR K c):=okk F Fk rE fun hr hu nd=>(ae (af (aK (ix:=[none,none,some 1]) [".0","cell","filling"] (aF rfl (by decide+kernel) rfl rfl rfl) rfl (wv (bJ (pv 0) G8)) (fun cl s H fp=>(av (i:=1) (show([".0","cell","filling"]:List Str).Nodup by decide+kernel) rfl (Or.inl rfl))) (fun cl s H fp=>ba) (fun cl s H fp=>(kix hu (pv 2) (pv 1))))))
abbrev lL:Stmt:=mtop 92 9
theorem Fl:ak ["self","filling"] ["self","filling"] (ag lL):=by ac_rfl
theorem kB(B:Bt2 mg){c:RCl RK}(G8:FldK K c "cells")(Ho:FldK K c "mark")(F:Fun K "marked" "Rule.marked" lL f fd):FnOk P w K mg base CX0 1 f fd ["self","filling"] (dP K c):=okk F Fl uO fun hr hu nd=>(ae (af (aK (ix:=[none,none,some 1,some 0]) [".0","cell","filling","self"] (aF rfl (by decide+kernel) rfl rfl rfl) rfl (wv (bJ (pv 0) G8)) (fun cl s H fp=>(av (i:=1) (show([".0","cell","filling","self"]:List Str).Nodup by decide+kernel) rfl (Or.inl rfl))) (fun cl s H fp=>(bi (aj (az hu) (kix hu (pv 2) (pv 1)) (bJ (pv 3) Ho) (ai _)))) (fun cl s H fp=>(pv 1)))))
abbrev nY:Stmt:=top 108
theorem Fm:ak ["word"] ["word"] (ag nY):=by ac_rfl
theorem xS(B:Bt2 mg){t_FIGURES:Tok}(Mt:mg "FIGURES"=some (.str (tx [48,49,50,51,52,53,54,55,56,57]) t_FIGURES)){t_MOST_FIGURES:Tok}(Ju:mg "MOST_FIGURES"=some (.int 9 t_MOST_FIGURES))(F:Fun K "number_in" "number_in" nY f fd):FnOk P w K mg base CX0 1 f fd ["word"] (gp K):=okk F Fm wY fun hr hu nd=>(ac (aw (Sm (bw (aj (az hu) (pv 0) aH (ai _)) (bw (aj eX (au aG rfl B.len_ aR (aa (pv 0) ab)) (cL rfl Ju ⟨t_MOST_FIGURES,rfl⟩) (ai _)) (bQ (Sm (sC (aj (az hu) (kix hu (pv 0) ad) aH (ai _)) (qw (aj (aW hu) (pv 0) aH (ai _))))))))) (ae (af l9)) ap)
   (ac (aw (bh (aO (au (df rfl) rfl B.all_ jn (aa (aK (ix:=[none,none]) [".0","figure"] (aF rfl (by decide+kernel) rfl rfl rfl) rfl (DP (pv 0)) (fun cl s H fp=>(av (i:=1) (show([".0","figure"]:List Str).Nodup by decide+kernel) rfl (Or.inl rfl))) (fun cl s H fp=>ba) (fun cl s H fp=>(ay (cQ hu) (pv 1) (cL rfl Mt ⟨t_FIGURES,rfl⟩) (by with_unfolding_all rfl)))) ab)))) (ae (af l9)) ap)
   (ae (af (bG zx rfl B.int_ wI (aa (pv 0) ab))))))
abbrev kC:Stmt:=mtop 121 1
theorem Fn:ak ["self"] ["self"] (ag kC):=by ac_rfl
theorem ua(B:Bt2 mg){c:RCl RK}{d:RCl PzK}(Hq:FldK K d "floor")(F:Fun K "place" "Puzzle.place" kC f fd):FnOk P w K mg base CX0 1 f fd ["self"] (jz K c d):=okk F Fn tE fun hr hu nd=>(ae (af (bJ (pv 0) Hq)))
abbrev kD:Stmt:=mtop 121 3
theorem Fo:ak ["self"] ["self"] (ag kD):=by ac_rfl
theorem ub(B:Bt2 mg){c:RCl RK}{d:RCl PzK}(Ij:FldK K d "given")(F:Fun K "clues" "Puzzle.clues" kD f fd):FnOk P w K mg base CX0 1 f fd ["self"] (jB K c d):=okk F Fo tF fun hr hu nd=>(ae (af (bG cG rfl B.list_ cm (aa (bJ (pv 0) Ij) ab))))
abbrev kE:Stmt:=mtop 121 4
theorem Fp:ak ["self"] ["self"] (ag kE):=by ac_rfl
theorem uc(B:Bt2 mg){c:RCl RK}{d:RCl PzK}(IV:FldK K d "laws")(F:Fun K "rules" "Puzzle.rules" kE f fd):FnOk P w K mg base CX0 1 f fd ["self"] (jD K c d):=okk F Fp tG fun hr hu nd=>(ae (af (bG cG rfl B.list_ cm (aa (bJ (pv 0) IV) ab))))
abbrev kF:Stmt:=top 123
theorem Fq:ak ["_law_script","_law_k"] ["_law_script","_law_k"] (ag kF):=by ac_rfl
theorem ud(B:Bt2 mg)(F:Fun K "_law_cell_at" "_law_cell_at" kF f fd):FnOk P w K mg base CX0 1 f fd ["_law_script","_law_k"] (bm K):=okk F Fq xI fun hr hu nd=>(ac (aw (aj cC (pv 1) (au pG rfl B.len_ aR (aa (pv 0) ab)) (ai _)) (ae (af (sH yK (pv 0) (pv 1) (fun _ _=>rfl)))) ap)
   (ae (af ad)))
abbrev mO:Stmt:=top 124
theorem Fr:ak ["_law_number","_law_many","_law_left","_law_found","_law_k"] ["_law_number","_law_many"] (ag mO):=by ac_rfl
theorem vW(B:Bt2 mg)(F:Fun K "_law_order" "_law_order" mO f fd):FnOk P w K mg base CX0 1 f fd ["_law_number","_law_many"] (b5 K):=okk F Fr t5 fun hr hu nd=>(ac (kset 2 nd (nq rfl rfl rfl B.list_ B.range_ (aa (pv 1) ab)))
   (ac (kset 3 nd (aE ab))
   (ac (bK Rb rfl (gd rfl B.range_ (aa (pv 1) ab)) (av (i:=4) nd rfl (Or.inl rfl))
   (ae (cc (ca QM Rn Rp bX (pv 3) (aa (ca QM PySem.F.slot_list_pop PySem.F.type_list_pop AM (pv 2) (aa (ar aX (ar b6 (pv 0) (ar aM (pv 4) ad)) (au aG rfl B.len_ aR (aa (pv 2) ab))) ab)) ab)))))
   (ae (af (pv 3))))))
abbrev ja:Stmt:=top 11
theorem Fs:ak ["value","most"] ["value","most"] (ag ja):=by ac_rfl
theorem qV(B:Bt2 mg)(G0:Cal P w K mg base 1 "is_whole" ["value"] (bp K))(F:Fun K "is_from_one_to" "is_from_one_to" ja f fd):FnOk P w K mg base CX0 2 f fd ["value","most"] (bg K):=okk F Fs qN fun hr hu nd=>(ae (af (br (kcal G0 hr (aa (pv 0) ab)) (br (ay h9 ad (pv 0) (ai _)) (bD (ay h9 (pv 0) (pv 1) (ai _)))))))
abbrev sf:Stmt:=top 15
theorem ET:ak ["floor","cell","high","wide","spot","found"] ["floor","cell"] (ag sf):=by ac_rfl
theorem Bu(B:Bt2 mg)(IW:Cal P w K mg base 1 "spot_of" ["floor","cell"] (dY K))(F:Fun K "beside" "beside" sf f fd):FnOk P w K mg base CX0 2 f fd ["floor","cell"] (bH K):=okk F ET AI fun hr hu nd=>(ac (kset 2 nd (kix hu (pv 0) ad))
   (ac (kset 3 nd (kix hu (pv 0) ad))
   (ac (kset 4 nd (kcal IW hr (aa (pv 0) (aa (pv 1) ab))))
   (ac (kset 5 nd (aE ab))
   (ac (aw (aj eX (kix hu (pv 4) ad) ad (ai _)) (ae (cc (ca QM Rn Rp bX (pv 5) (aa (ar cf (pv 1) (pv 3)) ab)))) ap)
   (ac (aw (aj eX (kix hu (pv 4) ad) ad (ai _)) (ae (cc (ca QM Rn Rp bX (pv 5) (aa (ar cf (pv 1) ad) ab)))) ap)
   (ac (aw (aj cC (kix hu (pv 4) ad) (ar cf (pv 3) ad) (ai _)) (ae (cc (ca QM Rn Rp bX (pv 5) (aa (ar aM (pv 1) ad) ab)))) ap)
   (ac (aw (aj cC (kix hu (pv 4) ad) (ar cf (pv 2) ad) (ai _)) (ae (cc (ca QM Rn Rp bX (pv 5) (aa (ar aM (pv 1) (pv 3)) ab)))) ap)
   (ae (af (pv 5)))))))))))
abbrev nZ:Stmt:=top 16
theorem Ft:ak ["floor","cell","spot"] ["floor","cell"] (ag nZ):=by ac_rfl
theorem xT(B:Bt2 mg)(IW:Cal P w K mg base 1 "spot_of" ["floor","cell"] (dY K))(F:Fun K "is_corner" "is_corner" nZ f fd):FnOk P w K mg base CX0 2 f fd ["floor","cell"] (gl K):=okk F Ft wU fun hr hu nd=>(ac (kset 2 nd (kcal IW hr (aa (pv 0) (aa (pv 1) ab))))
   (ae (af (br (ay cC (kix hu (pv 2) ad) (ar cf (kix hu (pv 0) ad) ad) (ai _)) (bD (ay cC (kix hu (pv 2) ad) (ar cf (kix hu (pv 0) ad) ad) (ai _)))))))
abbrev qj:Stmt:=top 23
theorem Fu:ak ["mask","sign"] ["mask","sign"] (ag qj):=by ac_rfl
theorem zV(B:Bt2 mg)(NC:Cal P w K mg base 1 "bit_of" ["sign"] (lc K))(Hc:Cal P w K mg base 1 "stands" ["mask","sign"] (bT K))(F:Fun K "without" "without" qj f fd):FnOk P w K mg base CX0 2 f fd ["mask","sign"] (d8 K):=okk F Fu zC fun hr hu nd=>(ae (af (iM (aO (kcal Hc hr (aa (pv 0) (aa (pv 1) ab)))) (ar cf (pv 0) (kcal NC hr (aa (pv 1) ab))) (pv 0))))
abbrev oZ:Stmt:=top 25
theorem Fv:ak ["mask"] ["mask"] (ag oZ):=by ac_rfl
theorem yz(B:Bt2 mg)(Hc:Cal P w K mg base 1 "stands" ["mask","sign"] (bT K))(F:Fun K "signs_in" "signs_in" oZ f fd):FnOk P w K mg base CX0 2 f fd ["mask"] (aP K):=okk F Fv yh fun hr hu nd=>(ae (af (aK (ix:=[none,none,some 0]) [".0","sign","mask"] (aF rfl (by decide+kernel) rfl rfl rfl) rfl (vh rfl B.range_ (aa ad (aa (ar aM (sI TF S6 S7 sR (pv 0)) ad) ab))) (fun cl s H fp=>(av (i:=1) (show([".0","sign","mask"]:List Str).Nodup by decide+kernel) rfl (Or.inl rfl))) (fun cl s H fp=>(bi (aO (kcal Hc hr (aa (pv 2) (aa (pv 1) ab)))))) (fun cl s H fp=>(pv 1)))))
abbrev qk:Stmt:=top 32
theorem Fw:ak ["floor","value"] ["floor","value"] (ag qk):=by ac_rfl
theorem zW(B:Bt2 mg)(G0:Cal P w K mg base 1 "is_whole" ["value"] (bp K))(GO:Cal P w K mg base 1 "many_cells" ["floor"] (aU K))(F:Fun K "is_cell" "is_cell" qk f fd):FnOk P w K mg base CX0 2 f fd ["floor","value"] (d9 K):=okk F Fw zD fun hr hu nd=>(ae (af (br (kcal G0 hr (aa (pv 1) ab)) (br (ay h9 ad (pv 1) (ai _)) (bD (ay cC (pv 1) (kcal GO hr (aa (pv 0) ab)) (ai _)))))))
abbrev ql:Stmt:=top 34
theorem Fx:ak ["kind","rule"] ["kind","rule"] (ag ql):=by ac_rfl
theorem zX(B:Bt2 mg){c:RCl RK}(Pg:MCal P w K mg base c c.ok 1 "name" ["self"] (qI K c))(Jb:GDict w K mg "RULES_OF_KIND" gd_RULES_OF_KIND)(F:Fun K "goes_by" "goes_by" ql f fd):FnOk P w K mg base CX0 2 f fd ["kind","rule"] (eF K c):=okk F Fx zF fun hr hu nd=>(ae (af (sD (ay (az hu) (pv 0) aH (ai _)) (bD (ay D3 (aJ Pg hr (by decide) (pv 1)) (D2 Jb (pv 0) rfl (fun _ _=>rfl)) (by with_unfolding_all rfl))))))
abbrev sh:Stmt:=top 37
theorem Fy:ak ["rule","cell"] ["rule","cell"] (ag sh):=by ac_rfl
theorem Bv(B:Bt2 mg){c:RCl RK}(G2:MCal P w K mg base c c.ok 1 "spots" ["self"] (bF K c))(F:Fun K "others" "others" sh f fd):FnOk P w K mg base CX0 2 f fd ["rule","cell"] (aQ K c):=okk F Fy AW fun hr hu nd=>(ae (af (aK (ix:=[none,none,some 1]) [".0","spot","cell"] (aF rfl (by decide+kernel) rfl rfl rfl) rfl (aB (aJ G2 hr (by decide) (pv 0))) (fun cl s H fp=>(av (i:=1) (show([".0","spot","cell"]:List Str).Nodup by decide+kernel) rfl (Or.inl rfl))) (fun cl s H fp=>(bi (aj (aW hu) (pv 1) (pv 2) (ai _)))) (fun cl s H fp=>(pv 1)))))
abbrev o0:Stmt:=top 40
theorem Fz:ak ["some","sign"] ["some","sign"] (ag o0):=by ac_rfl
theorem yA(B:Bt2 mg)(Hc:Cal P w K mg base 1 "stands" ["mask","sign"] (bT K))(F:Fun K "many_may" "many_may" o0 f fd):FnOk P w K mg base CX0 2 f fd ["some","sign"] (bV K):=okk F Fz yn fun hr hu nd=>(ae (af (au aG rfl B.len_ aR (aa (aK (ix:=[none,none,some 1]) [".0","mask","sign"] (aF rfl (by decide+kernel) rfl rfl rfl) rfl (aB (pv 0)) (fun cl s H fp=>(av (i:=1) (show([".0","mask","sign"]:List Str).Nodup by decide+kernel) rfl (Or.inl rfl))) (fun cl s H fp=>(bi (aO (kcal Hc hr (aa (pv 1) (aa (pv 2) ab)))))) (fun cl s H fp=>(pv 1))) ab))))
abbrev o4:Stmt:=top 46
theorem FA:ak ["rule","cell","spots","place"] ["rule","cell"] (ag o4):=by ac_rfl
theorem yB(B:Bt2 mg){c:RCl RK}(G2:MCal P w K mg base c c.ok 1 "spots" ["self"] (bF K c))(F:Fun K "ahead_of" "ahead_of" o4 f fd):FnOk P w K mg base CX0 2 f fd ["rule","cell"] (ig K c):=okk F FA yo fun hr hu nd=>(ac (kset 2 nd (aJ G2 hr (by decide) (pv 0)))
   (ac (kset 3 nd (ca QM RO RP (jf hu) (pv 2) (aa (pv 1) ab)))
   (ae (af (iM (aj eX (pv 3) ad (ai _)) (ge m7 (pv 2) (fH (ar cf (pv 3) ad)) (fH (pv 3))) (aE ab))))))
abbrev si:Stmt:=top 47
theorem EU:ak ["rule","cell","spots","place"] ["rule","cell"] (ag si):=by ac_rfl
theorem Bw(B:Bt2 mg){c:RCl RK}(G2:MCal P w K mg base c c.ok 1 "spots" ["self"] (bF K c))(F:Fun K "behind" "behind" si f fd):FnOk P w K mg base CX0 2 f fd ["rule","cell"] (ld K c):=okk F EU AY fun hr hu nd=>(ac (kset 2 nd (aJ G2 hr (by decide) (pv 0)))
   (ac (kset 3 nd (ca QM RO RP (jf hu) (pv 2) (aa (pv 1) ab)))
   (ae (af (ge m7 (pv 2) (fH (ar aM (pv 3) ad)) (fH (ar aM (pv 3) ad)))))))
abbrev jb:Stmt:=top 60
theorem sq8:ak ["fillings","cell","signs","found","filling"] ["fillings","cell","signs"] (ag jb):=by ac_rfl
theorem qW(B:Bt2 mg)(Hz:Cal P w K mg base 1 "with_sign" ["filling","cell","sign"] (cY K))(F:Fun K "with_each_sign" "with_each_sign" jb f fd):FnOk P w K mg base CX0 2 f fd ["fillings","cell","signs"] (cF K):=okk F sq8 qT fun hr hu nd=>(ac (kset 3 nd (aE ab))
   (ac (bK Rb rfl (aB (pv 0)) (av (i:=4) nd rfl (Or.inr rfl))
   (ae (cc (ca QM To Tp sN (pv 3) (aa (aK (ix:=[none,none,some 1,some 4]) [".0","sign","cell","filling"] (aF rfl (by decide+kernel) rfl rfl rfl) rfl (aB (pv 2)) (fun cl s H fp=>(av (i:=1) (show([".0","sign","cell","filling"]:List Str).Nodup by decide+kernel) rfl (Or.inl rfl))) (fun cl s H fp=>ba) (fun cl s H fp=>(kcal Hz hr (aa (pv 3) (aa (pv 2) (aa (pv 1) ab)))))) ab)))))
   (ae (af (pv 3)))))
abbrev kG:Stmt:=top 84
theorem FB:ak ["puzzle","kind","number"] ["puzzle","kind","number"] (ag kG):=by ac_rfl
theorem ue(B:Bt2 mg){c:RCl RK}{d:RCl PzK}(GO:Cal P w K mg base 1 "many_cells" ["floor"] (aU K))(Hg:MCal P w K mg base d d.ok 1 "place" ["self"] (cA K c d))(GZ:MCal P w K mg base d d.ok 1 "rules" ["self"] (bq K c d))(G2:MCal P w K mg base c c.ok 1 "spots" ["self"] (bF K c))(F:Fun K "cells_to_try" "cells_to_try" kG f fd):FnOk P w K mg base CX0 2 f fd ["puzzle","kind","number"] (dv K c d):=okk F FB tY fun hr hu nd=>(ac (aw (aj (az hu) (pv 1) aH (ai _)) (ae (af (nq rfl rfl rfl B.list_ B.range_ (aa (kcal GO hr (aa (aJ Hg hr (by decide) (pv 0)) ab)) ab)))) ap)
   (ae (af (au jk rfl B.sorted_ m5 (aa (aJ G2 hr (by decide) (kix hu (aJ GZ hr (by decide) (pv 0)) (pv 2))) ab)))))
abbrev kH:Stmt:=mtop 93 0
theorem FC:ak ["self","filling","signs"] ["self","filling"] (ag kH):=by ac_rfl
theorem uf(B:Bt2 mg){c:RCl RK}(G9:MCal P w K mg base c c.ok 1 "signs_at" ["self","filling"] (bU K c))(F:Fun K "holds" "Unlike.holds" kH f fd):FnOk P w K mg base CX0 2 f fd ["self","filling"] (jx K c):=okk F FC tz fun hr hu nd=>(ac (kset 2 nd (cz G9 hr (by decide) (pv 0) (aa (pv 1) ab)))
   (ae (af (ay (az hu) (vy rfl rfl rfl B.len_ B.set_ (pv 2)) (au aG rfl B.len_ aR (aa (pv 2) ab)) (ai _)))))
abbrev n6:Stmt:=mtop 94 1
theorem FD:ak ["self","filling"] ["self","filling"] (ag n6):=by ac_rfl
theorem xU(B:Bt2 mg){c:RCl RK}(GW:FldK K c "amount")(G9:MCal P w K mg base c c.ok 1 "signs_at" ["self","filling"] (bU K c))(F:Fun K "holds" "Sum.holds" n6 f fd):FnOk P w K mg base CX0 2 f fd ["self","filling"] (mE K c):=okk F FD xh fun hr hu nd=>(ae (af (ay (az hu) (au (pO rfl) rfl B.sum_ wM (aa (cz G9 hr (by decide) (pv 0) (aa (pv 1) ab)) ab)) (bJ (pv 0) GW) (ai _))))
abbrev kI:Stmt:=mtop 95 1
theorem FE:ak ["self","filling","signs"] ["self","filling"] (ag kI):=by ac_rfl
theorem ug(B:Bt2 mg){c:RCl RK}(G9:MCal P w K mg base c c.ok 1 "signs_at" ["self","filling"] (bU K c))(F:Fun K "holds" "Rising.holds" kI f fd):FnOk P w K mg base CX0 2 f fd ["self","filling"] (jM K c):=okk F FE tP fun hr hu nd=>(ac (gc (i:=2) nd rfl (Or.inr rfl) (cz G9 hr (by decide) (pv 0) (aa (pv 1) ab)))
   (ae (af (au (df rfl) rfl B.all_ jn (aa (aK (ix:=[none,none,some 2]) [".0","place","signs"] (aF rfl (by decide+kernel) rfl rfl rfl) rfl (gd rfl B.range_ (aa (ar cf (au aG rfl B.len_ aR (aa (pv 2) ab)) ad) ab)) (fun cl s H fp=>(av (i:=1) (show([".0","place","signs"]:List Str).Nodup by decide+kernel) rfl (Or.inl rfl))) (fun cl s H fp=>ba) (fun cl s H fp=>(ay cC (kix hu (pv 2) (pv 1)) (kix hu (pv 2) (ar aM (pv 1) ad)) (ai _)))) ab)))))
abbrev mP:Stmt:=mtop 96 1
theorem FF:ak ["self","filling","greatest","seen","sign"] ["self","filling"] (ag mP):=by ac_rfl
theorem vX(B:Bt2 mg){c:RCl RK}(GW:FldK K c "amount")(G9:MCal P w K mg base c c.ok 1 "signs_at" ["self","filling"] (bU K c))(F:Fun K "holds" "Seen.holds" mP f fd):FnOk P w K mg base CX0 2 f fd ["self","filling"] (lB K c):=okk F FF vO fun hr hu nd=>(ac (kset 2 nd ad)
   (ac (kset 3 nd ad)
   (ac (bK Rb rfl (aB (cz G9 hr (by decide) (pv 0) (aa (pv 1) ab))) (av (i:=4) nd rfl (Or.inl rfl))
   (ae (aw (aj eX (pv 4) (pv 2) (ai _)) (ac (kset 2 nd (pv 4))
   (ae (kset 3 nd (ar aM (pv 3) ad)))) ap)))
   (ae (af (ay (az hu) (pv 3) (bJ (pv 0) GW) (ai _)))))))
abbrev lM:Stmt:=mtop 97 0
theorem FG:ak ["self","filling"] ["self","filling"] (ag lM):=by ac_rfl
theorem u8(B:Bt2 mg){c:RCl RK}(GW:FldK K c "amount")(Hs:MCal P w K mg base c c.ok 1 "marked" ["self","filling"] (b9 K c))(F:Fun K "holds" "Count.holds" lM f fd):FnOk P w K mg base CX0 2 f fd ["self","filling"] (ko K c):=okk F FG uP fun hr hu nd=>(ae (af (ay (az hu) (au aG rfl B.len_ aR (aa (cz Hs hr (by decide) (pv 0) (aa (pv 1) ab)) ab)) (bJ (pv 0) GW) (ai _))))
abbrev j3:Stmt:=top 109
theorem FH:ak ["word","least","most","number"] ["word","least","most"] (ag j3):=by ac_rfl
theorem sj(B:Bt2 mg)(K0:Cal P w K mg base 1 "number_in" ["word"] (gp K))(F:Fun K "number_within" "number_within" j3 f fd):FnOk P w K mg base CX0 2 f fd ["word","least","most"] (bP K):=okk F FH rF fun hr hu nd=>(ac (kset 3 nd (kcal K0 hr (aa (pv 0) ab)))
   (ac (aw (Sm (bw (aj Ai (pv 3) l9 (ai _)) (bw (aj cC (pv 3) (pv 1) (ai _)) (bQ (aj eX (pv 3) (pv 2) (ai _)))))) (ae bW) ap)
   (ae (af (pv 3)))))
abbrev mQ:Stmt:=top 119
theorem FI:ak ["floor","filling","least"] ["floor","filling","least"] (ag mQ):=by ac_rfl
theorem vY(B:Bt2 mg)(G0:Cal P w K mg base 1 "is_whole" ["value"] (bp K))(GO:Cal P w K mg base 1 "many_cells" ["floor"] (aU K))(F:Fun K "is_filling" "is_filling" mQ f fd):FnOk P w K mg base CX0 2 f fd ["floor","filling","least"] (fA K):=okk F FI vM fun hr hu nd=>(ac (aw (Sm (bw (bh (aO (au bS rfl B.isinstance_ bb (aa (pv 1) (aa (cM (v:=.ty "list") rfl B.list_ cm rfl) ab))))) (bQ (aj (aW hu) (au aG rfl B.len_ aR (aa (pv 1) ab)) (kcal GO hr (aa (pv 0) ab)) (ai _))))) (ae (af bn)) ap)
   (ae (af (au (df rfl) rfl B.all_ jn (aa (aK (ix:=[none,none,some 0,some 2]) [".0","sign","floor","least"] (aF rfl (by decide+kernel) rfl rfl rfl) rfl (aB (pv 1)) (fun cl s H fp=>(av (i:=1) (show([".0","sign","floor","least"]:List Str).Nodup by decide+kernel) rfl (Or.inl rfl))) (fun cl s H fp=>ba) (fun cl s H fp=>(br (kcal G0 hr (aa (pv 1) ab)) (br (ay h9 (pv 3) (pv 1) (ai _)) (bD (ay h9 (pv 1) (kix hu (pv 2) ad) (ai _))))))) ab)))))
abbrev o5:Stmt:=top 125
theorem FJ:ak ["_law_cell","_law_many","_law_signs","_law_word","_law_order_here","_law_numbers"] ["_law_cell","_law_many","_law_signs"] (ag o5):=by ac_rfl
theorem yC(B:Bt2 mg)(Hw:Cal P w K mg base 1 "_law_order" ["_law_number","_law_many"] (b5 K))(F:Fun K "_law_row" "_law_row" o5 f fd):FnOk P w K mg base CX0 2 f fd ["_law_cell","_law_many","_law_signs"] (fG K):=okk F FJ vT fun hr hu nd=>(ac (kset 3 nd (kix hu (aE (aa aH (aa aH (aa aH (aa aH (aa aH (aa aH (aa aH (aa aH (aa aH (aa aH ab))))))))))) (ar aX (pv 0) ad)))
   (ac (aw (aj (cQ hu) (pv 3) (de (aa aH (aa aH (aa aH ab)))) (by with_unfolding_all rfl)) (ae (af (ar aM (ar aM (pv 3) aH) (bG vx rfl B.str_ wJ (aa (ar aM ad (ar aX (ar b6 (pv 0) ad) (pv 2))) ab))))) ap)
   (ac (kset 4 nd (ge m7 (kcal Hw hr (aa (ar b6 (pv 0) ad) (aa (pv 1) ab))) l6 (fH (ar aM ad (ar aX (ar b6 (pv 0) ad) (pv 1))))))
   (ac (aw (aj (cQ hu) (pv 3) (de (aa aH (aa aH ab))) (by with_unfolding_all rfl)) (ae (kset 4 nd (ge m7 (pv 4) l6 (fH (pv 2))))) ap)
   (ac (kset 5 nd (aE ab))
   (ac (aw (aj (az hu) (pv 3) aH (ai _)) (ae (kset 5 nd (aE (aa (ar aM (au aG rfl B.len_ aR (aa (pv 4) ab)) (ar aX (ar b6 (pv 0) ad) (ar aM (ar bI ad (au aG rfl B.len_ aR (aa (pv 4) ab))) ad))) ab)))) ap)
   (ac (aw (aj (az hu) (pv 3) aH (ai _)) (ae (kset 5 nd (aE (aa (ar aM ad (ar aX (ar b6 (pv 0) ad) ad)) ab)))) ap)
   (ac (aw (aj (az hu) (pv 3) aH (ai _)) (ae (kset 5 nd (aE (aa (ar aX (ar b6 (pv 0) ad) (ar aM (au aG rfl B.len_ aR (aa (pv 4) ab)) ad)) (aa (ar aM ad (ar aX (ar b6 (pv 0) ad) (pv 2))) ab))))) ap)
   (ae (af (ca TH PySem.F.slot_str_join PySem.F.type_str_join AL aH (aa (ar aM (aE (aa (pv 3) ab)) (aK (ix:=[none,none]) [".0","_law_one"] (aF rfl (by decide+kernel) rfl rfl rfl) rfl (aB (ar aM (pv 5) (pv 4))) (fun cl s H fp=>(av (i:=1) (show([".0","_law_one"]:List Str).Nodup by decide+kernel) rfl (Or.inl rfl))) (fun cl s H fp=>ba) (fun cl s H fp=>(bG vx rfl B.str_ wJ (aa (pv 1) ab))))) ab))))))))))))
abbrev mR:Stmt:=top 127
theorem FK:ak ["_law_script","_law_many","_law_signs","_law_whole","_law_masks_here","_law_k","_law_cell"] ["_law_script","_law_many","_law_signs"] (ag mR):=by ac_rfl
theorem vZ(B:Bt2 mg)(GU:Cal P w K mg base 1 "_law_cell_at" ["_law_script","_law_k"] (bm K))(F:Fun K "_law_masks" "_law_masks" mR f fd):FnOk P w K mg base CX0 2 f fd ["_law_script","_law_many","_law_signs"] (dz K):=okk F FK t6 fun hr hu nd=>(ac (kset 3 nd (kix hu (aE (aa ad (aa ad (aa ad (aa ad ab))))) (ar cf (pv 2) ad)))
   (ac (kset 4 nd (aE ab))
   (ac (bK Rb rfl (gd rfl B.range_ (aa (pv 1) ab)) (av (i:=5) nd rfl (Or.inl rfl))
   (ac (kset 6 nd (ar aX (ar bI (ar aM (kcal GU hr (aa (pv 0) (aa (ar aM ad (pv 5)) ab))) (ar bI (ar bI ad (pv 5)) (pv 5))) ad) ad))
   (ae (cc (ca QM Rn Rp bX (pv 4) (aa (kix hu (aE (aa (pv 3) (aa (pv 3) (aa (pv 3) (aa (ar aM ad (ar aX (ar b6 (pv 6) ad) (pv 3))) ab))))) (ar aX (pv 6) ad)) ab))))))
   (ac (kset 6 nd (ar aX (ar bI (kcal GU hr (aa (pv 0) (aa ad ab))) ad) ad))
   (ac (aw (aj (az hu) (ar aX (pv 6) ad) ad (ai _)) (ae (wr ad (Ad (pv 4) (ar aX (ar b6 (pv 6) ad) (pv 1)) (Cb hu)))) ap)
   (ae (af (pv 4))))))))
abbrev o6:Stmt:=top 12
theorem FL:ak ["high","wide","signs"] ["high","wide","signs"] (ag o6):=by ac_rfl
theorem yD(B:Bt2 mg)(G5:Cal P w K mg base 2 "is_from_one_to" ["value","most"] (bg K)){t_MOST_CELLS:Tok}(Kr:mg "MOST_CELLS"=some (.int 16 t_MOST_CELLS)){t_MOST_SIDE:Tok}(JS:mg "MOST_SIDE"=some (.int 6 t_MOST_SIDE)){t_MOST_SIGNS:Tok}(Ks:mg "MOST_SIGNS"=some (.int 6 t_MOST_SIGNS))(F:Fun K "floor_of" "floor_of" o6 f fd):FnOk P w K mg base CX0 3 f fd ["high","wide","signs"] (ic K):=okk F FL yf fun hr hu nd=>(ac (aw (bh (aO (kcal G5 hr (aa (pv 0) (aa (cL rfl JS ⟨t_MOST_SIDE,rfl⟩) ab))))) (ae bW) ap)
   (ac (aw (bh (aO (kcal G5 hr (aa (pv 1) (aa (cL rfl JS ⟨t_MOST_SIDE,rfl⟩) ab))))) (ae bW) ap)
   (ac (aw (aj eX (ar bI (pv 0) (pv 1)) (cL rfl Kr ⟨t_MOST_CELLS,rfl⟩) (ai _)) (ae bW) ap)
   (ac (aw (bh (aO (kcal G5 hr (aa (pv 2) (aa (cL rfl Ks ⟨t_MOST_SIGNS,rfl⟩) ab))))) (ae bW) ap)
   (ae (af (de (aa (pv 0) (aa (pv 1) (aa (pv 2) ab))))))))))
abbrev qm:Stmt:=top 18
theorem FM:ak ["floor"] ["floor"] (ag qm):=by ac_rfl
theorem zY(B:Bt2 mg)(K1:Cal P w K mg base 2 "is_corner" ["floor","cell"] (gl K))(GO:Cal P w K mg base 1 "many_cells" ["floor"] (aU K))(K3:Cal P w K mg base 1 "square_at" ["floor","corner"] (gm K))(F:Fun K "squares" "squares" qm f fd):FnOk P w K mg base CX0 3 f fd ["floor"] (cH K):=okk F FM zy fun hr hu nd=>(ae (af (aK (ix:=[none,none,some 0]) [".0","cell","floor"] (aF rfl (by decide+kernel) rfl rfl rfl) rfl (gd rfl B.range_ (aa (kcal GO hr (aa (pv 0) ab)) ab)) (fun cl s H fp=>(av (i:=1) (show([".0","cell","floor"]:List Str).Nodup by decide+kernel) rfl (Or.inl rfl))) (fun cl s H fp=>(bi (aO (kcal K1 hr (aa (pv 2) (aa (pv 1) ab)))))) (fun cl s H fp=>(kcal K3 hr (aa (pv 2) (aa (pv 1) ab)))))))
abbrev qo:Stmt:=top 19
theorem FN:ak ["floor","cells","start","found","place","cell"] ["floor","cells","start"] (ag qo):=by ac_rfl
theorem zZ(B:Bt2 mg)(G7:Cal P w K mg base 2 "beside" ["floor","cell"] (bH K))(F:Fun K "reached" "reached" qo f fd):FnOk P w K mg base CX0 3 f fd ["floor","cells","start"] (b4 K):=okk F FN zI fun hr hu nd=>(ac (aw (aj (cJ hu) (pv 2) (pv 1) (by with_unfolding_all rfl)) (ae (af (aE ab))) ap)
   (ac (kset 3 nd (aE (aa (pv 2) ab)))
   (ac (kset 4 nd ad)
   (ac (wu Rb (aj cC (pv 4) (au aG rfl B.len_ aR (aa (pv 3) ab)) (ai _))
   (ac (bK Rb rfl (aB (kcal G7 hr (aa (pv 0) (aa (kix hu (pv 3) (pv 4)) ab)))) (av (i:=5) nd rfl (Or.inl rfl))
   (ae (aw (Sm (sC (aj (cQ hu) (pv 5) (pv 1) (by with_unfolding_all rfl)) (qw (aj (cJ hu) (pv 5) (pv 3) (by with_unfolding_all rfl))))) (ae (cc (ca QM Rn Rp bX (pv 3) (aa (pv 5) ab)))) ap)))
   (ae (kset 4 nd (ar aM (pv 4) ad)))))
   (ae (af (au jk rfl B.sorted_ m5 (aa (pv 3) ab))))))))
abbrev o7:Stmt:=top 24
theorem FO:ak ["mask","sign"] ["mask","sign"] (ag o7):=by ac_rfl
theorem yE(B:Bt2 mg)(IX:Cal P w K mg base 2 "without" ["mask","sign"] (d8 K))(F:Fun K "has_only" "has_only" o7 f fd):FnOk P w K mg base CX0 3 f fd ["mask","sign"] (bd K):=okk F FO yg fun hr hu nd=>(ae (af (ay (az hu) (kcal IX hr (aa (pv 0) (aa (pv 1) ab))) ad (ai _))))
abbrev sk:Stmt:=top 26
theorem EV:ak ["masks","cell","sign"] ["masks","cell","sign"] (ag sk):=by ac_rfl
theorem Bx(B:Bt2 mg)(IX:Cal P w K mg base 2 "without" ["mask","sign"] (d8 K))(F:Fun K "struck" "struck" sk f fd):FnOk P w K mg base CX0 3 f fd ["masks","cell","sign"] (gD K):=okk F EV Bc fun hr hu nd=>(ae (af (aK (ix:=[none,none,none,some 1,some 2]) [".0","place","mask","cell","sign"] (aF rfl (by decide+kernel) rfl rfl rfl) rfl (uB rfl B.enumerate_ (aa (pv 0) ab)) (fun cl s H fp=>(sE rfl (gb (av (i:=1) (show([".0","place","mask","cell","sign"]:List Str).Nodup by decide+kernel) rfl (Or.inl rfl)) (gb (av (i:=2) (show([".0","place","mask","cell","sign"]:List Str).Nodup by decide+kernel) rfl (Or.inl rfl)) qx)))) (fun cl s H fp=>ba) (fun cl s H fp=>(iM (aj (az hu) (pv 1) (pv 3) (ai _)) (kcal IX hr (aa (pv 2) (aa (pv 4) ab))) (pv 2))))))
abbrev xV:Stmt:=top 28
theorem EW:ak ["masks","product","mask"] ["masks"] (ag xV):=by ac_rfl
theorem Dn(B:Bt2 mg)(GK:Cal P w K mg base 2 "signs_in" ["mask"] (aP K))(F:Fun K "ways" "ways" xV f fd):FnOk P w K mg base CX0 3 f fd ["masks"] (oq K):=okk F EW C6 fun hr hu nd=>(ac (kset 1 nd ad)
   (ac (bK Rb rfl (aB (pv 0)) (av (i:=2) nd rfl (Or.inl rfl))
   (ae (kset 1 nd (ar bI (pv 1) (au aG rfl B.len_ aR (aa (kcal GK hr (aa (pv 2) ab)) ab))))))
   (ae (af (pv 1)))))
abbrev qp:Stmt:=top 33
theorem FP:ak ["floor","value"] ["floor","value"] (ag qp):=by ac_rfl
theorem z4(B:Bt2 mg)(G5:Cal P w K mg base 2 "is_from_one_to" ["value","most"] (bg K))(F:Fun K "is_sign" "is_sign" qp f fd):FnOk P w K mg base CX0 3 f fd ["floor","value"] (eh K):=okk F FP zE fun hr hu nd=>(ae (af (kcal G5 hr (aa (pv 1) (aa (kix hu (pv 0) ad) ab)))))
abbrev kJ:Stmt:=top 35
theorem FQ:ak ["puzzle","kind","number","cell","rules"] ["puzzle","kind","number","cell"] (ag kJ):=by ac_rfl
theorem uh(B:Bt2 mg){c:RCl RK}{d:RCl PzK}(IY:Cal P w K mg base 2 "goes_by" ["kind","rule"] (eF K c))(G0:Cal P w K mg base 1 "is_whole" ["value"] (bp K))(GZ:MCal P w K mg base d d.ok 1 "rules" ["self"] (bq K c d))(G2:MCal P w K mg base c c.ok 1 "spots" ["self"] (bF K c))(F:Fun K "has_its_rule" "has_its_rule" kJ f fd):FnOk P w K mg base CX0 3 f fd ["puzzle","kind","number","cell"] (dh K c d):=okk F FQ tH fun hr hu nd=>(ac (aw (Sm (bw (bh (aO (kcal G0 hr (aa (pv 2) ab)))) (bQ (aj cC (pv 2) ad (ai _))))) (ae (af bn)) ap)
   (ac (aw (aj (az hu) (pv 1) aH (ai _)) (ae (af (ay (az hu) (pv 2) ad (ai _)))) ap)
   (ac (kset 4 nd (aJ GZ hr (by decide) (pv 0)))
   (ac (aw (aj sM (pv 2) (au aG rfl B.len_ aR (aa (pv 4) ab)) (ai _)) (ae (af bn)) ap)
   (ae (af (br (kcal IY hr (aa (pv 1) (aa (kix hu (pv 4) (pv 2)) ab))) (bD (ay (cQ hu) (pv 3) (aJ G2 hr (by decide) (kix hu (pv 4) (pv 2))) (by with_unfolding_all rfl))))))))))
abbrev j4:Stmt:=top 48
theorem FR:ak ["sign","mask"] ["sign","mask"] (ag j4):=by ac_rfl
theorem so(B:Bt2 mg)(GK:Cal P w K mg base 2 "signs_in" ["mask"] (aP K))(F:Fun K "is_no_greater" "is_no_greater" j4 f fd):FnOk P w K mg base CX0 3 f fd ["sign","mask"] (cX K):=okk F FR rM fun hr hu nd=>(ae (af (au (df rfl) rfl B.all_ jn (aa (aK (ix:=[none,none,some 0]) [".0","other","sign"] (aF rfl (by decide+kernel) rfl rfl rfl) rfl (aB (kcal GK hr (aa (pv 1) ab))) (fun cl s H fp=>(av (i:=1) (show([".0","other","sign"]:List Str).Nodup by decide+kernel) rfl (Or.inl rfl))) (fun cl s H fp=>ba) (fun cl s H fp=>(ay h9 (pv 2) (pv 1) (ai _)))) ab))))
abbrev mS:Stmt:=top 49
theorem FS:ak ["sign","mask"] ["sign","mask"] (ag mS):=by ac_rfl
theorem wa(B:Bt2 mg)(GK:Cal P w K mg base 2 "signs_in" ["mask"] (aP K))(F:Fun K "is_no_less" "is_no_less" mS f fd):FnOk P w K mg base CX0 3 f fd ["sign","mask"] (fC K):=okk F FS vN fun hr hu nd=>(ae (af (au (df rfl) rfl B.all_ jn (aa (aK (ix:=[none,none,some 0]) [".0","other","sign"] (aF rfl (by decide+kernel) rfl rfl rfl) rfl (aB (kcal GK hr (aa (pv 1) ab))) (fun cl s H fp=>(av (i:=1) (show([".0","other","sign"]:List Str).Nodup by decide+kernel) rfl (Or.inl rfl))) (fun cl s H fp=>ba) (fun cl s H fp=>(ay sM (pv 2) (pv 1) (ai _)))) ab))))
abbrev kK:Stmt:=top 52
theorem FT:ak ["rule","masks","cell","sign","more","together"] ["rule","masks","cell","sign","more"] (ag kK):=by ac_rfl
theorem ui(B:Bt2 mg){c:RCl RK}(HA:Cal P w K mg base 1 "are_told_in_order" ["cells","more"] (b3 K))(GL:Cal P w K mg base 2 "others" ["rule","cell"] (aQ K c))(GK:Cal P w K mg base 2 "signs_in" ["mask"] (aP K))(F:Fun K "pair_strikes" "pair_strikes" kK f fd):FnOk P w K mg base CX0 3 f fd ["rule","masks","cell","sign","more"] (dk K c):=okk F FT tN fun hr hu nd=>(ac (aw (bh (aO (kcal HA hr (aa (kcal GL hr (aa (pv 0) (aa (pv 2) ab))) (aa (pv 4) ab))))) (ae (af bn)) ap)
   (ac (kset 5 nd (kcal GK hr (aa (ar DQ (kix hu (pv 1) (kix hu (pv 4) ad)) (kix hu (pv 1) (kix hu (pv 4) ad))) ab)))
   (ae (af (ay h9 (au aG rfl B.len_ aR (aa (aK (ix:=[none,none,some 3]) [".0","other","sign"] (aF rfl (by decide+kernel) rfl rfl rfl) rfl (aB (pv 5)) (fun cl s H fp=>(av (i:=1) (show([".0","other","sign"]:List Str).Nodup by decide+kernel) rfl (Or.inl rfl))) (fun cl s H fp=>(bi (aj (aW hu) (pv 1) (pv 2) (ai _)))) (fun cl s H fp=>(pv 1))) ab)) ad (ai _))))))
abbrev lN:Stmt:=top 58
theorem FU:ak ["rule","masks","cell","sign","more","some","least","greatest"] ["rule","masks","cell","sign","more"] (ag lN):=by ac_rfl
theorem u9(B:Bt2 mg){c:RCl RK}(G6:Cal P w K mg base 1 "clashes" ["masks"] (bC K))(GQ:Cal P w K mg base 1 "masks_at" ["masks","cells"] (aZ K))(GL:Cal P w K mg base 2 "others" ["rule","cell"] (aQ K c))(GK:Cal P w K mg base 2 "signs_in" ["mask"] (aP K))(Ic:MCal P w K mg base c c.ok 1 "number" ["self"] (dU K c))(F:Fun K "sum_strikes" "sum_strikes" lN f fd):FnOk P w K mg base CX0 3 f fd ["rule","masks","cell","sign","more"] (dO K c):=okk F FU uN fun hr hu nd=>(ac (aw (aj (aW hu) (pv 4) (aE ab) (ai _)) (ae (af bn)) ap)
   (ac (kset 5 nd (kcal GQ hr (aa (pv 1) (aa (kcal GL hr (aa (pv 0) (aa (pv 2) ab))) ab))))
   (ac (aw (aO (kcal G6 hr (aa (pv 5) ab))) (ae (af bn)) ap)
   (ac (kset 6 nd (ar aM (pv 3) (au (pO rfl) rfl B.sum_ wM (aa (aK (ix:=[none,none]) [".0","mask"] (aF rfl (by decide+kernel) rfl rfl rfl) rfl (aB (pv 5)) (fun cl s H fp=>(av (i:=1) (show([".0","mask"]:List Str).Nodup by decide+kernel) rfl (Or.inl rfl))) (fun cl s H fp=>ba) (fun cl s H fp=>(kix hu (kcal GK hr (aa (pv 1) ab)) ad))) ab))))
   (ac (kset 7 nd (ar aM (pv 3) (au (pO rfl) rfl B.sum_ wM (aa (aK (ix:=[none,none]) [".0","mask"] (aF rfl (by decide+kernel) rfl rfl rfl) rfl (aB (pv 5)) (fun cl s H fp=>(av (i:=1) (show([".0","mask"]:List Str).Nodup by decide+kernel) rfl (Or.inl rfl))) (fun cl s H fp=>ba) (fun cl s H fp=>(kix hu (kcal GK hr (aa (pv 1) ab)) (Et Dy ad)))) ab))))
   (ae (af (sD (ay eX (pv 6) (aJ Ic hr (by decide) (pv 0)) (ai _)) (bD (ay cC (pv 7) (aJ Ic hr (by decide) (pv 0)) (ai _)))))))))))
abbrev sr:Stmt:=top 68
theorem FV:ak ["floor","middle","cell"] ["floor","middle","cell"] (ag sr):=by ac_rfl
theorem By(B:Bt2 mg)(G7:Cal P w K mg base 2 "beside" ["floor","cell"] (bH K))(F:Fun K "around" "around" sr f fd):FnOk P w K mg base CX0 3 f fd ["floor","middle","cell"] (lf K):=okk F FV A8 fun hr hu nd=>(ae (af (aK (ix:=[none,none,some 2]) [".0","other","cell"] (aF rfl (by decide+kernel) rfl rfl rfl) rfl (aB (kcal G7 hr (aa (pv 0) (aa (pv 1) ab)))) (fun cl s H fp=>(av (i:=1) (show([".0","other","cell"]:List Str).Nodup by decide+kernel) rfl (Or.inl rfl))) (fun cl s H fp=>(bi (aj (aW hu) (pv 1) (pv 2) (ai _)))) (fun cl s H fp=>(pv 1)))))
abbrev mT:Stmt:=top 79
theorem FW:ak ["floor","cell"] ["floor","cell"] (ag mT):=by ac_rfl
theorem wc(B:Bt2 mg)(G7:Cal P w K mg base 2 "beside" ["floor","cell"] (bH K))(F:Fun K "turn_mores" "turn_mores" mT f fd):FnOk P w K mg base CX0 3 f fd ["floor","cell"] (fE K):=okk F FW vR fun hr hu nd=>(ae (af (ar aM (aE (aa (aE ab) ab)) (aK (ix:=[none,none]) [".0","other"] (aF rfl (by decide+kernel) rfl rfl rfl) rfl (aB (kcal G7 hr (aa (pv 0) (aa (pv 1) ab)))) (fun cl s H fp=>(av (i:=1) (show([".0","other"]:List Str).Nodup by decide+kernel) rfl (Or.inl rfl))) (fun cl s H fp=>ba) (fun cl s H fp=>(aE (aa (pv 1) ab)))))))
abbrev mU:Stmt:=top 80
theorem FX:ak ["rule","masks","cell","spots","few","found","first"] ["rule","masks","cell"] (ag mU):=by ac_rfl
theorem wd(B:Bt2 mg){c:RCl RK}(GL:Cal P w K mg base 2 "others" ["rule","cell"] (aQ K c))(GK:Cal P w K mg base 2 "signs_in" ["mask"] (aP K))(G2:MCal P w K mg base c c.ok 1 "spots" ["self"] (bF K c))(F:Fun K "pair_mores" "pair_mores" mU f fd):FnOk P w K mg base CX0 3 f fd ["rule","masks","cell"] (fF K c):=okk F FX vS fun hr hu nd=>(ac (gc (i:=3) nd rfl (Or.inr rfl) (aJ G2 hr (by decide) (pv 0)))
   (ac (l7 (k:=4) nd rfl (Or.inl rfl) rfl (ix:=[none,none,some 1]) [".0","other","masks"] (aF rfl (by decide+kernel) rfl rfl rfl) rfl (aB (au jk rfl B.sorted_ m5 (aa (kcal GL hr (aa (pv 0) (aa (pv 2) ab))) ab))) (fun cl s H fp=>(av (i:=1) (show([".0","other","masks"]:List Str).Nodup by decide+kernel) rfl (Or.inl rfl))) (fun cl s H fp=>(bi (aj h9 (au aG rfl B.len_ aR (aa (kcal GK hr (aa (kix hu (pv 2) (pv 1)) ab)) ab)) ad (ai _)))) (fun cl s H fp=>(pv 1)))
   (ac (kset 5 nd (aE ab))
   (ac (bK Rb rfl (aB (pv 4)) (av (i:=6) nd rfl (Or.inr rfl))
   (ae (cc (ca QM To Tp sN (pv 5) (aa (aK (ix:=[none,none,some 6,some 3]) [".0","second","first","spots"] (aF rfl (by decide+kernel) rfl rfl rfl) rfl (aB (pv 4)) (fun cl s H fp=>(av (i:=1) (show([".0","second","first","spots"]:List Str).Nodup by decide+kernel) rfl (Or.inl rfl))) (fun cl s H fp=>(bi (aj cC (ca QM RO RP (jf hu) (pv 3) (aa (pv 2) ab)) (ca QM RO RP (jf hu) (pv 3) (aa (pv 1) ab)) (ai _)))) (fun cl s H fp=>(aE (aa (pv 2) (aa (pv 1) ab))))) ab)))))
   (ae (af (pv 5)))))))
abbrev kL:Stmt:=top 83
theorem FY:ak ["puzzle","kind"] ["puzzle","kind"] (ag kL):=by ac_rfl
theorem uj(B:Bt2 mg){c:RCl RK}{d:RCl PzK}(IY:Cal P w K mg base 2 "goes_by" ["kind","rule"] (eF K c))(GZ:MCal P w K mg base d d.ok 1 "rules" ["self"] (bq K c d))(F:Fun K "rule_numbers" "rule_numbers" kL f fd):FnOk P w K mg base CX0 3 f fd ["puzzle","kind"] (du K c d):=okk F FY tX fun hr hu nd=>(ac (aw (aj (az hu) (pv 1) aH (ai _)) (ae (af (aE (aa ad ab)))) ap)
   (ae (af (aK (ix:=[none,none,none,some 1]) [".0","number","rule","kind"] (aF rfl (by decide+kernel) rfl rfl rfl) rfl (uB rfl B.enumerate_ (aa (aJ GZ hr (by decide) (pv 0)) ab)) (fun cl s H fp=>(sE rfl (gb (av (i:=1) (show([".0","number","rule","kind"]:List Str).Nodup by decide+kernel) rfl (Or.inl rfl)) (gb (av (i:=2) (show([".0","number","rule","kind"]:List Str).Nodup by decide+kernel) rfl (Or.inl rfl)) qx)))) (fun cl s H fp=>(bi (aO (kcal IY hr (aa (pv 3) (aa (pv 2) ab)))))) (fun cl s H fp=>(pv 1))))))
abbrev dS:Stmt:=mtop 100 1
theorem sq1:ak ["self","cells","cell"] ["self","cells","cell"] (ag dS):=by ac_rfl
theorem oa(B:Bt2 mg){c:RCl RK}(G7:Cal P w K mg base 2 "beside" ["floor","cell"] (bH K))(Hh:FldK K c "floor")(F:Fun K "has_two_beside" "Ring.has_two_beside" dS f fd):FnOk P w K mg base CX0 3 f fd ["self","cells","cell"] (dA K c):=okk F sq1 nK fun hr hu nd=>(ae (af (ay (az hu) (au aG rfl B.len_ aR (aa (aK (ix:=[none,none,some 1]) [".0","other","cells"] (aF rfl (by decide+kernel) rfl rfl rfl) rfl (aB (kcal G7 hr (aa (bJ (pv 0) Hh) (aa (pv 2) ab)))) (fun cl s H fp=>(av (i:=1) (show([".0","other","cells"]:List Str).Nodup by decide+kernel) rfl (Or.inl rfl))) (fun cl s H fp=>(bi (aj (cQ hu) (pv 1) (pv 2) (by with_unfolding_all rfl)))) (fun cl s H fp=>(pv 1))) ab)) ad (ai _))))
abbrev kM:Stmt:=top 110
theorem FZ:ak ["words","least","most"] ["words","least","most"] (ag kM):=by ac_rfl
theorem uk(B:Bt2 mg)(Hj:Cal P w K mg base 2 "number_within" ["word","least","most"] (bP K))(F:Fun K "first_within" "first_within" kM f fd):FnOk P w K mg base CX0 3 f fd ["words","least","most"] (bZ K):=okk F FZ tm fun hr hu nd=>(ac (aw (aj (az hu) (pv 0) (aE ab) (ai _)) (ae bW) ap)
   (ae (af (kcal Hj hr (aa (kix hu (pv 0) ad) (aa (pv 1) (aa (pv 2) ab)))))))
abbrev mV:Stmt:=top 111
theorem Ga:ak ["floor","words","cells"] ["floor","words"] (ag mV):=by ac_rfl
theorem wf(B:Bt2 mg)(GO:Cal P w K mg base 1 "many_cells" ["floor"] (aU K))(Hj:Cal P w K mg base 2 "number_within" ["word","least","most"] (bP K))(F:Fun K "told_cells" "told_cells" mV f fd):FnOk P w K mg base CX0 3 f fd ["floor","words"] (fw K):=okk F Ga vK fun hr hu nd=>(ac (l7 (k:=2) nd rfl (Or.inl rfl) rfl (ix:=[none,none,some 0]) [".0","word","floor"] (aF rfl (by decide+kernel) rfl rfl rfl) rfl (aB (pv 1)) (fun cl s H fp=>(av (i:=1) (show([".0","word","floor"]:List Str).Nodup by decide+kernel) rfl (Or.inl rfl))) (fun cl s H fp=>ba) (fun cl s H fp=>(kcal Hj hr (aa (pv 1) (aa ad (aa (ar cf (kcal GO hr (aa (pv 2) ab)) ad) ab))))))
   (ac (aw (aj (az hu) (pv 2) (aE ab) (ai _)) (ae bW) ap)
   (ac (aw (aj (aW hu) (vy rfl rfl rfl B.len_ B.set_ (pv 2)) (au aG rfl B.len_ aR (aa (pv 2) ab)) (ai _)) (ae bW) ap)
   (ae (af (pv 2))))))
abbrev qq:Stmt:=top 113
theorem Gb:ak ["floor","words","cells","amount","mark","name"] ["floor","words","cells","amount","mark"] (ag qq):=by ac_rfl
theorem z5(B:Bt2 mg){c:RCl RK}(OE:KCal P w K mg base 1 "Count" (c.A .Count) ["self","floor","words","cells","amount","mark"] (ax K c))(ND:KCal P w K mg base 1 "Joined" (c.A .Joined) ["self","floor","words","cells","amount","mark"] (ax K c))(Ld:KCal P w K mg base 1 "NoSquare" (c.A .NoSquare) ["self","floor","words","cells","amount","mark"] (ax K c))(Ph:KCal P w K mg base 1 "Ring" (c.A .Ring) ["self","floor","words","cells","amount","mark"] (ax K c))(NE:KCal P w K mg base 1 "Rising" (c.A .Rising) ["self","floor","words","cells","amount","mark"] (ax K c))(Pi:KCal P w K mg base 1 "Seen" (c.A .Seen) ["self","floor","words","cells","amount","mark"] (ax K c))(K_Sum:KCal P w K mg base 1 "Sum" (c.A .Sum) ["self","floor","words","cells","amount","mark"] (ax K c))(NF:KCal P w K mg base 1 "Unlike" (c.A .Unlike) ["self","floor","words","cells","amount","mark"] (ax K c))(F:Fun K "rule_by" "rule_by" qq f fd):FnOk P w K mg base CX0 3 f fd ["floor","words","cells","amount","mark"] (jv K c):=okk F Gb zB fun hr hu nd=>(ac (kset 5 nd (kix hu (pv 1) ad))
   (ac (aw (aj (az hu) (pv 5) aH (ai _)) (ae (af (lZ NF hr (by decide) rfl (aa (pv 0) (aa (pv 1) (aa (pv 2) (aa (pv 3) (aa (pv 4) ab)))))))) ap)
   (ac (aw (aj (az hu) (pv 5) aH (ai _)) (ae (af (lZ K_Sum hr (by decide) rfl (aa (pv 0) (aa (pv 1) (aa (pv 2) (aa (pv 3) (aa (pv 4) ab)))))))) ap)
   (ac (aw (aj (az hu) (pv 5) aH (ai _)) (ae (af (lZ NE hr (by decide) rfl (aa (pv 0) (aa (pv 1) (aa (pv 2) (aa (pv 3) (aa (pv 4) ab)))))))) ap)
   (ac (aw (aj (az hu) (pv 5) aH (ai _)) (ae (af (lZ Pi hr (by decide) rfl (aa (pv 0) (aa (pv 1) (aa (pv 2) (aa (pv 3) (aa (pv 4) ab)))))))) ap)
   (ac (aw (aj (az hu) (pv 5) aH (ai _)) (ae (af (lZ OE hr (by decide) rfl (aa (pv 0) (aa (pv 1) (aa (pv 2) (aa (pv 3) (aa (pv 4) ab)))))))) ap)
   (ac (aw (aj (az hu) (pv 5) aH (ai _)) (ae (af (lZ ND hr (by decide) rfl (aa (pv 0) (aa (pv 1) (aa (pv 2) (aa (pv 3) (aa (pv 4) ab)))))))) ap)
   (ac (aw (aj (az hu) (pv 5) aH (ai _)) (ae (af (lZ Ld hr (by decide) rfl (aa (pv 0) (aa (pv 1) (aa (pv 2) (aa (pv 3) (aa (pv 4) ab)))))))) ap)
   (ac (aw (aj (az hu) (pv 5) aH (ai _)) (ae (af (lZ Ph hr (by decide) rfl (aa (pv 0) (aa (pv 1) (aa (pv 2) (aa (pv 3) (aa (pv 4) ab)))))))) ap)
   (ae bW))))))))))
abbrev j5:Stmt:=top 120
theorem Gc:ak ["floor","clues"] ["floor","clues"] (ag j5):=by ac_rfl
theorem su(B:Bt2 mg)(Kt:Cal P w K mg base 2 "is_filling" ["floor","filling","least"] (fA K))(F:Fun K "checked_clues" "checked_clues" j5 f fd):FnOk P w K mg base CX0 3 f fd ["floor","clues"] (cU K):=okk F Gc rH fun hr hu nd=>(ac (aw (bh (aO (kcal Kt hr (aa (pv 0) (aa (pv 1) (aa ad ab)))))) (ae bW) ap)
   (ae (af (bG cG rfl B.list_ cm (aa (pv 1) ab)))))
abbrev oe:Stmt:=top 36
theorem Gd:ak ["puzzle","thought","floor"] ["puzzle","thought"] (ag oe):=by ac_rfl
theorem xW(B:Bt2 mg){c:RCl RK}{d:RCl PzK}(Jv:Cal P w K mg base 3 "has_its_rule" ["puzzle","kind","number","cell"] (dh K c d))(IZ:Cal P w K mg base 2 "is_cell" ["floor","value"] (d9 K))(I0:Cal P w K mg base 3 "is_sign" ["floor","value"] (eh K))(G0:Cal P w K mg base 1 "is_whole" ["value"] (bp K))(Hg:MCal P w K mg base d d.ok 1 "place" ["self"] (cA K c d))(Ik:GTup K mg "KINDS" gt_KINDS)(F:Fun K "is_formed" "is_formed" oe f fd):FnOk P w K mg base CX0 4 f fd ["puzzle","thought"] (gt K c d):=okk F Gd xa fun hr hu nd=>(ac (aw (Sm (bw (bh (aO (au bS rfl B.isinstance_ bb (aa (pv 1) (aa (cM (v:=.ty "tuple") rfl B.tuple_ ke rfl) ab))))) (bw (aj (aW hu) (au aG rfl B.len_ aR (aa (pv 1) ab)) ad (ai _)) (bQ (yU Ik (kix hu (pv 1) ad) rfl))))) (ae (af bn)) ap)
   (ac (kset 2 nd (aJ Hg hr (by decide) (pv 0)))
   (ac (aw (Sm (bw (bh (aO (kcal IZ hr (aa (pv 2) (aa (kix hu (pv 1) ad) ab))))) (bQ (bh (aO (kcal I0 hr (aa (pv 2) (aa (kix hu (pv 1) ad) ab)))))))) (ae (af bn)) ap)
   (ac (aw (bh (aO (kcal Jv hr (aa (pv 0) (aa (kix hu (pv 1) ad) (aa (kix hu (pv 1) ad) (aa (kix hu (pv 1) ad) ab))))))) (ae (af bn)) ap)
   (ae (af (br (au bS rfl B.isinstance_ bb (aa (kix hu (pv 1) ad) (aa (cM (v:=.ty "list") rfl B.list_ cm rfl) ab))) (bD (au (df rfl) rfl B.all_ jn (aa (aK (ix:=[none,none]) [".0","part"] (aF rfl (by decide+kernel) rfl rfl rfl) rfl (aB (kix hu (pv 1) ad)) (fun cl s H fp=>(av (i:=1) (show([".0","part"]:List Str).Nodup by decide+kernel) rfl (Or.inl rfl))) (fun cl s H fp=>ba) (fun cl s H fp=>(kcal G0 hr (aa (pv 1) ab)))) ab))))))))))
abbrev og:Stmt:=top 39
theorem Ge:ak ["some","sign"] ["some","sign"] (ag og):=by ac_rfl
theorem xX(B:Bt2 mg)(GS:Cal P w K mg base 3 "has_only" ["mask","sign"] (bd K))(F:Fun K "many_only" "many_only" og f fd):FnOk P w K mg base CX0 4 f fd ["some","sign"] (bL K):=okk F Ge xf fun hr hu nd=>(ae (af (au aG rfl B.len_ aR (aa (aK (ix:=[none,none,some 1]) [".0","mask","sign"] (aF rfl (by decide+kernel) rfl rfl rfl) rfl (aB (pv 0)) (fun cl s H fp=>(av (i:=1) (show([".0","mask","sign"]:List Str).Nodup by decide+kernel) rfl (Or.inl rfl))) (fun cl s H fp=>(bi (aO (kcal GS hr (aa (pv 1) (aa (pv 2) ab)))))) (fun cl s H fp=>(pv 1))) ab))))
abbrev kN:Stmt:=top 44
theorem Gf:ak ["rule","masks","cell","sign","more"] ["rule","masks","cell","sign","more"] (ag kN):=by ac_rfl
theorem ul(B:Bt2 mg){c:RCl RK}(GS:Cal P w K mg base 3 "has_only" ["mask","sign"] (bd K))(GL:Cal P w K mg base 2 "others" ["rule","cell"] (aQ K c))(F:Fun K "only_strikes" "only_strikes" kN f fd):FnOk P w K mg base CX0 4 f fd ["rule","masks","cell","sign","more"] (dj K c):=okk F Gf tK fun hr hu nd=>(ae (af (br (ay (az hu) (au aG rfl B.len_ aR (aa (pv 4) ab)) ad (ai _)) (br (ay (cQ hu) (kix hu (pv 4) ad) (kcal GL hr (aa (pv 0) (aa (pv 2) ab))) (by with_unfolding_all rfl)) (bD (kcal GS hr (aa (kix hu (pv 1) (kix hu (pv 4) ad)) (aa (pv 3) ab))))))))
abbrev j6:Stmt:=top 45
theorem Gg:ak ["floor","rule","masks","cell","sign","more"] ["floor","rule","masks","cell","sign","more"] (ag j6):=by ac_rfl
theorem sw(B:Bt2 mg){c:RCl RK}(I0:Cal P w K mg base 3 "is_sign" ["floor","value"] (eh K))(Hi:Cal P w K mg base 2 "many_may" ["some","sign"] (bV K))(GQ:Cal P w K mg base 1 "masks_at" ["masks","cells"] (aZ K))(GL:Cal P w K mg base 2 "others" ["rule","cell"] (aQ K c))(G2:MCal P w K mg base c c.ok 1 "spots" ["self"] (bF K c))(F:Fun K "place_strikes" "place_strikes" j6 f fd):FnOk P w K mg base CX0 4 f fd ["floor","rule","masks","cell","sign","more"] (cV K c):=okk F Gg rK fun hr hu nd=>(ac (aw (Sm (bw (aj (aW hu) (au aG rfl B.len_ aR (aa (aJ G2 hr (by decide) (pv 1)) ab)) (kix hu (pv 0) ad) (ai _)) (bQ (aj (aW hu) (au aG rfl B.len_ aR (aa (pv 5) ab)) ad (ai _))))) (ae (af bn)) ap)
   (ac (aw (Sm (bw (aj (az hu) (kix hu (pv 5) ad) (pv 4) (ai _)) (bQ (bh (aO (kcal I0 hr (aa (pv 0) (aa (kix hu (pv 5) ad) ab)))))))) (ae (af bn)) ap)
   (ae (af (ay (az hu) (kcal Hi hr (aa (kcal GQ hr (aa (pv 2) (aa (kcal GL hr (aa (pv 1) (aa (pv 3) ab))) ab))) (aa (kix hu (pv 5) ad) ab))) ad (ai _))))))
abbrev kO:Stmt:=top 50
theorem Gh:ak ["rule","masks","cell","sign","more"] ["rule","masks","cell","sign","more"] (ag kO):=by ac_rfl
theorem um(B:Bt2 mg){c:RCl RK}(Le:Cal P w K mg base 2 "ahead_of" ["rule","cell"] (ig K c))(NG:Cal P w K mg base 2 "behind" ["rule","cell"] (ld K c))(Jc:Cal P w K mg base 3 "is_no_greater" ["sign","mask"] (cX K))(Ku:Cal P w K mg base 3 "is_no_less" ["sign","mask"] (fC K))(F:Fun K "step_strikes" "step_strikes" kO f fd):FnOk P w K mg base CX0 4 f fd ["rule","masks","cell","sign","more"] (dm K c):=okk F Gh tO fun hr hu nd=>(ac (aw (aj (aW hu) (pv 4) (aE ab) (ai _)) (ae (af bn)) ap)
   (ac (aw (aO (au (pN rfl) rfl B.any_ wH (aa (aK (ix:=[none,none,some 1,some 3]) [".0","other","masks","sign"] (aF rfl (by decide+kernel) rfl rfl rfl) rfl (aB (kcal Le hr (aa (pv 0) (aa (pv 2) ab)))) (fun cl s H fp=>(av (i:=1) (show([".0","other","masks","sign"]:List Str).Nodup by decide+kernel) rfl (Or.inl rfl))) (fun cl s H fp=>ba) (fun cl s H fp=>(kcal Jc hr (aa (pv 3) (aa (kix hu (pv 2) (pv 1)) ab))))) ab))) (ae (af bn)) ap)
   (ae (af (au (pN rfl) rfl B.any_ wH (aa (aK (ix:=[none,none,some 1,some 3]) [".0","other","masks","sign"] (aF rfl (by decide+kernel) rfl rfl rfl) rfl (aB (kcal NG hr (aa (pv 0) (aa (pv 2) ab)))) (fun cl s H fp=>(av (i:=1) (show([".0","other","masks","sign"]:List Str).Nodup by decide+kernel) rfl (Or.inl rfl))) (fun cl s H fp=>ba) (fun cl s H fp=>(kcal Ku hr (aa (pv 3) (aa (kix hu (pv 2) (pv 1)) ab))))) ab))))))
abbrev jc:Stmt:=top 64
theorem sq9:ak ["floor","corner","cell","square"] ["floor","corner","cell"] (ag jc):=by ac_rfl
theorem qX(B:Bt2 mg)(Hr:Cal P w K mg base 3 "squares" ["floor"] (cH K))(F:Fun K "rest_of_square" "rest_of_square" jc f fd):FnOk P w K mg base CX0 4 f fd ["floor","corner","cell"] (cD K):=okk F sq9 qO fun hr hu nd=>(ac (bK Rb rfl (aB (kcal Hr hr (aa (pv 0) ab))) (av (i:=3) nd rfl (Or.inl rfl))
   (ae (aw (Sm (sC (aj (az hu) (kix hu (pv 3) ad) (pv 1) (ai _)) (qw (aj (cQ hu) (pv 2) (pv 3) (by with_unfolding_all rfl))))) (ae (af (aK (ix:=[none,none,some 2]) [".0","other","cell"] (aF rfl (by decide+kernel) rfl rfl rfl) rfl (aB (pv 3)) (fun cl s H fp=>(av (i:=1) (show([".0","other","cell"]:List Str).Nodup by decide+kernel) rfl (Or.inl rfl))) (fun cl s H fp=>(bi (aj (aW hu) (pv 1) (pv 2) (ai _)))) (fun cl s H fp=>(pv 1))))) ap)))
   (ae (af (aE ab))))
abbrev dF:Stmt:=top 66
theorem sq0:ak ["floor","masks","cell","other","mark"] ["floor","masks","cell","other","mark"] (ag dF):=by ac_rfl
theorem m3(B:Bt2 mg)(GS:Cal P w K mg base 3 "has_only" ["mask","sign"] (bd K))(IZ:Cal P w K mg base 2 "is_cell" ["floor","value"] (d9 K))(F:Fun K "is_another_with_only" "is_another_with_only" dF f fd):FnOk P w K mg base CX0 4 f fd ["floor","masks","cell","other","mark"] (bE K):=okk F sq0 mZ fun hr hu nd=>(ae (af (br (kcal IZ hr (aa (pv 0) (aa (pv 3) ab))) (br (ay (aW hu) (pv 3) (pv 2) (ai _)) (bD (kcal GS hr (aa (kix hu (pv 1) (pv 3)) (aa (pv 4) ab))))))))
abbrev mW:Stmt:=top 75
theorem Gi:ak ["rule","masks","cell","sign"] ["rule","masks","cell","sign"] (ag mW):=by ac_rfl
theorem wg(B:Bt2 mg){c:RCl RK}(GS:Cal P w K mg base 3 "has_only" ["mask","sign"] (bd K))(GL:Cal P w K mg base 2 "others" ["rule","cell"] (aQ K c))(F:Fun K "only_mores" "only_mores" mW f fd):FnOk P w K mg base CX0 4 f fd ["rule","masks","cell","sign"] (fD K c):=okk F Gi vQ fun hr hu nd=>(ae (af (aK (ix:=[none,none,some 1,some 3]) [".0","other","masks","sign"] (aF rfl (by decide+kernel) rfl rfl rfl) rfl (aB (au jk rfl B.sorted_ m5 (aa (kcal GL hr (aa (pv 0) (aa (pv 2) ab))) ab))) (fun cl s H fp=>(av (i:=1) (show([".0","other","masks","sign"]:List Str).Nodup by decide+kernel) rfl (Or.inl rfl))) (fun cl s H fp=>(bi (aO (kcal GS hr (aa (kix hu (pv 2) (pv 1)) (aa (pv 3) ab)))))) (fun cl s H fp=>(aE (aa (pv 1) ab))))))
abbrev kP:Stmt:=top 77
theorem Gj:ak ["floor","cell"] ["floor","cell"] (ag kP):=by ac_rfl
theorem uo(B:Bt2 mg)(Hr:Cal P w K mg base 3 "squares" ["floor"] (cH K))(F:Fun K "square_mores" "square_mores" kP f fd):FnOk P w K mg base CX0 4 f fd ["floor","cell"] (dr K):=okk F Gj tV fun hr hu nd=>(ae (af (aK (ix:=[none,none,some 1]) [".0","square","cell"] (aF rfl (by decide+kernel) rfl rfl rfl) rfl (aB (kcal Hr hr (aa (pv 0) ab))) (fun cl s H fp=>(av (i:=1) (show([".0","square","cell"]:List Str).Nodup by decide+kernel) rfl (Or.inl rfl))) (fun cl s H fp=>(bi (aj (cQ hu) (pv 2) (pv 1) (by with_unfolding_all rfl)))) (fun cl s H fp=>(aE (aa (kix hu (pv 1) ad) ab))))))
abbrev lO:Stmt:=top 78
theorem Gk:ak ["floor","rule","masks","cell","sign","mark","sure","through","joined"] ["floor","rule","masks","cell","sign"] (ag lO):=by ac_rfl
theorem va(B:Bt2 mg){c:RCl RK}(GS:Cal P w K mg base 3 "has_only" ["mask","sign"] (bd K))(GL:Cal P w K mg base 2 "others" ["rule","cell"] (aQ K c))(He:Cal P w K mg base 3 "reached" ["floor","cells","start"] (b4 K))(Hc:Cal P w K mg base 1 "stands" ["mask","sign"] (bT K))(Hl:MCal P w K mg base c c.ok 1 "sign" ["self"] (cO K c))(F:Fun K "reach_mores" "reach_mores" lO f fd):FnOk P w K mg base CX0 4 f fd ["floor","rule","masks","cell","sign"] (dR K c):=okk F Gk uS fun hr hu nd=>(ac (gc (i:=5) nd rfl (Or.inr rfl) (aJ Hl hr (by decide) (pv 1)))
   (ac (gc (i:=6) nd rfl (Or.inr rfl) (aK (ix:=[none,none,some 5,some 2]) [".0","other","mark","masks"] (aF rfl (by decide+kernel) rfl rfl rfl) rfl (aB (kcal GL hr (aa (pv 1) (aa (pv 3) ab)))) (fun cl s H fp=>(av (i:=1) (show([".0","other","mark","masks"]:List Str).Nodup by decide+kernel) rfl (Or.inl rfl))) (fun cl s H fp=>(bi (aO (kcal GS hr (aa (kix hu (pv 3) (pv 1)) (aa (pv 2) ab)))))) (fun cl s H fp=>(pv 1))))
   (ac (l7 (k:=7) nd rfl (Or.inl rfl) rfl (ix:=[none,none,some 5,some 2]) [".0","other","mark","masks"] (aF rfl (by decide+kernel) rfl rfl rfl) rfl (aB (kcal GL hr (aa (pv 1) (aa (pv 3) ab)))) (fun cl s H fp=>(av (i:=1) (show([".0","other","mark","masks"]:List Str).Nodup by decide+kernel) rfl (Or.inl rfl))) (fun cl s H fp=>(bi (aO (kcal Hc hr (aa (kix hu (pv 3) (pv 1)) (aa (pv 2) ab)))))) (fun cl s H fp=>(pv 1)))
   (ac (aw (aj (az hu) (pv 4) (pv 5) (ai _)) (ac (gc (i:=8) nd rfl (Or.inr rfl) (kcal He hr (aa (pv 0) (aa (ar aM (pv 7) (aE (aa (pv 3) ab))) (aa (pv 3) ab)))))
   (ae (af (aK (ix:=[none,none,some 8]) [".0","other","joined"] (aF rfl (by decide+kernel) rfl rfl rfl) rfl (aB (pv 6)) (fun cl s H fp=>(av (i:=1) (show([".0","other","joined"]:List Str).Nodup by decide+kernel) rfl (Or.inl rfl))) (fun cl s H fp=>(bi (aj (cJ hu) (pv 1) (pv 2) (by with_unfolding_all rfl)))) (fun cl s H fp=>(aE (aa (pv 1) ab))))))) ap)
   (ac (gc (i:=8) nd rfl (Or.inr rfl) (iM (aj (aW hu) (pv 6) (aE ab) (ai _)) (kcal He hr (aa (pv 0) (aa (pv 7) (aa (kix hu (pv 6) ad) ab)))) (aE ab)))
   (ae (af (aK (ix:=[none,none,some 8,some 6]) [".0","other","joined","sure"] (aF rfl (by decide+kernel) rfl rfl rfl) rfl (aB (pv 6)) (fun cl s H fp=>(av (i:=1) (show([".0","other","joined","sure"]:List Str).Nodup by decide+kernel) rfl (Or.inl rfl))) (fun cl s H fp=>(bi (aj (cJ hu) (pv 1) (pv 2) (by with_unfolding_all rfl)))) (fun cl s H fp=>(aE (aa (kix hu (pv 3) ad) (aa (pv 1) ab))))))))))))
abbrev gG:Stmt:=mtop 98 1
theorem sq5:ak ["self","cells"] ["self","cells"] (ag gG):=by ac_rfl
theorem kc(B:Bt2 mg){c:RCl RK}(He:Cal P w K mg base 3 "reached" ["floor","cells","start"] (b4 K))(Hh:FldK K c "floor")(F:Fun K "is_joined" "Joined.is_joined" gG f fd):FnOk P w K mg base CX0 4 f fd ["self","cells"] (c7 K c):=okk F sq5 pk fun hr hu nd=>(ae (af (sD (ay (az hu) (pv 1) (aE ab) (ai _)) (bD (ay (az hu) (kcal He hr (aa (bJ (pv 0) Hh) (aa (pv 1) (aa (kix hu (pv 1) ad) ab)))) (pv 1) (ai _))))))
abbrev jd:Stmt:=mtop 99 0
theorem Gm:ak ["self","filling","cells"] ["self","filling"] (ag jd):=by ac_rfl
theorem qY(B:Bt2 mg){c:RCl RK}(K4:Cal P w K mg base 1 "is_within" ["some","cells"] (gy K))(Hr:Cal P w K mg base 3 "squares" ["floor"] (cH K))(Hh:FldK K c "floor")(Hs:MCal P w K mg base c c.ok 1 "marked" ["self","filling"] (b9 K c))(F:Fun K "holds" "NoSquare.holds" jd f fd):FnOk P w K mg base CX0 4 f fd ["self","filling"] (gX K c):=okk F Gm qS fun hr hu nd=>(ac (gc (i:=2) nd rfl (Or.inr rfl) (cz Hs hr (by decide) (pv 0) (aa (pv 1) ab)))
   (ae (af (Ac (au (pN rfl) rfl B.any_ wH (aa (aK (ix:=[none,none,some 2]) [".0","square","cells"] (aF rfl (by decide+kernel) rfl rfl rfl) rfl (aB (kcal Hr hr (aa (bJ (pv 0) Hh) ab))) (fun cl s H fp=>(av (i:=1) (show([".0","square","cells"]:List Str).Nodup by decide+kernel) rfl (Or.inl rfl))) (fun cl s H fp=>ba) (fun cl s H fp=>(kcal K4 hr (aa (pv 1) (aa (pv 2) ab))))) ab))))))
abbrev o8:Stmt:=top 112
theorem Gn:ak ["floor","name","words"] ["floor","name","words"] (ag o8):=by ac_rfl
theorem yF(B:Bt2 mg)(GO:Cal P w K mg base 1 "many_cells" ["floor"] (aU K))(Kv:Cal P w K mg base 3 "told_cells" ["floor","words"] (fw K))(Jw:GTup K mg "OF_ALL_CELLS" fY)(F:Fun K "cells_of" "cells_of" o8 f fd):FnOk P w K mg base CX0 4 f fd ["floor","name","words"] (ia K):=okk F Gn yc fun hr hu nd=>(ac (aw (yU Jw (pv 1) rfl) (ae (af (kcal Kv hr (aa (pv 0) (aa (pv 2) ab))))) ap)
   (ac (aw (aj (aW hu) (pv 2) (aE ab) (ai _)) (ae bW) ap)
   (ae (af (nq rfl rfl rfl B.list_ B.range_ (aa (kcal GO hr (aa (pv 0) ab)) ab))))))
abbrev j7:Stmt:=top 117
theorem Go:ak ["floor"] ["floor"] (ag j7):=by ac_rfl
theorem sx(B:Bt2 mg)(Lg:Cal P w K mg base 3 "floor_of" ["high","wide","signs"] (ic K))(F:Fun K "checked_floor" "checked_floor" j7 f fd):FnOk P w K mg base CX0 4 f fd ["floor"] (cT K):=okk F Go rG fun hr hu nd=>(ac (aw (Sm (bw (bh (aO (au bS rfl B.isinstance_ bb (aa (pv 0) (aa (cM (v:=.ty "tuple") rfl B.tuple_ ke rfl) ab))))) (bQ (aj (aW hu) (au aG rfl B.len_ aR (aa (pv 0) ab)) ad (ai _))))) (ae bW) ap)
   (ae (af (kcal Lg hr (aa (kix hu (pv 0) ad) (aa (kix hu (pv 0) ad) (aa (kix hu (pv 0) ad) ab)))))))
abbrev g9:Stmt:=top 53
theorem sq6:ak ["puzzle","masks","thought","kind","cell","sign","more","rule"] ["puzzle","masks","thought"] (ag g9):=by ac_rfl
theorem qr(B:Bt2 mg){c:RCl RK}{d:RCl PzK}(Jx:Cal P w K mg base 1 "clue_strikes" ["clues","cell","sign","more"] (di K))(Jy:Cal P w K mg base 4 "only_strikes" ["rule","masks","cell","sign","more"] (dj K c))(Jz:Cal P w K mg base 3 "pair_strikes" ["rule","masks","cell","sign","more"] (dk K c))(Jd:Cal P w K mg base 4 "place_strikes" ["floor","rule","masks","cell","sign","more"] (cV K c))(JA:Cal P w K mg base 4 "step_strikes" ["rule","masks","cell","sign","more"] (dm K c))(OF:MCal P w K mg base d d.ok 1 "clues" ["self"] (oF K c d))(Hg:MCal P w K mg base d d.ok 1 "place" ["self"] (cA K c d))(GZ:MCal P w K mg base d d.ok 1 "rules" ["self"] (bq K c d))(F:Fun K "strikes_by_line" "strikes_by_line" g9 f fd):FnOk P w K mg base CX0 5 f fd ["puzzle","masks","thought"] (cb K c d):=okk F sq6 px fun hr hu nd=>(ac (kset 3 nd (kix hu (pv 2) ad))
   (ac (kset 4 nd (kix hu (pv 2) ad))
   (ac (kset 5 nd (kix hu (pv 2) ad))
   (ac (kset 6 nd (kix hu (pv 2) ad))
   (ac (aw (aj (az hu) (pv 3) aH (ai _)) (ae (af (kcal Jx hr (aa (aJ OF hr (by decide) (pv 0)) (aa (pv 4) (aa (pv 5) (aa (pv 6) ab))))))) ap)
   (ac (kset 7 nd (kix hu (aJ GZ hr (by decide) (pv 0)) (kix hu (pv 2) ad)))
   (ac (aw (aj (az hu) (pv 3) aH (ai _)) (ae (af (kcal Jy hr (aa (pv 7) (aa (pv 1) (aa (pv 4) (aa (pv 5) (aa (pv 6) ab)))))))) ap)
   (ac (aw (aj (az hu) (pv 3) aH (ai _)) (ae (af (kcal Jd hr (aa (aJ Hg hr (by decide) (pv 0)) (aa (pv 7) (aa (pv 1) (aa (pv 4) (aa (pv 5) (aa (pv 6) ab))))))))) ap)
   (ac (aw (aj (az hu) (pv 3) aH (ai _)) (ae (af (kcal JA hr (aa (pv 7) (aa (pv 1) (aa (pv 4) (aa (pv 5) (aa (pv 6) ab)))))))) ap)
   (ae (af (kcal Jz hr (aa (pv 7) (aa (pv 1) (aa (pv 4) (aa (pv 5) (aa (pv 6) ab)))))))))))))))))
abbrev j8:Stmt:=top 57
theorem Gp:ak ["rule","masks","cell","sign","more","some"] ["rule","masks","cell","sign","more"] (ag j8):=by ac_rfl
theorem sy(B:Bt2 mg){c:RCl RK}(Hi:Cal P w K mg base 2 "many_may" ["some","sign"] (bV K))(Hd:Cal P w K mg base 4 "many_only" ["some","sign"] (bL K))(GQ:Cal P w K mg base 1 "masks_at" ["masks","cells"] (aZ K))(GL:Cal P w K mg base 2 "others" ["rule","cell"] (aQ K c))(Ic:MCal P w K mg base c c.ok 1 "number" ["self"] (dU K c))(Hl:MCal P w K mg base c c.ok 1 "sign" ["self"] (cO K c))(F:Fun K "count_strikes" "count_strikes" j8 f fd):FnOk P w K mg base CX0 5 f fd ["rule","masks","cell","sign","more"] (cW K c):=okk F Gp rL fun hr hu nd=>(ac (aw (aj (aW hu) (pv 4) (aE ab) (ai _)) (ae (af bn)) ap)
   (ac (kset 5 nd (kcal GQ hr (aa (pv 1) (aa (kcal GL hr (aa (pv 0) (aa (pv 2) ab))) ab))))
   (ac (aw (aj (az hu) (pv 3) (aJ Hl hr (by decide) (pv 0)) (ai _)) (ae (af (ay sM (kcal Hd hr (aa (pv 5) (aa (pv 3) ab))) (aJ Ic hr (by decide) (pv 0)) (ai _)))) ap)
   (ae (af (ay cC (kcal Hi hr (aa (pv 5) (aa (aJ Hl hr (by decide) (pv 0)) ab))) (aJ Ic hr (by decide) (pv 0)) (ai _)))))))
abbrev je:Stmt:=top 65
theorem Gq:ak ["floor","rule","masks","cell","sign","more","rest"] ["floor","rule","masks","cell","sign","more"] (ag je):=by ac_rfl
theorem qZ(B:Bt2 mg){c:RCl RK}(Hd:Cal P w K mg base 4 "many_only" ["some","sign"] (bL K))(GQ:Cal P w K mg base 1 "masks_at" ["masks","cells"] (aZ K))(IF:Cal P w K mg base 4 "rest_of_square" ["floor","corner","cell"] (cD K))(Hl:MCal P w K mg base c c.ok 1 "sign" ["self"] (cO K c))(F:Fun K "square_strikes" "square_strikes" je f fd):FnOk P w K mg base CX0 5 f fd ["floor","rule","masks","cell","sign","more"] (cE K c):=okk F Gq qP fun hr hu nd=>(ac (aw (Sm (bw (aj (aW hu) (pv 4) (aJ Hl hr (by decide) (pv 1)) (ai _)) (bQ (aj (aW hu) (au aG rfl B.len_ aR (aa (pv 5) ab)) ad (ai _))))) (ae (af bn)) ap)
   (ac (kset 6 nd (kcal IF hr (aa (pv 0) (aa (kix hu (pv 5) ad) (aa (pv 3) ab)))))
   (ae (af (br (ay (aW hu) (pv 6) (aE ab) (ai _)) (bD (ay (az hu) (kcal Hd hr (aa (kcal GQ hr (aa (pv 2) (aa (pv 6) ab))) (aa (pv 4) ab))) (au aG rfl B.len_ aR (aa (pv 6) ab)) (ai _))))))))
abbrev j9:Stmt:=top 67
theorem Gr:ak ["floor","rule","masks","cell","sign","more","mark","through"] ["floor","rule","masks","cell","sign","more"] (ag j9):=by ac_rfl
theorem sA(B:Bt2 mg){c:RCl RK}(Ht:Cal P w K mg base 4 "is_another_with_only" ["floor","masks","cell","other","mark"] (bE K))(GL:Cal P w K mg base 2 "others" ["rule","cell"] (aQ K c))(He:Cal P w K mg base 3 "reached" ["floor","cells","start"] (b4 K))(Hc:Cal P w K mg base 1 "stands" ["mask","sign"] (bT K))(Hl:MCal P w K mg base c c.ok 1 "sign" ["self"] (cO K c))(F:Fun K "reach_strikes" "reach_strikes" j9 f fd):FnOk P w K mg base CX0 5 f fd ["floor","rule","masks","cell","sign","more"] (cZ K c):=okk F Gr rO fun hr hu nd=>(ac (gc (i:=6) nd rfl (Or.inr rfl) (aJ Hl hr (by decide) (pv 1)))
   (ac (aw (bh (aO (au (df rfl) rfl B.all_ jn (aa (aK (ix:=[none,none,some 3,some 0,some 6,some 2]) [".0","other","cell","floor","mark","masks"] (aF rfl (by decide+kernel) rfl rfl rfl) rfl (aB (pv 5)) (fun cl s H fp=>(av (i:=1) (show([".0","other","cell","floor","mark","masks"]:List Str).Nodup by decide+kernel) rfl (Or.inl rfl))) (fun cl s H fp=>ba) (fun cl s H fp=>(kcal Ht hr (aa (pv 3) (aa (pv 5) (aa (pv 2) (aa (pv 1) (aa (pv 4) ab)))))))) ab)))) (ae (af bn)) ap)
   (ac (l7 (k:=7) nd rfl (Or.inl rfl) rfl (ix:=[none,none,some 6,some 2]) [".0","other","mark","masks"] (aF rfl (by decide+kernel) rfl rfl rfl) rfl (aB (kcal GL hr (aa (pv 1) (aa (pv 3) ab)))) (fun cl s H fp=>(av (i:=1) (show([".0","other","mark","masks"]:List Str).Nodup by decide+kernel) rfl (Or.inl rfl))) (fun cl s H fp=>(bi (aO (kcal Hc hr (aa (kix hu (pv 3) (pv 1)) (aa (pv 2) ab)))))) (fun cl s H fp=>(pv 1)))
   (ac (aw (aj (az hu) (pv 4) (pv 6) (ai _)) (ae (af (br (ay (az hu) (au aG rfl B.len_ aR (aa (pv 5) ab)) ad (ai _)) (bD (ay (cJ hu) (kix hu (pv 5) ad) (kcal He hr (aa (pv 0) (aa (ar aM (pv 7) (aE (aa (pv 3) ab))) (aa (pv 3) ab)))) (by with_unfolding_all rfl)))))) ap)
   (ac (aw (Sm (bw (aj (aW hu) (au aG rfl B.len_ aR (aa (pv 5) ab)) ad (ai _)) (bQ (aj (az hu) (kix hu (pv 5) ad) (kix hu (pv 5) ad) (ai _))))) (ae (af bn)) ap)
   (ae (af (ay (cJ hu) (kix hu (pv 5) ad) (kcal He hr (aa (pv 0) (aa (pv 7) (aa (kix hu (pv 5) ad) ab)))) (by with_unfolding_all rfl)))))))))
abbrev kQ:Stmt:=top 69
theorem Gs:ak ["floor","rule","masks","cell","sign","more","mark","some"] ["floor","rule","masks","cell","sign","more"] (ag kQ):=by ac_rfl
theorem uq(B:Bt2 mg){c:RCl RK}(NH:Cal P w K mg base 3 "around" ["floor","middle","cell"] (lf K))(G7:Cal P w K mg base 2 "beside" ["floor","cell"] (bH K))(GS:Cal P w K mg base 3 "has_only" ["mask","sign"] (bd K))(Hi:Cal P w K mg base 2 "many_may" ["some","sign"] (bV K))(Hd:Cal P w K mg base 4 "many_only" ["some","sign"] (bL K))(GQ:Cal P w K mg base 1 "masks_at" ["masks","cells"] (aZ K))(Hl:MCal P w K mg base c c.ok 1 "sign" ["self"] (cO K c))(F:Fun K "turn_strikes" "turn_strikes" kQ f fd):FnOk P w K mg base CX0 5 f fd ["floor","rule","masks","cell","sign","more"] (dq K c):=okk F Gs tT fun hr hu nd=>(ac (kset 6 nd (aJ Hl hr (by decide) (pv 1)))
   (ac (aw (aj (az hu) (pv 5) (aE ab) (ai _)) (ac (kset 7 nd (kcal GQ hr (aa (pv 2) (aa (kcal G7 hr (aa (pv 0) (aa (pv 3) ab))) ab))))
   (ae (af (br (ay (az hu) (pv 4) (pv 6) (ai _)) (bD (sD (ay cC (kcal Hi hr (aa (pv 7) (aa (pv 6) ab))) ad (ai _)) (bD (ay eX (kcal Hd hr (aa (pv 7) (aa (pv 6) ab))) ad (ai _))))))))) ap)
   (ac (aw (Sm (bw (aj (aW hu) (au aG rfl B.len_ aR (aa (pv 5) ab)) ad (ai _)) (bw (aj (cJ hu) (kix hu (pv 5) ad) (kcal G7 hr (aa (pv 0) (aa (pv 3) ab))) (by with_unfolding_all rfl)) (bQ (bh (aO (kcal GS hr (aa (kix hu (pv 2) (kix hu (pv 5) ad)) (aa (pv 6) ab))))))))) (ae (af bn)) ap)
   (ac (kset 7 nd (kcal GQ hr (aa (pv 2) (aa (kcal NH hr (aa (pv 0) (aa (kix hu (pv 5) ad) (aa (pv 3) ab)))) ab))))
   (ac (aw (aj (az hu) (pv 4) (pv 6) (ai _)) (ae (af (ay sM (kcal Hd hr (aa (pv 7) (aa (pv 6) ab))) ad (ai _)))) ap)
   (ae (af (ay cC (kcal Hi hr (aa (pv 7) (aa (pv 6) ab))) ad (ai _)))))))))
abbrev kR:Stmt:=top 81
theorem Gu:ak ["puzzle","masks","kind","number","cell","sign","floor"] ["puzzle","masks","kind","number","cell","sign"] (ag kR):=by ac_rfl
theorem ur(B:Bt2 mg){c:RCl RK}{d:RCl PzK}(Kw:Cal P w K mg base 4 "only_mores" ["rule","masks","cell","sign"] (fD K c))(Kx:Cal P w K mg base 3 "pair_mores" ["rule","masks","cell"] (fF K c))(JT:Cal P w K mg base 1 "place_mores" ["floor","sign"] (dQ K))(JU:Cal P w K mg base 4 "reach_mores" ["floor","rule","masks","cell","sign"] (dR K c))(JB:Cal P w K mg base 4 "square_mores" ["floor","cell"] (dr K))(Ky:Cal P w K mg base 3 "turn_mores" ["floor","cell"] (fE K))(Hg:MCal P w K mg base d d.ok 1 "place" ["self"] (cA K c d))(GZ:MCal P w K mg base d d.ok 1 "rules" ["self"] (bq K c d))(F:Fun K "mores_to_try" "mores_to_try" kR f fd):FnOk P w K mg base CX0 5 f fd ["puzzle","masks","kind","number","cell","sign"] (dt K c d):=okk F Gu tW fun hr hu nd=>(ac (kset 6 nd (aJ Hg hr (by decide) (pv 0)))
   (ac (aw (aj (az hu) (pv 2) aH (ai _)) (ae (af (kcal JT hr (aa (pv 6) (aa (pv 5) ab))))) ap)
   (ac (aw (aj (az hu) (pv 2) aH (ai _)) (ae (af (kcal JB hr (aa (pv 6) (aa (pv 4) ab))))) ap)
   (ac (aw (aj (az hu) (pv 2) aH (ai _)) (ae (af (kcal Ky hr (aa (pv 6) (aa (pv 4) ab))))) ap)
   (ac (aw (aj (az hu) (pv 2) aH (ai _)) (ae (af (kcal Kw hr (aa (kix hu (aJ GZ hr (by decide) (pv 0)) (pv 3)) (aa (pv 1) (aa (pv 4) (aa (pv 5) ab))))))) ap)
   (ac (aw (aj (az hu) (pv 2) aH (ai _)) (ae (af (kcal JU hr (aa (pv 6) (aa (kix hu (aJ GZ hr (by decide) (pv 0)) (pv 3)) (aa (pv 1) (aa (pv 4) (aa (pv 5) ab)))))))) ap)
   (ac (aw (aj (az hu) (pv 2) aH (ai _)) (ae (af (kcal Kx hr (aa (kix hu (aJ GZ hr (by decide) (pv 0)) (pv 3)) (aa (pv 1) (aa (pv 4) ab)))))) ap)
   (ae (af (aE (aa (aE ab) ab)))))))))))
abbrev kS:Stmt:=mtop 98 0
theorem Gv:ak ["self","filling"] ["self","filling"] (ag kS):=by ac_rfl
theorem ut(B:Bt2 mg){c:RCl RK}(K5:MCal P w K mg base c c.ok 4 "is_joined" ["self","cells"] (cS K c))(Hs:MCal P w K mg base c c.ok 1 "marked" ["self","filling"] (b9 K c))(F:Fun K "holds" "Joined.holds" kS f fd):FnOk P w K mg base CX0 5 f fd ["self","filling"] (jO K c):=okk F Gv tQ fun hr hu nd=>(ae (af (cz K5 hr (by decide) (pv 0) (aa (cz Hs hr (by decide) (pv 0) (aa (pv 1) ab)) ab))))
abbrev mX:Stmt:=mtop 100 0
theorem Gw:ak ["self","filling","cells"] ["self","filling"] (ag mX):=by ac_rfl
theorem wj(B:Bt2 mg){c:RCl RK}(NI:MCal P w K mg base c c.ok 3 "has_two_beside" ["self","cells","cell"] (dH K c))(K5:MCal P w K mg base c c.ok 4 "is_joined" ["self","cells"] (cS K c))(Hs:MCal P w K mg base c c.ok 1 "marked" ["self","filling"] (b9 K c))(F:Fun K "holds" "Ring.holds" mX f fd):FnOk P w K mg base CX0 5 f fd ["self","filling"] (lD K c):=okk F Gw vP fun hr hu nd=>(ac (gc (i:=2) nd rfl (Or.inr rfl) (cz Hs hr (by decide) (pv 0) (aa (pv 1) ab)))
   (ae (af (br (cz K5 hr (by decide) (pv 0) (aa (pv 2) ab)) (bD (au (df rfl) rfl B.all_ jn (aa (aK (ix:=[none,none,some 2,some 0]) [".0","cell","cells","self"] (aF rfl (by decide+kernel) rfl rfl rfl) rfl (aB (pv 2)) (fun cl s H fp=>(av (i:=1) (show([".0","cell","cells","self"]:List Str).Nodup by decide+kernel) rfl (Or.inl rfl))) (fun cl s H fp=>ba) (fun cl s H fp=>(cz NI hr (by decide) (pv 3) (aa (pv 2) (aa (pv 1) ab))))) ab)))))))
abbrev oh:Stmt:=top 114
theorem Gx:ak ["floor","line","words","name","rest","amount","mark"] ["floor","line"] (ag oh):=by ac_rfl
theorem xY(B:Bt2 mg){c:RCl RK}(Lh:Cal P w K mg base 4 "cells_of" ["floor","name","words"] (ia K))(Il:Cal P w K mg base 3 "first_within" ["words","least","most"] (bZ K))(Mu:Cal P w K mg base 3 "rule_by" ["floor","words","cells","amount","mark"] (jv K c)){t_MOST_NUMBER:Tok}(JV:mg "MOST_NUMBER"=some (.int 99 t_MOST_NUMBER))(JW:GTup K mg "WITH_NUMBER" gP)(K6:GTup K mg "WITH_SIGN" gn)(F:Fun K "read_rule" "read_rule" oh f fd):FnOk P w K mg base CX0 5 f fd ["floor","line"] (gq K c):=okk F Gx w9 fun hr hu nd=>(ac (aw (bh (aO (au bS rfl B.isinstance_ bb (aa (pv 1) (aa (cM (v:=.ty "str") rfl B.str_ wJ rfl) ab))))) (ae bW) ap)
   (ac (kset 2 nd (ca TH PySem.F.slot_str_split PySem.F.type_str_split AA (pv 1) (aa aH ab)))
   (ac (kset 3 nd (kix hu (pv 2) ad))
   (ac (kset 4 nd (ge m7 (pv 2) (fH ad) l6))
   (ac (kset 5 nd ad)
   (ac (kset 6 nd ad)
   (ac (aw (tD JW (pv 3) rfl) (ac (kset 5 nd (kcal Il hr (aa (pv 4) (aa ad (aa (cL rfl JV ⟨t_MOST_NUMBER,rfl⟩) ab)))))
   (ae (kset 4 nd (ge m7 (pv 4) (fH ad) l6)))) ap)
   (ac (aw (tD K6 (pv 3) rfl) (ac (kset 6 nd (kcal Il hr (aa (pv 4) (aa ad (aa (kix hu (pv 0) ad) ab)))))
   (ae (kset 4 nd (ge m7 (pv 4) (fH ad) l6)))) ap)
   (ae (af (kcal Mu hr (aa (pv 0) (aa (pv 2) (aa (kcal Lh hr (aa (pv 0) (aa (pv 3) (aa (pv 4) ab)))) (aa (pv 5) (aa (pv 6) ab))))))))))))))))
abbrev kT:Stmt:=top 61
theorem Gy:ak ["rule","masks","cell","sign","more","rest","some","fillings","other","filling"] ["rule","masks","cell","sign","more"] (ag kT):=by ac_rfl
theorem uu(B:Bt2 mg){c:RCl RK}(G6:Cal P w K mg base 1 "clashes" ["masks"] (bC K))(GQ:Cal P w K mg base 1 "masks_at" ["masks","cells"] (aZ K))(GL:Cal P w K mg base 2 "others" ["rule","cell"] (aQ K c))(GK:Cal P w K mg base 2 "signs_in" ["mask"] (aP K))(Pj:Cal P w K mg base 3 "ways" ["masks"] (oq K))(IG:Cal P w K mg base 2 "with_each_sign" ["fillings","cell","signs"] (cF K))(Hz:Cal P w K mg base 1 "with_sign" ["filling","cell","sign"] (cY K)){t_MOST_WAYS:Tok}(K7:mg "MOST_WAYS"=some (.int 32 t_MOST_WAYS))(OG:MCal P w K mg base c c.ok 5 "holds" ["self","filling"] (cR K c))(F:Fun K "ways_strikes" "ways_strikes" kT f fd):FnOk P w K mg base CX0 6 f fd ["rule","masks","cell","sign","more"] (dn K c):=okk F Gy tS fun hr hu nd=>(ac (kset 5 nd (kcal GL hr (aa (pv 0) (aa (pv 2) ab))))
   (ac (kset 6 nd (kcal GQ hr (aa (pv 1) (aa (pv 5) ab))))
   (ac (aw (Sm (bw (aj (aW hu) (pv 4) (aE ab) (ai _)) (bQ (aj eX (kcal Pj hr (aa (pv 6) ab)) (cL rfl K7 ⟨t_MOST_WAYS,rfl⟩) (ai _))))) (ae (af bn)) ap)
   (ac (aw (aO (kcal G6 hr (aa (pv 6) ab))) (ae (af bn)) ap)
   (ac (kset 7 nd (aE (aa (kcal Hz hr (aa (ar BM (aE (aa ad ab)) (au aG rfl B.len_ aR (aa (pv 1) ab))) (aa (pv 2) (aa (pv 3) ab)))) ab)))
   (ac (bK Rb rfl (aB (pv 5)) (av (i:=8) nd rfl (Or.inl rfl))
   (ae (kset 7 nd (kcal IG hr (aa (pv 7) (aa (pv 8) (aa (kcal GK hr (aa (kix hu (pv 1) (pv 8)) ab)) ab)))))))
   (ac (bK Rb rfl (aB (pv 7)) (av (i:=9) nd rfl (Or.inl rfl))
   (ae (aw (aO (cz OG hr (by decide) (pv 0) (aa (pv 9) ab))) (ae (af bn)) ap)))
   (ae (af bn)))))))))
abbrev fW:Stmt:=top 70
theorem sq3:ak ["puzzle","masks","thought","floor","rule"] ["puzzle","masks","thought"] (ag fW):=by ac_rfl
theorem o9(B:Bt2 mg){c:RCl RK}{d:RCl PzK}(Je:Cal P w K mg base 5 "reach_strikes" ["floor","rule","masks","cell","sign","more"] (cZ K c))(IH:Cal P w K mg base 5 "square_strikes" ["floor","rule","masks","cell","sign","more"] (cE K c))(JC:Cal P w K mg base 5 "turn_strikes" ["floor","rule","masks","cell","sign","more"] (dq K c))(Hg:MCal P w K mg base d d.ok 1 "place" ["self"] (cA K c d))(GZ:MCal P w K mg base d d.ok 1 "rules" ["self"] (bq K c d))(F:Fun K "strikes_by_region" "strikes_by_region" fW f fd):FnOk P w K mg base CX0 6 f fd ["puzzle","masks","thought"] (bM K c d):=okk F sq3 nL fun hr hu nd=>(ac (kset 3 nd (aJ Hg hr (by decide) (pv 0)))
   (ac (kset 4 nd (kix hu (aJ GZ hr (by decide) (pv 0)) (kix hu (pv 2) ad)))
   (ac (aw (aj (az hu) (kix hu (pv 2) ad) aH (ai _)) (ae (af (kcal IH hr (aa (pv 3) (aa (pv 4) (aa (pv 1) (aa (kix hu (pv 2) ad) (aa (kix hu (pv 2) ad) (aa (kix hu (pv 2) ad) ab))))))))) ap)
   (ac (aw (aj (az hu) (kix hu (pv 2) ad) aH (ai _)) (ae (af (kcal Je hr (aa (pv 3) (aa (pv 4) (aa (pv 1) (aa (kix hu (pv 2) ad) (aa (kix hu (pv 2) ad) (aa (kix hu (pv 2) ad) ab))))))))) ap)
   (ae (af (kcal JC hr (aa (pv 3) (aa (pv 4) (aa (pv 1) (aa (kix hu (pv 2) ad) (aa (kix hu (pv 2) ad) (aa (kix hu (pv 2) ad) ab)))))))))))))
abbrev mY:Stmt:=top 118
theorem Gz:ak ["floor","lines"] ["floor","lines"] (ag mY):=by ac_rfl
theorem wk(B:Bt2 mg){c:RCl RK}(K8:Cal P w K mg base 5 "read_rule" ["floor","line"] (gq K c)){t_MOST_RULES:Tok}(Kz:mg "MOST_RULES"=some (.int 12 t_MOST_RULES))(F:Fun K "read_rules" "read_rules" mY f fd):FnOk P w K mg base CX0 6 f fd ["floor","lines"] (fz K c):=okk F Gz vL fun hr hu nd=>(ac (aw (aj eX (au aG rfl B.len_ aR (aa (pv 1) ab)) (cL rfl Kz ⟨t_MOST_RULES,rfl⟩) (ai _)) (ae bW) ap)
   (ae (af (aK (ix:=[none,none,some 0]) [".0","line","floor"] (aF rfl (by decide+kernel) rfl rfl rfl) rfl (aB (pv 1)) (fun cl s H fp=>(av (i:=1) (show([".0","line","floor"]:List Str).Nodup by decide+kernel) rfl (Or.inl rfl))) (fun cl s H fp=>ba) (fun cl s H fp=>(kcal K8 hr (aa (pv 2) (aa (pv 1) ab))))))))
abbrev fX:Stmt:=top 62
theorem sq2:ak ["puzzle","masks","thought","rule"] ["puzzle","masks","thought"] (ag fX):=by ac_rfl
theorem pb(B:Bt2 mg){c:RCl RK}{d:RCl PzK}(Jf:Cal P w K mg base 5 "count_strikes" ["rule","masks","cell","sign","more"] (cW K c))(JX:Cal P w K mg base 3 "sum_strikes" ["rule","masks","cell","sign","more"] (dO K c))(JD:Cal P w K mg base 6 "ways_strikes" ["rule","masks","cell","sign","more"] (dn K c))(GZ:MCal P w K mg base d d.ok 1 "rules" ["self"] (bq K c d))(F:Fun K "strikes_by_number" "strikes_by_number" fX f fd):FnOk P w K mg base CX0 7 f fd ["puzzle","masks","thought"] (bN K c d):=okk F sq2 nN fun hr hu nd=>(ac (kset 3 nd (kix hu (aJ GZ hr (by decide) (pv 0)) (kix hu (pv 2) ad)))
   (ac (aw (aj (az hu) (kix hu (pv 2) ad) aH (ai _)) (ae (af (kcal Jf hr (aa (pv 3) (aa (pv 1) (aa (kix hu (pv 2) ad) (aa (kix hu (pv 2) ad) (aa (kix hu (pv 2) ad) ab)))))))) ap)
   (ac (aw (aj (az hu) (kix hu (pv 2) ad) aH (ai _)) (ae (af (kcal JX hr (aa (pv 3) (aa (pv 1) (aa (kix hu (pv 2) ad) (aa (kix hu (pv 2) ad) (aa (kix hu (pv 2) ad) ab)))))))) ap)
   (ae (af (kcal JD hr (aa (pv 3) (aa (pv 1) (aa (kix hu (pv 2) ad) (aa (kix hu (pv 2) ad) (aa (kix hu (pv 2) ad) ab)))))))))))
abbrev hJ:Stmt:=mtop 121 0
theorem sq7:ak ["self","floor","lines","clues"] ["self","floor","lines","clues"] (ag hJ):=by ac_rfl
theorem qt(B:Bt2 mg){c:RCl RK}{d:RCl PzK}(Jg:Cal P w K mg base 3 "checked_clues" ["floor","clues"] (cU K))(Jh:Cal P w K mg base 4 "checked_floor" ["floor"] (cT K))(KA:Cal P w K mg base 6 "read_rules" ["floor","lines"] (fz K c))(Hq:FldK K d "floor")(Ij:FldK K d "given")(IV:FldK K d "laws")(F:Fun K "__init__" "Puzzle.__init__" hJ f fd):FnOk P w K mg base CX0 7 f fd ["self","floor","lines","clues"] (bz K c d):=okk F sq7 pU fun hr hu nd=>(ac (jg (pv 0) (kcal Jh hr (aa (pv 1) ab)) Hq)
   (ac (jg (pv 0) (kcal KA hr (aa (bJ (pv 0) Hq) (aa (pv 2) ab))) IV)
   (ae (jg (pv 0) (kcal Jg hr (aa (bJ (pv 0) Hq) (aa (pv 3) ab))) Ij))))
abbrev qu:Stmt:=top 72
theorem GA:ak ["puzzle","masks","thought"] ["puzzle","masks","thought"] (ag qu):=by ac_rfl
theorem z6(B:Bt2 mg){c:RCl RK}{d:RCl PzK}(Ip:Cal P w K mg base 5 "strikes_by_line" ["puzzle","masks","thought"] (cb K c d))(HB:Cal P w K mg base 7 "strikes_by_number" ["puzzle","masks","thought"] (bN K c d))(HC:Cal P w K mg base 6 "strikes_by_region" ["puzzle","masks","thought"] (bM K c d))(KB:GTup K mg "LINE_KINDS" iK)(JE:GTup K mg "NUMBER_KINDS" ga)(F:Fun K "strikes" "strikes" qu f fd):FnOk P w K mg base CX0 8 f fd ["puzzle","masks","thought"] (dE K c d):=okk F GA yp fun hr hu nd=>(ac (aw (tD KB (kix hu (pv 2) ad) rfl) (ae (af (kcal Ip hr (aa (pv 0) (aa (pv 1) (aa (pv 2) ab)))))) ap)
   (ac (aw (tD JE (kix hu (pv 2) ad) rfl) (ae (af (kcal HB hr (aa (pv 0) (aa (pv 1) (aa (pv 2) ab)))))) ap)
   (ae (af (kcal HC hr (aa (pv 0) (aa (pv 1) (aa (pv 2) ab))))))))
abbrev qv:Stmt:=top 73
theorem GB:ak ["puzzle","masks","thought"] ["puzzle","masks","thought"] (ag qv):=by ac_rfl
theorem z7(B:Bt2 mg){c:RCl RK}{d:RCl PzK}(K9:Cal P w K mg base 4 "is_formed" ["puzzle","thought"] (gt K c d))(Ja:Cal P w K mg base 8 "strikes" ["puzzle","masks","thought"] (dE K c d))(F:Fun K "allowed" "allowed" qv f fd):FnOk P w K mg base CX0 9 f fd ["puzzle","masks","thought"] (ij K c d):=okk F GB yq fun hr hu nd=>(ae (af (br (kcal K9 hr (aa (pv 0) (aa (pv 2) ab))) (bD (kcal Ja hr (aa (pv 0) (aa (pv 1) (aa (pv 2) ab))))))))
abbrev pc:Stmt:=top 82
theorem GC:ak ["puzzle","masks","kind","number","cell","sign","more","thought"] ["puzzle","masks","kind","number","cell","sign"] (ag pc):=by ac_rfl
theorem yG(B:Bt2 mg){c:RCl RK}{d:RCl PzK}(JF:Cal P w K mg base 5 "mores_to_try" ["puzzle","masks","kind","number","cell","sign"] (dt K c d))(Ja:Cal P w K mg base 8 "strikes" ["puzzle","masks","thought"] (dE K c d))(F:Fun K "first_at" "first_at" pc f fd):FnOk P w K mg base CX0 9 f fd ["puzzle","masks","kind","number","cell","sign"] (ik K c d):=okk F GC yt fun hr hu nd=>(ac (bK Rb rfl (aB (kcal JF hr (aa (pv 0) (aa (pv 1) (aa (pv 2) (aa (pv 3) (aa (pv 4) (aa (pv 5) ab)))))))) (av (i:=6) nd rfl (Or.inl rfl))
   (ac (kset 7 nd (de (aa (pv 2) (aa (pv 3) (aa (pv 4) (aa (pv 5) (aa (pv 6) ab)))))))
   (ae (aw (aO (kcal Ja hr (aa (pv 0) (aa (pv 1) (aa (pv 7) ab))))) (ae (af (pv 7))) ap))))
   (ae (af l9)))
abbrev lP:Stmt:=top 126
theorem GD:ak ["_law_script","_law_floor","_law_rules","_law_many","_law_k","_law_rows","_law_clues","_law_cell"] ["_law_script","_law_floor","_law_rules"] (ag lP):=by ac_rfl
theorem vc(B:Bt2 mg){c:RCl RK}{d:RCl PzK}(GU:Cal P w K mg base 1 "_law_cell_at" ["_law_script","_law_k"] (bm K))(Li:Cal P w K mg base 2 "_law_row" ["_law_cell","_law_many","_law_signs"] (fG K))(NJ:KCal P w K mg base 7 "Puzzle" (d.A .Puzzle) ["self","floor","lines","clues"] (bz K c d))(F:Fun K "_law_puzzle" "_law_puzzle" lP f fd):FnOk P w K mg base CX0 9 f fd ["_law_script","_law_floor","_law_rules"] (c6 K c d):=okk F GD rW fun hr hu nd=>(ac (gc (i:=3) nd rfl (Or.inr rfl) (ar bI (kix hu (pv 1) ad) (kix hu (pv 1) ad)))
   (ac (l7 (k:=5) nd rfl (Or.inl rfl) rfl (ix:=[none,none,some 1,some 3,some 0]) [".0","_law_k","_law_floor","_law_many","_law_script"] (aF rfl (by decide+kernel) rfl rfl rfl) rfl (gd rfl B.range_ (aa (pv 2) ab)) (fun cl s H fp=>(av (i:=1) (show([".0","_law_k","_law_floor","_law_many","_law_script"]:List Str).Nodup by decide+kernel) rfl (Or.inl rfl))) (fun cl s H fp=>ba) (fun cl s H fp=>(kcal Li hr (aa (ar aX (ar bI (ar aM (kcal GU hr (aa (pv 4) (aa (ar aM ad (pv 1)) ab))) (ar bI ad (pv 1))) ad) ad) (aa (pv 3) (aa (kix hu (pv 2) ad) ab))))))
   (ac (kset 6 nd (aE ab))
   (ac (bK Rb rfl (gd rfl B.range_ (aa (pv 3) ab)) (av (i:=4) nd rfl (Or.inl rfl))
   (ac (kset 7 nd (ar aX (ar bI (ar aM (kcal GU hr (aa (pv 0) (aa (ar aM ad (pv 4)) ab))) (ar bI (ar bI ad (pv 4)) (pv 4))) ad) ad))
   (ae (cc (ca QM Rn Rp bX (pv 6) (aa (kix hu (aE (aa ad (aa ad (aa (ar aM ad (ar aX (ar b6 (pv 7) ad) (kix hu (pv 1) ad))) ab)))) (ar aX (pv 7) ad)) ab))))))
   (ae (af (lZ NJ hr (by decide) rfl (aa (pv 1) (aa (pv 5) (aa (pv 6) ab))))))))))
abbrev ka:Stmt:=top 85
theorem GE:ak ["puzzle","masks","kind","number","now","book","cell","sign","thought"] ["puzzle","masks","kind","number"] (ag ka):=by ac_rfl
theorem sB(B:Bt2 mg){c:RCl RK}{d:RCl PzK}(JG:Cal P w K mg base 2 "cells_to_try" ["puzzle","kind","number"] (dv K c d))(G6:Cal P w K mg base 1 "clashes" ["masks"] (bC K))(Lj:Cal P w K mg base 9 "first_at" ["puzzle","masks","kind","number","cell","sign"] (ik K c d))(GK:Cal P w K mg base 2 "signs_in" ["mask"] (aP K))(JH:Cal P w K mg base 3 "struck" ["masks","cell","sign"] (gD K))(F:Fun K "found_by_rule" "found_by_rule" ka f fd):FnOk P w K mg base CX0 10 f fd ["puzzle","masks","kind","number"] (c5 K c d):=okk F GE rR fun hr hu nd=>(ac (kset 4 nd (bG cG rfl B.list_ cm (aa (pv 1) ab)))
   (ac (kset 5 nd (aE ab))
   (ac (bK Rb rfl (aB (kcal JG hr (aa (pv 0) (aa (pv 2) (aa (pv 3) ab))))) (av (i:=6) nd rfl (Or.inl rfl))
   (ac (bK Rb rfl (aB (kcal GK hr (aa (kix hu (pv 4) (pv 6)) ab))) (av (i:=7) nd rfl (Or.inl rfl))
   (ac (kset 8 nd (kcal Lj hr (aa (pv 0) (aa (pv 4) (aa (pv 2) (aa (pv 3) (aa (pv 6) (aa (pv 7) ab))))))))
   (ae (aw (aj Cr (pv 8) l9 (ai _)) (ac (cc (ca QM Rn Rp bX (pv 5) (aa (pv 8) ab)))
   (ae (kset 4 nd (kcal JH hr (aa (pv 4) (aa (pv 6) (aa (pv 7) ab))))))) ap))))
   (ae (aw (aO (kcal G6 hr (aa (pv 4) ab))) (ae (af (pv 5))) ap))))
   (ae (af (pv 5))))))
abbrev lQ:Stmt:=top 87
theorem GF:ak ["puzzle","masks","kinds","kind","number","found"] ["puzzle","masks","kinds"] (ag lQ):=by ac_rfl
theorem vd(B:Bt2 mg){c:RCl RK}{d:RCl PzK}(Ji:Cal P w K mg base 10 "found_by_rule" ["puzzle","masks","kind","number"] (c5 K c d))(JI:Cal P w K mg base 3 "rule_numbers" ["puzzle","kind"] (du K c d))(Ik:GTup K mg "KINDS" gt_KINDS)(F:Fun K "first_found" "first_found" lQ f fd):FnOk P w K mg base CX0 11 f fd ["puzzle","masks","kinds"] (cg K c d):=okk F GF uT fun hr hu nd=>(ac (bK Rb rfl (aB (aK (ix:=[none,none,some 2]) [".0","word","kinds"] (aF rfl (by decide+kernel) rfl rfl rfl) rfl (wv (Ch Ik rfl)) (fun cl s H fp=>(av (i:=1) (show([".0","word","kinds"]:List Str).Nodup by decide+kernel) rfl (Or.inl rfl))) (fun cl s H fp=>(bi (aj (cQ hu) (pv 1) (pv 2) (by with_unfolding_all rfl)))) (fun cl s H fp=>(pv 1)))) (av (i:=3) nd rfl (Or.inl rfl))
   (ae (bK Rb rfl (aB (kcal JI hr (aa (pv 0) (aa (pv 3) ab)))) (av (i:=4) nd rfl (Or.inl rfl))
   (ac (kset 5 nd (kcal Ji hr (aa (pv 0) (aa (pv 1) (aa (pv 3) (aa (pv 4) ab))))))
   (ae (aw (aj (aW hu) (pv 5) (aE ab) (ai _)) (ae (af (pv 5))) ap))))))
   (ae (af (aE ab))))
abbrev kU:Stmt:=top 88
theorem GG:ak ["puzzle","masks","kinds","found"] ["puzzle","masks","kinds"] (ag kU):=by ac_rfl
theorem uv(B:Bt2 mg){c:RCl RK}{d:RCl PzK}(G6:Cal P w K mg base 1 "clashes" ["masks"] (bC K))(Hm:Cal P w K mg base 11 "first_found" ["puzzle","masks","kinds"] (cg K c d))(F:Fun K "next_thought" "next_thought" kU f fd):FnOk P w K mg base CX0 12 f fd ["puzzle","masks","kinds"] (dw K c d):=okk F GG t4 fun hr hu nd=>(ac (kset 3 nd (iM (bh (aO (kcal G6 hr (aa (pv 1) ab)))) (kcal Hm hr (aa (pv 0) (aa (pv 1) (aa (pv 2) ab)))) (aE ab)))
   (ae (af (iM (aj (aW hu) (pv 3) (aE ab) (ai _)) (kix hu (pv 3) ad) l9))))
abbrev ve:Stmt:=top 89
theorem EX:ak ["puzzle","masks","kinds","now","book","found","thought"] ["puzzle","masks","kinds"] (ag ve):=by ac_rfl
theorem B8(B:Bt2 mg){c:RCl RK}{d:RCl PzK}(G6:Cal P w K mg base 1 "clashes" ["masks"] (bC K))(Hm:Cal P w K mg base 11 "first_found" ["puzzle","masks","kinds"] (cg K c d))(JH:Cal P w K mg base 3 "struck" ["masks","cell","sign"] (gD K))(F:Fun K "think" "think" ve f fd):FnOk P w K mg base CX0 12 f fd ["puzzle","masks","kinds"] (kx K c d):=okk F EX B7 fun hr hu nd=>(ac (kset 3 nd (bG cG rfl B.list_ cm (aa (pv 1) ab)))
   (ac (kset 4 nd (aE ab))
   (ac (wu Rb (bh (aO (kcal G6 hr (aa (pv 3) ab))))
   (ac (kset 5 nd (kcal Hm hr (aa (pv 0) (aa (pv 3) (aa (pv 2) ab)))))
   (ac (aw (aj (az hu) (pv 5) (aE ab) (ai _)) (ae (af (de (aa (pv 3) (aa (pv 4) ab))))) ap)
   (ae (bK Rb rfl (aB (pv 5)) (av (i:=6) nd rfl (Or.inl rfl))
   (ac (cc (ca QM Rn Rp bX (pv 4) (aa (pv 6) ab)))
   (ae (kset 3 nd (kcal JH hr (aa (pv 3) (aa (kix hu (pv 6) ad) (aa (kix hu (pv 6) ad) ab))))))))))))
   (ae (af (de (aa (pv 3) (aa (pv 4) ab))))))))
abbrev lR:Stmt:=top 128
theorem GH:ak ["_law_puzzle_here","_law_masks_here","_law_kinds","_law_found","_law_left","_law_thought","_law_one","_law_mask"] ["_law_puzzle_here","_law_masks_here","_law_kinds","_law_found"] (ag lR):=by ac_rfl
theorem vf(B:Bt2 mg){c:RCl RK}{d:RCl PzK}(Mv:Cal P w K mg base 9 "allowed" ["puzzle","masks","thought"] (ij K c d))(JJ:Cal P w K mg base 12 "next_thought" ["puzzle","masks","kinds"] (dw K c d))(F:Fun K "_law_walked" "_law_walked" lR f fd):FnOk P w K mg base CX0 13 f fd ["_law_puzzle_here","_law_masks_here","_law_kinds","_law_found"] (cj K c d):=okk F GH rX fun hr hu nd=>(ac (aw (Sm (bw (bh (aO (au bS rfl B.isinstance_ bb (aa (pv 3) (aa (cM (v:=.ty "tuple") rfl B.tuple_ ke rfl) ab))))) (bQ (aj (aW hu) (au aG rfl B.len_ aR (aa (pv 3) ab)) ad (ai _))))) (ae (af bn)) ap)
   (ac (aw (Sm (bw (bh (aO (au bS rfl B.isinstance_ bb (aa (kix hu (pv 3) ad) (aa (cM (v:=.ty "list") rfl B.list_ cm rfl) ab))))) (bQ (bh (aO (au bS rfl B.isinstance_ bb (aa (kix hu (pv 3) ad) (aa (cM (v:=.ty "list") rfl B.list_ cm rfl) ab)))))))) (ae (af bn)) ap)
   (ac (kset 4 nd (bG cG rfl B.list_ cm (aa (pv 1) ab)))
   (ac (bK Rb rfl (aB (kix hu (pv 3) ad)) (av (i:=5) nd rfl (Or.inl rfl))
   (ac (aw (Sm (bw (aj (cQ hu) ad (pv 4) (by with_unfolding_all rfl)) (bw (bh (aO (au bS rfl B.isinstance_ bb (aa (pv 5) (aa (cM (v:=.ty "tuple") rfl B.tuple_ ke rfl) ab))))) (bw (aj (aW hu) (au aG rfl B.len_ aR (aa (pv 5) ab)) ad (ai _)) (bQ (aj (cJ hu) (kix hu (pv 5) ad) (pv 2) (by with_unfolding_all rfl))))))) (ae (af bn)) ap)
   (ac (kset 6 nd (kix hu (aE (aa ad (aa ad (aa ad (aa ad ab))))) (ar cf (kix hu (pv 5) ad) ad)))
   (ac (aw (Sm (bw (aj (az hu) (ar aX (ar b6 (kix hu (pv 4) (kix hu (pv 5) ad)) (pv 6)) ad) ad (ai _)) (bQ (bh (aO (kcal Mv hr (aa (pv 0) (aa (pv 4) (aa (pv 5) ab))))))))) (ae (af bn)) ap)
   (ae (wr (ar cf (kix hu (pv 4) (kix hu (pv 5) ad)) (pv 6)) (Ad (pv 4) (kix hu (pv 5) ad) (Cb hu))))))))
   (ac (bK Rb rfl (aB (kix hu (pv 3) ad)) (av (i:=7) nd rfl (Or.inl rfl))
   (ae (aw (Sm (bw (bh (aO (au bS rfl B.isinstance_ bb (aa (pv 7) (aa (cM (v:=.ty "int") rfl B.int_ wI rfl) ab))))) (bQ (aO (au bS rfl B.isinstance_ bb (aa (pv 7) (aa (cM (v:=.ty "bool") rfl B.bool_ yO rfl) ab))))))) (ae (af bn)) ap)))
   (ae (af (br (ay (az hu) (kix hu (pv 3) ad) (pv 4) (ai _)) (bD (sD (ay (cQ hu) ad (pv 4) (by with_unfolding_all rfl)) (bD (ay Ai (kcal JJ hr (aa (pv 0) (aa (pv 4) (aa (pv 2) ab)))) l9 (ai _)))))))))))))
abbrev qM:Stmt:=top 129
theorem sq106:ak ["_law_script","_law_cell","_law_high","_law_wide","_law_floor","_law_puzzle_here","_law_masks_here","_law_order_here","_law_kinds","_law_heard","_law_words","_law_found","_law_many","_law_thought","_law_again"] ["_law_script"] (ag qM):=by ac_rfl
theorem Ep(B:Bt2 mg){c:RCl RK}{d:RCl PzK}(GU:Cal P w K mg base 1 "_law_cell_at" ["_law_script","_law_k"] (bm K))(KC:Cal P w K mg base 2 "_law_masks" ["_law_script","_law_many","_law_signs"] (dz K))(Hw:Cal P w K mg base 1 "_law_order" ["_law_number","_law_many"] (b5 K))(JY:Cal P w K mg base 9 "_law_puzzle" ["_law_script","_law_floor","_law_rules"] (c6 K c d))(IE:Cal P w K mg base 13 "_law_walked" ["_law_puzzle_here","_law_masks_here","_law_kinds","_law_found"] (cj K c d))(Nd:Cal P w K mg base 12 "think" ["puzzle","masks","kinds"] (kx K c d))(Ik:GTup K mg "KINDS" gt_KINDS)(F:Fun K "law" "law" qM f fd):FnOk P w K mg base CX0 14 f fd ["_law_script"] (xK K c d):=by
 refine F.ok sq106 (fun vs H Q E h=>Em h) (fun Qk A outer s H vs Q E hr h=>?_);have hu:=hr.units;have nd:=sq106.nd;refine⟨t7 K c d,?_,Eo h⟩;refine ac ?s0 ?r0
 case s0=>exact(kset 1 nd (ar aX (ar bI (kcal GU hr (aa (pv 0) (aa ad ab))) ad) ad))
 case r0=>
  refine ac ?s1 ?r1
  case s1=>
   refine wr (te:=?te) (g:=gTup K 2 (gCons (gName 2) (gCons (gName 3) gNil))) ?h1 ?h2 ?h4 ?h5 ?h6
   case h2=>exact(sE rfl (gb (av (i:=2) nd rfl (Or.inl rfl)) (gb (av (i:=3) nd rfl (Or.inl rfl)) qx)))
   case h4=>rfl
   case h5=>rfl
   case h6=>rfl
   case h1=>
    refine sH ?x ?l ?j ?p
    case x=>exact(DK hu)
    case p=>exact(fun _ _=>rfl)
    case j=>exact(ar aX (pv 1) ad)
    case l=>
     refine aE ?_;refine ky ?_ ?_
     . exact de (cB ad (cB ad ab))
     refine ky ?_ ?_
     . exact de (cB ad (cB ad ab))
     refine ky ?_ ?_
     . exact de (cB ad (cB ad ab))
     refine ky ?_ ?_
     . exact de (cB ad (cB ad ab))
     refine ky ?_ ?_
     . exact de (cB ad (cB ad ab))
     refine ky ?_ ?_
     . exact de (cB ad (cB ad ab))
     exact ab
  case r1=>
   exact(ac (kset 4 nd (de (aa (pv 2) (aa (pv 3) (aa (ar aM ad (ar aX (ar b6 (pv 1) ad) ad)) ab)))))
   (ac (kset 5 nd (kcal JY hr (aa (pv 0) (aa (pv 4) (aa (ar aX (ar b6 (pv 1) ad) ad) ab)))))
   (ac (kset 6 nd (kcal KC hr (aa (pv 0) (aa (ar bI (pv 2) (pv 3)) (aa (kix hu (pv 4) ad) ab)))))
   (ac (kset 7 nd (kcal Hw hr (aa (ar aX (ar bI (kcal GU hr (aa (pv 0) (aa ad ab))) ad) ad) (aa ad ab))))
   (ac (l7 (k:=8) nd rfl (Or.inl rfl) rfl (ix:=[none,none]) [".0","_law_k"] (aF rfl (by decide+kernel) rfl rfl rfl) rfl (aB (ge m7 (pv 7) l6 (fH (ar aM ad (ar aX (ar b6 (pv 1) ad) ad))))) (fun cl s H fp=>(av (i:=1) (show([".0","_law_k"]:List Str).Nodup by decide+kernel) rfl (Or.inl rfl))) (fun cl s H fp=>ba) (fun cl s H fp=>(sH An (Ch Ik rfl) (pv 1) (fun _ _=>rfl))))
   (ac (kset 9 nd (bG cG rfl B.list_ cm (aa (pv 6) ab)))
   (ac (kset 10 nd (bG cG rfl B.list_ cm (aa (pv 8) ab)))
   (ac (kset 11 nd (kcal Nd hr (aa (pv 5) (aa (pv 9) (aa (pv 10) ab)))))
   (ac (aw (Sm (bw (bh (aO (kcal IE hr (aa (pv 5) (aa (pv 6) (aa (pv 8) (aa (pv 11) ab))))))) (bw (aj (aW hu) (pv 9) (pv 6) (ai _)) (bQ (aj (aW hu) (pv 10) (pv 8) (ai _)))))) (ae (af bn)) ap)
   (ac (kset 12 nd (au aG rfl B.len_ aR (aa (kix hu (pv 11) ad) ab)))
   (ac (aw (Sm (sC (aj (cQ hu) ad (pv 6) (by with_unfolding_all rfl)) (qw (aj eX (pv 12) ad (ai _))))) (ae (af bn)) ap)
   (ac (bK Rb rfl (aB (kix hu (pv 11) ad)) (av (i:=13) nd rfl (Or.inl rfl))
   (ae (cc (ca QM Rn Rp bX (kix hu (pv 13) ad) (aa ad ab)))))
   (ac (cc (sI QM Tu Tv vv (kix hu (pv 11) ad)))
   (ac (cc (sI QM Tu Tv vv (kix hu (pv 11) ad)))
   (ac (kset 14 nd (kcal Nd hr (aa (pv 5) (aa (pv 6) (aa (pv 8) ab)))))
   (ae (af (kcal IE hr (aa (pv 5) (aa (pv 6) (aa (pv 8) (aa (pv 14) ab))))))))))))))))))))))
def mkC(GM G4 GP GX GR GN GJ GT:Addr):RCl RK:=⟨fun k=>match k with | .Rule=>GM | .Unlike=>GM | .Sum=>G4 | .Rising=>GP | .Seen=>GX | .Count=>GR | .Joined=>GN | .NoSquare=>GJ | .Ring=>GT,fun k=>match k with | .Rule=>false | _=>true⟩
def mk1(c:RCl RK)(k:RK):RCl RK:=⟨c.A,match k with | .Joined=>(fun i=>match i with | .Joined=>true | _=>false) | .Ring=>(fun i=>match i with | .Ring=>true | _=>false) | _=>fun _=>false⟩
def mkD(GY:Addr):RCl PzK:=⟨fun _=>GY,fun _=>true⟩
variable{l:PySem.W.OpenLaw}
theorem Er {w:World} {K:Frag} {h:Heap} {mg:Str->Option Value} {fa:Addr} (X:K.In h) (G:h.Ns mainGlobals mg) (hfa:mg "law"=some (.ref fa))
  {f0 f1 f2 f3 f4 f5 f6 f7 f8 f9 f10 f11 f12 f13 f14 f15 f16 f17 f18 f19 f20 f21 f22 f23 f24 f25 f26 f27 f28 f29 f30 f31 f32 f33 f34 f35 f36 f37 f38 f39 f40 f41 f42 f43 f44 f45 f46 f47 f48 f49 f50 f51 f52 f53 f54 f55 f56 f57 f58 f59 f60 f61 f62 f63 f64 f65 f66 f67 f68 f69 f70 f71 f72 f73 f74 f75 f76 f77 f78 f79 f80 f81 f82 f83 f84 f85 f86 f87 f88 f89 f90 f91 f92 f93 f94 f95 f96 f97 f98 f99 f100 f101 f102 f103 f104 f105 f106:Addr} {fd0 fd1 fd2 fd3 fd4 fd5 fd6 fd7 fd8 fd9 fd10 fd11 fd12 fd13 fd14 fd15 fd16 fd17 fd18 fd19 fd20 fd21 fd22 fd23 fd24 fd25 fd26 fd27 fd28 fd29 fd30 fd31 fd32 fd33 fd34 fd35 fd36 fd37 fd38 fd39 fd40 fd41 fd42 fd43 fd44 fd45 fd46 fd47 fd48 fd49 fd50 fd51 fd52 fd53 fd54 fd55 fd56 fd57 fd58 fd59 fd60 fd61 fd62 fd63 fd64 fd65 fd66 fd67 fd68 fd69 fd70 fd71 fd72 fd73 fd74 fd75 fd76 fd77 fd78 fd79 fd80 fd81 fd82 fd83 fd84 fd85 fd86 fd87 fd88 fd89 fd90 fd91 fd92 fd93 fd94 fd95 fd96 fd97 fd98 fd99 fd100 fd101 fd102 fd103 fd104 fd105 fd106:FuncData} {GM G4 GP GX GR GN GJ GT GY:Addr} {NK:Addr} {PM:Option Addr} {PN:Nat} {PP:Array (Option Value)} {PQ PR PU PV PX PY PZ P0 P1 P2 PL:Tok} {JZ:Addr} {O7:Option Addr} {O8:Nat} {O9:Array (Option Value)} {Pa Pb Pc Pd Pe:Tok} {Jj:Addr} {Op:Option Addr} {Oq:Nat} {Os:Array (Option Value)} {Ot Ou Ov:Tok} {Jk:Addr} {Ow:Option Addr} {Ox:Nat} {Oy:Array (Option Value)} {Oz OA OB:Tok} {JK:Addr} {OH:Option Addr} {OI:Nat} {OJ:Array (Option Value)} {OK OL OM:Tok} {KD:Addr} {Pk:Option Addr} {Pl:Nat} {Pm:Array (Option Value)} {Pn Po Pp Pq:Tok} {II:Addr} {NL:Nat} {J7:Int} {Nf:Tok} {J8:Addr} {Mw:Option Addr} {Ng:Nat} {Mx:Array (Option Value)} {Mh:Tok} {J9:Int} {Nh:Tok} {Ka:Addr} {My:Option Addr} {Ni:Nat} {Mz:Array (Option Value)} {Mi:Tok} {Kb:Int} {Nj:Tok} {Kc:Addr} {MA:Option Addr} {Nk:Nat} {MC:Array (Option Value)} {Mj:Tok} {Ke:Int} {Nl:Tok} {Kf:Addr} {MD:Option Addr} {Nm:Nat} {ME:Array (Option Value)} {Ml:Tok} {Kg:Int} {Nn:Tok} {Kh:Addr} {MF:Option Addr} {No:Nat} {MG:Array (Option Value)} {Mm:Tok} {Ki:Int} {Np:Tok} {Kj:Addr} {MH:Option Addr} {Nq:Nat} {MI:Array (Option Value)} {Mn:Tok} {Kk:Int} {Nr:Tok} {Kl:Addr} {MJ:Option Addr} {Nt:Nat} {MK:Array (Option Value)} {Mo Mp:Tok} {Km:Int} {Nv:Tok} {Kn:Addr} {ML:Option Addr} {Nw:Nat} {MM:Array (Option Value)} {Mq:Tok} {Ko:Int} {Ny:Tok} {Kp:Addr} {MN:Option Addr} {Nz:Nat} {MO:Array (Option Value)} {Mr:Tok} {tk_FIGURES:Tok} {tk_MOST_CELLS:Tok} {tk_MOST_FIGURES:Tok} {tk_MOST_NUMBER:Tok} {tk_MOST_RULES:Tok} {tk_MOST_SIDE:Tok} {tk_MOST_SIGNS:Tok} {tk_MOST_WAYS:Tok}
  (NM:nsIn K mainGlobals "Unlike"=some (some (.ref GM))) (q_Sum:nsIn K mainGlobals "Sum"=some (some (.ref G4))) (NN:nsIn K mainGlobals "Rising"=some (some (.ref GP))) (Pr:nsIn K mainGlobals "Seen"=some (some (.ref GX))) (ON:nsIn K mainGlobals "Count"=some (some (.ref GR))) (NO:nsIn K mainGlobals "Joined"=some (some (.ref GN))) (Ll:nsIn K mainGlobals "NoSquare"=some (some (.ref GJ))) (Ps:nsIn K mainGlobals "Ring"=some (some (.ref GT))) (NP:nsIn K mainGlobals "Puzzle"=some (some (.ref GY))) (a0:nsIn K mainGlobals "is_whole"=some (some (.ref f0))) (a1:nsIn K mainGlobals "many_cells"=some (some (.ref f1))) (a2:nsIn K mainGlobals "spot_of"=some (some (.ref f2))) (a3:nsIn K mainGlobals "square_at"=some (some (.ref f3))) (a4:nsIn K mainGlobals "bit_of"=some (some (.ref f4))) (a5:nsIn K mainGlobals "stands"=some (some (.ref f5))) (a6:nsIn K mainGlobals "clashes"=some (some (.ref f6))) (a7:nsIn K mainGlobals "masks_at"=some (some (.ref f7))) (a8:nsIn K mainGlobals "clue_strikes"=some (some (.ref f8))) (a9:nsIn K mainGlobals "are_told_in_order"=some (some (.ref f9))) (a10:nsIn K mainGlobals "with_sign"=some (some (.ref f10))) (a11:nsIn K mainGlobals "place_mores"=some (some (.ref f11))) (a12:nsIn K mainGlobals "is_within"=some (some (.ref f12))) (Lm:findIn K (.ref GM) "__init__"=some (some (.ref f13))) (OO:findIn K (.ref G4) "__init__"=some (some (.ref f13))) (Ln:findIn K (.ref GP) "__init__"=some (some (.ref f13))) (NQ:findIn K (.ref GX) "__init__"=some (some (.ref f13))) (MP:findIn K (.ref GR) "__init__"=some (some (.ref f13))) (Lo:findIn K (.ref GN) "__init__"=some (some (.ref f13))) (KF:findIn K (.ref GJ) "__init__"=some (some (.ref f13))) (NR:findIn K (.ref GT) "__init__"=some (some (.ref f13))) (Lp:findIn K (.ref GM) "name"=some (some (.ref f14))) (OP:findIn K (.ref G4) "name"=some (some (.ref f14))) (Lq:findIn K (.ref GP) "name"=some (some (.ref f14))) (NS:findIn K (.ref GX) "name"=some (some (.ref f14))) (MQ:findIn K (.ref GR) "name"=some (some (.ref f14))) (Lr:findIn K (.ref GN) "name"=some (some (.ref f14))) (KG:findIn K (.ref GJ) "name"=some (some (.ref f14))) (NT:findIn K (.ref GT) "name"=some (some (.ref f14))) (Ls:findIn K (.ref GM) "spots"=some (some (.ref f15))) (OQ:findIn K (.ref G4) "spots"=some (some (.ref f15))) (Lu:findIn K (.ref GP) "spots"=some (some (.ref f15))) (NU:findIn K (.ref GX) "spots"=some (some (.ref f15))) (MR:findIn K (.ref GR) "spots"=some (some (.ref f15))) (Lv:findIn K (.ref GN) "spots"=some (some (.ref f15))) (KH:findIn K (.ref GJ) "spots"=some (some (.ref f15))) (NV:findIn K (.ref GT) "spots"=some (some (.ref f15))) (Lw:findIn K (.ref GM) "number"=some (some (.ref f16))) (OR:findIn K (.ref G4) "number"=some (some (.ref f16))) (Lx:findIn K (.ref GP) "number"=some (some (.ref f16))) (NW:findIn K (.ref GX) "number"=some (some (.ref f16))) (MS:findIn K (.ref GR) "number"=some (some (.ref f16))) (Ly:findIn K (.ref GN) "number"=some (some (.ref f16))) (KI:findIn K (.ref GJ) "number"=some (some (.ref f16))) (NX:findIn K (.ref GT) "number"=some (some (.ref f16))) (Lz:findIn K (.ref GM) "sign"=some (some (.ref f17))) (OS:findIn K (.ref G4) "sign"=some (some (.ref f17))) (LA:findIn K (.ref GP) "sign"=some (some (.ref f17))) (NY:findIn K (.ref GX) "sign"=some (some (.ref f17))) (MT:findIn K (.ref GR) "sign"=some (some (.ref f17))) (LB:findIn K (.ref GN) "sign"=some (some (.ref f17))) (KJ:findIn K (.ref GJ) "sign"=some (some (.ref f17))) (NZ:findIn K (.ref GT) "sign"=some (some (.ref f17))) (LC:findIn K (.ref GM) "signs_at"=some (some (.ref f18))) (OT:findIn K (.ref G4) "signs_at"=some (some (.ref f18))) (LD:findIn K (.ref GP) "signs_at"=some (some (.ref f18))) (N0:findIn K (.ref GX) "signs_at"=some (some (.ref f18))) (MU:findIn K (.ref GR) "signs_at"=some (some (.ref f18))) (LE:findIn K (.ref GN) "signs_at"=some (some (.ref f18))) (KK:findIn K (.ref GJ) "signs_at"=some (some (.ref f18))) (N1:findIn K (.ref GT) "signs_at"=some (some (.ref f18))) (LF:findIn K (.ref GM) "marked"=some (some (.ref f19))) (OU:findIn K (.ref G4) "marked"=some (some (.ref f19))) (LG:findIn K (.ref GP) "marked"=some (some (.ref f19))) (N4:findIn K (.ref GX) "marked"=some (some (.ref f19))) (MV:findIn K (.ref GR) "marked"=some (some (.ref f19))) (Kq:findIn K (.ref GN) "marked"=some (some (.ref f19))) (KL:findIn K (.ref GJ) "marked"=some (some (.ref f19))) (LH:findIn K (.ref GT) "marked"=some (some (.ref f19))) (a20:nsIn K mainGlobals "number_in"=some (some (.ref f20))) (LI:findIn K (.ref GY) "place"=some (some (.ref f21))) (LJ:findIn K (.ref GY) "clues"=some (some (.ref f22))) (LK:findIn K (.ref GY) "rules"=some (some (.ref f23))) (a24:nsIn K mainGlobals "_law_cell_at"=some (some (.ref f24))) (a25:nsIn K mainGlobals "_law_order"=some (some (.ref f25))) (a26:nsIn K mainGlobals "is_from_one_to"=some (some (.ref f26))) (a27:nsIn K mainGlobals "beside"=some (some (.ref f27))) (a28:nsIn K mainGlobals "is_corner"=some (some (.ref f28))) (a29:nsIn K mainGlobals "without"=some (some (.ref f29))) (a30:nsIn K mainGlobals "signs_in"=some (some (.ref f30))) (a31:nsIn K mainGlobals "is_cell"=some (some (.ref f31))) (a32:nsIn K mainGlobals "goes_by"=some (some (.ref f32))) (a33:nsIn K mainGlobals "others"=some (some (.ref f33))) (a34:nsIn K mainGlobals "many_may"=some (some (.ref f34))) (a35:nsIn K mainGlobals "ahead_of"=some (some (.ref f35))) (a36:nsIn K mainGlobals "behind"=some (some (.ref f36))) (a37:nsIn K mainGlobals "with_each_sign"=some (some (.ref f37))) (a38:nsIn K mainGlobals "cells_to_try"=some (some (.ref f38))) (LL:findIn K (.ref GM) "holds"=some (some (.ref f39))) (OV:findIn K (.ref G4) "holds"=some (some (.ref f40))) (LM:findIn K (.ref GP) "holds"=some (some (.ref f41))) (N5:findIn K (.ref GX) "holds"=some (some (.ref f42))) (MW:findIn K (.ref GR) "holds"=some (some (.ref f43))) (a44:nsIn K mainGlobals "number_within"=some (some (.ref f44))) (a45:nsIn K mainGlobals "is_filling"=some (some (.ref f45))) (a46:nsIn K mainGlobals "_law_row"=some (some (.ref f46))) (a47:nsIn K mainGlobals "_law_masks"=some (some (.ref f47))) (a48:nsIn K mainGlobals "floor_of"=some (some (.ref f48))) (a49:nsIn K mainGlobals "squares"=some (some (.ref f49))) (a50:nsIn K mainGlobals "reached"=some (some (.ref f50))) (a51:nsIn K mainGlobals "has_only"=some (some (.ref f51))) (a52:nsIn K mainGlobals "struck"=some (some (.ref f52))) (a53:nsIn K mainGlobals "ways"=some (some (.ref f53))) (a54:nsIn K mainGlobals "is_sign"=some (some (.ref f54))) (a55:nsIn K mainGlobals "has_its_rule"=some (some (.ref f55))) (a56:nsIn K mainGlobals "is_no_greater"=some (some (.ref f56))) (a57:nsIn K mainGlobals "is_no_less"=some (some (.ref f57))) (a58:nsIn K mainGlobals "pair_strikes"=some (some (.ref f58))) (a59:nsIn K mainGlobals "sum_strikes"=some (some (.ref f59))) (a60:nsIn K mainGlobals "around"=some (some (.ref f60))) (a61:nsIn K mainGlobals "turn_mores"=some (some (.ref f61))) (a62:nsIn K mainGlobals "pair_mores"=some (some (.ref f62))) (a63:nsIn K mainGlobals "rule_numbers"=some (some (.ref f63))) (N6:findIn K (.ref GT) "has_two_beside"=some (some (.ref f64))) (a65:nsIn K mainGlobals "first_within"=some (some (.ref f65))) (a66:nsIn K mainGlobals "told_cells"=some (some (.ref f66))) (a67:nsIn K mainGlobals "rule_by"=some (some (.ref f67))) (a68:nsIn K mainGlobals "checked_clues"=some (some (.ref f68))) (a69:nsIn K mainGlobals "is_formed"=some (some (.ref f69))) (a70:nsIn K mainGlobals "many_only"=some (some (.ref f70))) (a71:nsIn K mainGlobals "only_strikes"=some (some (.ref f71))) (a72:nsIn K mainGlobals "place_strikes"=some (some (.ref f72))) (a73:nsIn K mainGlobals "step_strikes"=some (some (.ref f73))) (a74:nsIn K mainGlobals "rest_of_square"=some (some (.ref f74))) (a75:nsIn K mainGlobals "is_another_with_only"=some (some (.ref f75))) (a76:nsIn K mainGlobals "only_mores"=some (some (.ref f76))) (a77:nsIn K mainGlobals "square_mores"=some (some (.ref f77))) (a78:nsIn K mainGlobals "reach_mores"=some (some (.ref f78))) (LN:findIn K (.ref GN) "is_joined"=some (some (.ref f79))) (N7:findIn K (.ref GT) "is_joined"=some (some (.ref f79))) (KM:findIn K (.ref GJ) "holds"=some (some (.ref f80))) (a81:nsIn K mainGlobals "cells_of"=some (some (.ref f81))) (a82:nsIn K mainGlobals "checked_floor"=some (some (.ref f82))) (a83:nsIn K mainGlobals "strikes_by_line"=some (some (.ref f83))) (a84:nsIn K mainGlobals "count_strikes"=some (some (.ref f84))) (a85:nsIn K mainGlobals "square_strikes"=some (some (.ref f85))) (a86:nsIn K mainGlobals "reach_strikes"=some (some (.ref f86))) (a87:nsIn K mainGlobals "turn_strikes"=some (some (.ref f87))) (a88:nsIn K mainGlobals "mores_to_try"=some (some (.ref f88))) (LO:findIn K (.ref GN) "holds"=some (some (.ref f89))) (N8:findIn K (.ref GT) "holds"=some (some (.ref f90))) (a91:nsIn K mainGlobals "read_rule"=some (some (.ref f91))) (a92:nsIn K mainGlobals "ways_strikes"=some (some (.ref f92))) (a93:nsIn K mainGlobals "strikes_by_region"=some (some (.ref f93))) (a94:nsIn K mainGlobals "read_rules"=some (some (.ref f94))) (a95:nsIn K mainGlobals "strikes_by_number"=some (some (.ref f95))) (LP:findIn K (.ref GY) "__init__"=some (some (.ref f96))) (a97:nsIn K mainGlobals "strikes"=some (some (.ref f97))) (a98:nsIn K mainGlobals "allowed"=some (some (.ref f98))) (a99:nsIn K mainGlobals "first_at"=some (some (.ref f99))) (a100:nsIn K mainGlobals "_law_puzzle"=some (some (.ref f100))) (a101:nsIn K mainGlobals "found_by_rule"=some (some (.ref f101))) (a102:nsIn K mainGlobals "first_found"=some (some (.ref f102))) (a103:nsIn K mainGlobals "next_thought"=some (some (.ref f103))) (a104:nsIn K mainGlobals "think"=some (some (.ref f104))) (a105:nsIn K mainGlobals "_law_walked"=some (some (.ref f105))) (a106:nsIn K mainGlobals "law"=some (some (.ref f106))) (F0:Fun K "is_whole" "is_whole" oW f0 fd0) (F1:Fun K "many_cells" "many_cells" mL f1 fd1) (F2:Fun K "spot_of" "spot_of" qh f2 fd2) (F3:Fun K "square_at" "square_at" nR f3 fd3) (F4:Fun K "bit_of" "bit_of" rY f4 fd4) (F5:Fun K "stands" "stands" rZ f5 fd5) (F6:Fun K "clashes" "clashes" qi f6 fd6) (F7:Fun K "masks_at" "masks_at" oX f7 fd7) (F8:Fun K "clue_strikes" "clue_strikes" kA f8 fd8) (F9:Fun K "are_told_in_order" "are_told_in_order" fV f9 fd9) (F10:Fun K "with_sign" "with_sign" nS f10 fd10) (F11:Fun K "place_mores" "place_mores" lJ f11 fd11) (F12:Fun K "is_within" "is_within" nU f12 fd12) (F13:Fun K "__init__" "Rule.__init__" jZ f13 fd13) (fn13:isFn K (.ref f13)=true) (F14:Fun K "name" "Rule.name" nV f14 fd14) (fn14:isFn K (.ref f14)=true) (F15:Fun K "spots" "Rule.spots" mN f15 fd15) (fn15:isFn K (.ref f15)=true) (F16:Fun K "number" "Rule.number" lK f16 fd16) (fn16:isFn K (.ref f16)=true) (F17:Fun K "sign" "Rule.sign" nX f17 fd17) (fn17:isFn K (.ref f17)=true) (F18:Fun K "signs_at" "Rule.signs_at" j2 f18 fd18) (fn18:isFn K (.ref f18)=true) (F19:Fun K "marked" "Rule.marked" lL f19 fd19) (fn19:isFn K (.ref f19)=true) (F20:Fun K "number_in" "number_in" nY f20 fd20) (F21:Fun K "place" "Puzzle.place" kC f21 fd21) (fn21:isFn K (.ref f21)=true) (F22:Fun K "clues" "Puzzle.clues" kD f22 fd22) (fn22:isFn K (.ref f22)=true) (F23:Fun K "rules" "Puzzle.rules" kE f23 fd23) (fn23:isFn K (.ref f23)=true) (F24:Fun K "_law_cell_at" "_law_cell_at" kF f24 fd24) (F25:Fun K "_law_order" "_law_order" mO f25 fd25) (F26:Fun K "is_from_one_to" "is_from_one_to" ja f26 fd26) (F27:Fun K "beside" "beside" sf f27 fd27) (F28:Fun K "is_corner" "is_corner" nZ f28 fd28) (F29:Fun K "without" "without" qj f29 fd29) (F30:Fun K "signs_in" "signs_in" oZ f30 fd30) (F31:Fun K "is_cell" "is_cell" qk f31 fd31) (F32:Fun K "goes_by" "goes_by" ql f32 fd32) (F33:Fun K "others" "others" sh f33 fd33) (F34:Fun K "many_may" "many_may" o0 f34 fd34) (F35:Fun K "ahead_of" "ahead_of" o4 f35 fd35) (F36:Fun K "behind" "behind" si f36 fd36) (F37:Fun K "with_each_sign" "with_each_sign" jb f37 fd37) (F38:Fun K "cells_to_try" "cells_to_try" kG f38 fd38) (F39:Fun K "holds" "Unlike.holds" kH f39 fd39) (fn39:isFn K (.ref f39)=true) (F40:Fun K "holds" "Sum.holds" n6 f40 fd40) (fn40:isFn K (.ref f40)=true) (F41:Fun K "holds" "Rising.holds" kI f41 fd41) (fn41:isFn K (.ref f41)=true) (F42:Fun K "holds" "Seen.holds" mP f42 fd42) (fn42:isFn K (.ref f42)=true) (F43:Fun K "holds" "Count.holds" lM f43 fd43) (fn43:isFn K (.ref f43)=true) (F44:Fun K "number_within" "number_within" j3 f44 fd44) (F45:Fun K "is_filling" "is_filling" mQ f45 fd45) (F46:Fun K "_law_row" "_law_row" o5 f46 fd46) (F47:Fun K "_law_masks" "_law_masks" mR f47 fd47) (F48:Fun K "floor_of" "floor_of" o6 f48 fd48) (F49:Fun K "squares" "squares" qm f49 fd49) (F50:Fun K "reached" "reached" qo f50 fd50) (F51:Fun K "has_only" "has_only" o7 f51 fd51) (F52:Fun K "struck" "struck" sk f52 fd52) (F53:Fun K "ways" "ways" xV f53 fd53) (F54:Fun K "is_sign" "is_sign" qp f54 fd54) (F55:Fun K "has_its_rule" "has_its_rule" kJ f55 fd55) (F56:Fun K "is_no_greater" "is_no_greater" j4 f56 fd56) (F57:Fun K "is_no_less" "is_no_less" mS f57 fd57) (F58:Fun K "pair_strikes" "pair_strikes" kK f58 fd58) (F59:Fun K "sum_strikes" "sum_strikes" lN f59 fd59) (F60:Fun K "around" "around" sr f60 fd60) (F61:Fun K "turn_mores" "turn_mores" mT f61 fd61) (F62:Fun K "pair_mores" "pair_mores" mU f62 fd62) (F63:Fun K "rule_numbers" "rule_numbers" kL f63 fd63) (F64:Fun K "has_two_beside" "Ring.has_two_beside" dS f64 fd64) (fn64:isFn K (.ref f64)=true) (F65:Fun K "first_within" "first_within" kM f65 fd65) (F66:Fun K "told_cells" "told_cells" mV f66 fd66) (F67:Fun K "rule_by" "rule_by" qq f67 fd67) (F68:Fun K "checked_clues" "checked_clues" j5 f68 fd68) (F69:Fun K "is_formed" "is_formed" oe f69 fd69) (F70:Fun K "many_only" "many_only" og f70 fd70) (F71:Fun K "only_strikes" "only_strikes" kN f71 fd71) (F72:Fun K "place_strikes" "place_strikes" j6 f72 fd72) (F73:Fun K "step_strikes" "step_strikes" kO f73 fd73) (F74:Fun K "rest_of_square" "rest_of_square" jc f74 fd74) (F75:Fun K "is_another_with_only" "is_another_with_only" dF f75 fd75) (F76:Fun K "only_mores" "only_mores" mW f76 fd76) (F77:Fun K "square_mores" "square_mores" kP f77 fd77) (F78:Fun K "reach_mores" "reach_mores" lO f78 fd78) (F79:Fun K "is_joined" "Joined.is_joined" gG f79 fd79) (fn79:isFn K (.ref f79)=true) (F80:Fun K "holds" "NoSquare.holds" jd f80 fd80) (fn80:isFn K (.ref f80)=true) (F81:Fun K "cells_of" "cells_of" o8 f81 fd81) (F82:Fun K "checked_floor" "checked_floor" j7 f82 fd82) (F83:Fun K "strikes_by_line" "strikes_by_line" g9 f83 fd83) (F84:Fun K "count_strikes" "count_strikes" j8 f84 fd84) (F85:Fun K "square_strikes" "square_strikes" je f85 fd85) (F86:Fun K "reach_strikes" "reach_strikes" j9 f86 fd86) (F87:Fun K "turn_strikes" "turn_strikes" kQ f87 fd87) (F88:Fun K "mores_to_try" "mores_to_try" kR f88 fd88) (F89:Fun K "holds" "Joined.holds" kS f89 fd89) (fn89:isFn K (.ref f89)=true) (F90:Fun K "holds" "Ring.holds" mX f90 fd90) (fn90:isFn K (.ref f90)=true) (F91:Fun K "read_rule" "read_rule" oh f91 fd91) (F92:Fun K "ways_strikes" "ways_strikes" kT f92 fd92) (F93:Fun K "strikes_by_region" "strikes_by_region" fW f93 fd93) (F94:Fun K "read_rules" "read_rules" mY f94 fd94) (F95:Fun K "strikes_by_number" "strikes_by_number" fX f95 fd95) (F96:Fun K "__init__" "Puzzle.__init__" hJ f96 fd96) (fn96:isFn K (.ref f96)=true) (F97:Fun K "strikes" "strikes" qu f97 fd97) (F98:Fun K "allowed" "allowed" qv f98 fd98) (F99:Fun K "first_at" "first_at" pc f99 fd99) (F100:Fun K "_law_puzzle" "_law_puzzle" lP f100 fd100) (F101:Fun K "found_by_rule" "found_by_rule" ka f101 fd101) (F102:Fun K "first_found" "first_found" lQ f102 fd102) (F103:Fun K "next_thought" "next_thought" kU f103 fd103) (F104:Fun K "think" "think" ve f104 fd104) (F105:Fun K "_law_walked" "_law_walked" lR f105 fd105) (F106:Fun K "law" "law" qM f106 fd106) (LQ:PySem.W.makesIn K GM=true) (LR:keepIn K (.ref GM)=true) (LS:PySem.W.plainGet K GM Str.empty=true) (LT:PySem.W.hasDictIn K GM=true) (LU:PySem.W.plainOver K GM=true) (LV:findIn K (.ref GM) "__setattr__"=some (some (.builtin "object.__setattr__"))) (OW:PySem.W.makesIn K G4=true) (OX:keepIn K (.ref G4)=true) (OY:PySem.W.plainGet K G4 Str.empty=true) (OZ:PySem.W.hasDictIn K G4=true) (O0:PySem.W.plainOver K G4=true) (O1:findIn K (.ref G4) "__setattr__"=some (some (.builtin "object.__setattr__"))) (LW:PySem.W.makesIn K GP=true) (LX:keepIn K (.ref GP)=true) (LY:PySem.W.plainGet K GP Str.empty=true) (LZ:PySem.W.hasDictIn K GP=true) (L0:PySem.W.plainOver K GP=true) (L1:findIn K (.ref GP) "__setattr__"=some (some (.builtin "object.__setattr__"))) (N9:PySem.W.makesIn K GX=true) (Oa:keepIn K (.ref GX)=true) (Ob:PySem.W.plainGet K GX Str.empty=true) (Oc:PySem.W.hasDictIn K GX=true) (Od:PySem.W.plainOver K GX=true) (Oe:findIn K (.ref GX) "__setattr__"=some (some (.builtin "object.__setattr__"))) (MX:PySem.W.makesIn K GR=true) (MY:keepIn K (.ref GR)=true) (MZ:PySem.W.plainGet K GR Str.empty=true) (M0:PySem.W.hasDictIn K GR=true) (M2:PySem.W.plainOver K GR=true) (M3:findIn K (.ref GR) "__setattr__"=some (some (.builtin "object.__setattr__"))) (L3:PySem.W.makesIn K GN=true) (L4:keepIn K (.ref GN)=true) (L5:PySem.W.plainGet K GN Str.empty=true) (L6:PySem.W.hasDictIn K GN=true) (L7:PySem.W.plainOver K GN=true) (L8:findIn K (.ref GN) "__setattr__"=some (some (.builtin "object.__setattr__"))) (KN:PySem.W.makesIn K GJ=true) (KO:keepIn K (.ref GJ)=true) (KP:PySem.W.plainGet K GJ Str.empty=true) (KQ:PySem.W.hasDictIn K GJ=true) (KR:PySem.W.plainOver K GJ=true) (KS:findIn K (.ref GJ) "__setattr__"=some (some (.builtin "object.__setattr__"))) (Of:PySem.W.makesIn K GT=true) (Og:keepIn K (.ref GT)=true) (Oh:PySem.W.plainGet K GT Str.empty=true) (Oi:PySem.W.hasDictIn K GT=true) (Oj:PySem.W.plainOver K GT=true) (Ol:findIn K (.ref GT) "__setattr__"=some (some (.builtin "object.__setattr__"))) (L9:PySem.W.makesIn K GY=true) (Ma:keepIn K (.ref GY)=true) (Mb:PySem.W.plainGet K GY Str.empty=true) (Mc:PySem.W.hasDictIn K GY=true) (Md:PySem.W.plainOver K GY=true) (Me:findIn K (.ref GY) "__setattr__"=some (some (.builtin "object.__setattr__"))) (Id:findIn K (.ref GM) "amount"=some none) (Jl:findIn K (.ref G4) "amount"=some none) (Ie:findIn K (.ref GP) "amount"=some none) (IJ:findIn K (.ref GX) "amount"=some none) (Iq:findIn K (.ref GR) "amount"=some none) (Ig:findIn K (.ref GN) "amount"=some none) (Hx:findIn K (.ref GJ) "amount"=some none) (IK:findIn K (.ref GT) "amount"=some none) (Ir:findIn K (.ref GM) "cells"=some none) (JL:findIn K (.ref G4) "cells"=some none) (Iu:findIn K (.ref GP) "cells"=some none) (Jm:findIn K (.ref GX) "cells"=some none) (IL:findIn K (.ref GR) "cells"=some none) (Hu:findIn K (.ref GN) "cells"=some none) (HD:findIn K (.ref GJ) "cells"=some none) (Ia:findIn K (.ref GT) "cells"=some none) (Iv:findIn K (.ref GM) "floor"=some none) (JM:findIn K (.ref G4) "floor"=some none) (Iw:findIn K (.ref GP) "floor"=some none) (Jn:findIn K (.ref GX) "floor"=some none) (IM:findIn K (.ref GR) "floor"=some none) (Hv:findIn K (.ref GN) "floor"=some none) (HE:findIn K (.ref GJ) "floor"=some none) (Ib:findIn K (.ref GT) "floor"=some none) (IN:findIn K (.ref GM) "mark"=some none) (J0:findIn K (.ref G4) "mark"=some none) (IO:findIn K (.ref GP) "mark"=some none) (JN:findIn K (.ref GX) "mark"=some none) (Jo:findIn K (.ref GR) "mark"=some none) (Hy:findIn K (.ref GN) "mark"=some none) (Ih:findIn K (.ref GJ) "mark"=some none) (Im:findIn K (.ref GT) "mark"=some none) (Ix:findIn K (.ref GM) "words"=some none) (JO:findIn K (.ref G4) "words"=some none) (Iy:findIn K (.ref GP) "words"=some none) (Jp:findIn K (.ref GX) "words"=some none) (IP:findIn K (.ref GR) "words"=some none) (Iz:findIn K (.ref GN) "words"=some none) (HF:findIn K (.ref GJ) "words"=some none) (Jq:findIn K (.ref GT) "words"=some none) (IA:findIn K (.ref GY) "floor"=some none) (IB:findIn K (.ref GY) "given"=some none) (IQ:findIn K (.ref GY) "laws"=some none) (M4:nsIn K mainGlobals "KINDS"=some (some (.ref NK))) (M5:K.lookup NK=some ⟨.type "tuple",PM,.seq #[.str (tx [99,108,117,101]) PQ,.str (tx [111,110,108,121]) PR,.str (tx [112,108,97,99,101]) PU,.str (tx [99,111,117,110,116]) PV,.str (tx [115,116,101,112]) PX,.str (tx [115,117,109]) PY,.str (tx [115,113,117,97,114,101]) PZ,.str (tx [114,101,97,99,104]) P0,.str (tx [116,117,114,110]) P1,.str (tx [112,97,105,114]) P2,.str (tx [119,97,121,115]) PL] PN,PP⟩) (JP:nsIn K mainGlobals "LINE_KINDS"=some (some (.ref JZ))) (JQ:K.lookup JZ=some ⟨.type "tuple",O7,.seq #[.str (tx [99,108,117,101]) Pa,.str (tx [111,110,108,121]) Pb,.str (tx [112,108,97,99,101]) Pc,.str (tx [115,116,101,112]) Pd,.str (tx [112,97,105,114]) Pe] O8,O9⟩) (IR:nsIn K mainGlobals "NUMBER_KINDS"=some (some (.ref Jj))) (IS:K.lookup Jj=some ⟨.type "tuple",Op,.seq #[.str (tx [99,111,117,110,116]) Ot,.str (tx [115,117,109]) Ou,.str (tx [119,97,121,115]) Ov] Oq,Os⟩) (IT:nsIn K mainGlobals "OF_ALL_CELLS"=some (some (.ref Jk))) (IU:K.lookup Jk=some ⟨.type "tuple",Ow,.seq #[.str (tx [106,111,105,110,101,100]) Oz,.str (tx [110,111,115,113,117,97,114,101]) OA,.str (tx [114,105,110,103]) OB] Ox,Oy⟩) (Jr:nsIn K mainGlobals "WITH_NUMBER"=some (some (.ref JK))) (Js:K.lookup JK=some ⟨.type "tuple",OH,.seq #[.str (tx [115,117,109]) OK,.str (tx [115,101,101,110]) OL,.str (tx [99,111,117,110,116]) OM] OI,OJ⟩) (J1:nsIn K mainGlobals "WITH_SIGN"=some (some (.ref KD))) (J3:K.lookup KD=some ⟨.type "tuple",Pk,.seq #[.str (tx [99,111,117,110,116]) Pn,.str (tx [106,111,105,110,101,100]) Po,.str (tx [110,111,115,113,117,97,114,101]) Pp,.str (tx [114,105,110,103]) Pq] Pl,Pm⟩) (IC:nsIn K mainGlobals "RULES_OF_KIND"=some (some (.ref II))) (ID:K.lookup II=some ⟨.type "dict",none,.dict #[⟨J7,.str (tx [111,110,108,121]) Nf,.ref J8⟩,⟨J9,.str (tx [112,108,97,99,101]) Nh,.ref Ka⟩,⟨Kb,.str (tx [99,111,117,110,116]) Nj,.ref Kc⟩,⟨Ke,.str (tx [115,116,101,112]) Nl,.ref Kf⟩,⟨Kg,.str (tx [115,117,109]) Nn,.ref Kh⟩,⟨Ki,.str (tx [115,113,117,97,114,101]) Np,.ref Kj⟩,⟨Kk,.str (tx [114,101,97,99,104]) Nr,.ref Kl⟩,⟨Km,.str (tx [116,117,114,110]) Nv,.ref Kn⟩,⟨Ko,.str (tx [112,97,105,114]) Ny,.ref Kp⟩] NL,#[]⟩) (HG:K.lookup J8=some ⟨.type "tuple",Mw,.seq #[.str (tx [117,110,108,105,107,101]) Mh] Ng,Mx⟩) (HH:J7=hashStr w (tx [111,110,108,121])) (HI:K.lookup Ka=some ⟨.type "tuple",My,.seq #[.str (tx [117,110,108,105,107,101]) Mi] Ni,Mz⟩) (HJ:J9=hashStr w (tx [112,108,97,99,101])) (HK:K.lookup Kc=some ⟨.type "tuple",MA,.seq #[.str (tx [99,111,117,110,116]) Mj] Nk,MC⟩) (HL:Kb=hashStr w (tx [99,111,117,110,116])) (HM:K.lookup Kf=some ⟨.type "tuple",MD,.seq #[.str (tx [114,105,115,105,110,103]) Ml] Nm,ME⟩) (HN:Ke=hashStr w (tx [115,116,101,112])) (HP:K.lookup Kh=some ⟨.type "tuple",MF,.seq #[.str (tx [115,117,109]) Mm] No,MG⟩) (HQ:Kg=hashStr w (tx [115,117,109])) (HR:K.lookup Kj=some ⟨.type "tuple",MH,.seq #[.str (tx [110,111,115,113,117,97,114,101]) Mn] Nq,MI⟩) (HS:Ki=hashStr w (tx [115,113,117,97,114,101])) (HU:K.lookup Kl=some ⟨.type "tuple",MJ,.seq #[.str (tx [106,111,105,110,101,100]) Mo,.str (tx [114,105,110,103]) Mp] Nt,MK⟩) (HV:Kk=hashStr w (tx [114,101,97,99,104])) (HW:K.lookup Kn=some ⟨.type "tuple",ML,.seq #[.str (tx [114,105,110,103]) Mq] Nw,MM⟩) (HX:Km=hashStr w (tx [116,117,114,110])) (HY:K.lookup Kp=some ⟨.type "tuple",MN,.seq #[.str (tx [117,110,108,105,107,101]) Mr] Nz,MO⟩) (HZ:Ko=hashStr w (tx [112,97,105,114])) (Mf:nsIn K mainGlobals "FIGURES"=some (some (.str (tx [48,49,50,51,52,53,54,55,56,57]) tk_FIGURES))) (J4:nsIn K mainGlobals "MOST_CELLS"=some (some (.int 16 tk_MOST_CELLS))) (Jt:nsIn K mainGlobals "MOST_FIGURES"=some (some (.int 9 tk_MOST_FIGURES))) (JR:nsIn K mainGlobals "MOST_NUMBER"=some (some (.int 99 tk_MOST_NUMBER))) (J5:nsIn K mainGlobals "MOST_RULES"=some (some (.int 12 tk_MOST_RULES))) (KU:nsIn K mainGlobals "MOST_SIDE"=some (some (.int 6 tk_MOST_SIDE))) (J6:nsIn K mainGlobals "MOST_SIGNS"=some (some (.int 6 tk_MOST_SIGNS))) (KW:nsIn K mainGlobals "MOST_WAYS"=some (some (.int 32 tk_MOST_WAYS))) (Pw:nsIn K mainGlobals "len"=some none) (Px:nsIn K mainGlobals "abs"=some none) (Py:nsIn K mainGlobals "min"=some none) (Pz:nsIn K mainGlobals "max"=some none) (Om:nsIn K mainGlobals "sorted"=some none) (PB:nsIn K mainGlobals "any"=some none) (KY:nsIn K mainGlobals "isinstance"=some none) (Pt:nsIn K mainGlobals "list"=some none) (PC:nsIn K mainGlobals "int"=some none) (Pu:nsIn K mainGlobals "bool"=some none) (PD:nsIn K mainGlobals "str"=some none) (O4:nsIn K mainGlobals "tuple"=some none) (Mg:nsIn K mainGlobals "reversed"=some none) (PF:nsIn K mainGlobals "set"=some none) (O5:nsIn K mainGlobals "range"=some none) (PH:nsIn K mainGlobals "zip"=some none) (PJ:nsIn K mainGlobals "all"=some none) (PK:nsIn K mainGlobals "sum"=some none) (La:nsIn K mainGlobals "enumerate"=some none):
  ∃ fd:FuncData,(∀(s:Shared) (v:Value),BindsTo s fd ⟨[v],[]⟩ [("_law_script",v)])/\∀ base:Heap,K.In base->base.Ns mainGlobals mg->FnOk l.prog w K mg base CX0 14 fa fd ["_law_script"] (uY K):=by
 have e:=hfa.symm.trans (Qw X G a106);cases e;have B:Bt2 mg:=⟨⟨Ra X G Pw,Ra X G Px,Ra X G Py,Ra X G Pz,Ra X G Om,Ra X G PB,Ra X G KY,Ra X G Pt,Ra X G PC,Ra X G Pu,Ra X G PD,Ra X G O4,Ra X G Mg,Ra X G PF,Ra X G O5,Ra X G PH⟩,Ra X G PJ,Ra X G PK,Ra X G La⟩;obtain⟨oc,od,kV,doc,pm,an,Qk,ct,osl,rfl,lk,hcd⟩:=F106.ex;refine⟨fnOf "law" "law" (bR qM) (bB qM) (ag qM) .none kV doc pm an Qk ct,fun s v=>.of_eq rfl,fun base _ _=>?_⟩;let c:RCl RK:=mkC GM G4 GP GX GR GN GJ GT;let d:RCl PzK:=mkD GY;have Mt:=Qw X G Mf;have Kr:=Qw X G J4;have Ju:=Qw X G Jt;have JV:=Qw X G JR;have Kz:=Qw X G J5;have JS:=Qw X G KU;have Ks:=Qw X G J6;have K7:=Qw X G KW;have Ha:Cls K GM:=⟨LS,LT,LU,LV⟩;have Hn:Cls K G4:=⟨OY,OZ,O0,O1⟩;have Hb:Cls K GP:=⟨LY,LZ,L0,L1⟩;have Hk:Cls K GX:=⟨Ob,Oc,Od,Oe⟩;have Hf:Cls K GR:=⟨MZ,M0,M2,M3⟩;have GV:Cls K GN:=⟨L5,L6,L7,L8⟩;have G1:Cls K GJ:=⟨KP,KQ,KR,KS⟩;have G3:Cls K GT:=⟨Oh,Oi,Oj,Ol⟩;have Io:Cls K GY:=⟨Mb,Mc,Md,Me⟩;have GW:FldK K c "amount":=⟨fun i hi=>by cases i with | Rule=>exact(Qt hi).elim | Unlike=>exact⟨Ha,Id⟩ | Sum=>exact⟨Hn,Jl⟩ | Rising=>exact⟨Hb,Ie⟩ | Seen=>exact⟨Hk,IJ⟩ | Count=>exact⟨Hf,Iq⟩ | Joined=>exact⟨GV,Ig⟩ | NoSquare=>exact⟨G1,Hx⟩ | Ring=>exact⟨G3,IK⟩⟩;have G8:FldK K c "cells":=⟨fun i hi=>by cases i with | Rule=>exact(Qt hi).elim | Unlike=>exact⟨Ha,Ir⟩ | Sum=>exact⟨Hn,JL⟩ | Rising=>exact⟨Hb,Iu⟩ | Seen=>exact⟨Hk,Jm⟩ | Count=>exact⟨Hf,IL⟩ | Joined=>exact⟨GV,Hu⟩ | NoSquare=>exact⟨G1,HD⟩ | Ring=>exact⟨G3,Ia⟩⟩;have Hh:FldK K c "floor":=⟨fun i hi=>by cases i with | Rule=>exact(Qt hi).elim | Unlike=>exact⟨Ha,Iv⟩ | Sum=>exact⟨Hn,JM⟩ | Rising=>exact⟨Hb,Iw⟩ | Seen=>exact⟨Hk,Jn⟩ | Count=>exact⟨Hf,IM⟩ | Joined=>exact⟨GV,Hv⟩ | NoSquare=>exact⟨G1,HE⟩ | Ring=>exact⟨G3,Ib⟩⟩;have Ho:FldK K c "mark":=⟨fun i hi=>by cases i with | Rule=>exact(Qt hi).elim | Unlike=>exact⟨Ha,IN⟩ | Sum=>exact⟨Hn,J0⟩ | Rising=>exact⟨Hb,IO⟩ | Seen=>exact⟨Hk,JN⟩ | Count=>exact⟨Hf,Jo⟩ | Joined=>exact⟨GV,Hy⟩ | NoSquare=>exact⟨G1,Ih⟩ | Ring=>exact⟨G3,Im⟩⟩;have Ii:FldK K c "words":=⟨fun i hi=>by cases i with | Rule=>exact(Qt hi).elim | Unlike=>exact⟨Ha,Ix⟩ | Sum=>exact⟨Hn,JO⟩ | Rising=>exact⟨Hb,Iy⟩ | Seen=>exact⟨Hk,Jp⟩ | Count=>exact⟨Hf,IP⟩ | Joined=>exact⟨GV,Iz⟩ | NoSquare=>exact⟨G1,HF⟩ | Ring=>exact⟨G3,Jq⟩⟩;have Hq:FldK K d "floor":=⟨fun i hi=>by cases i;exact⟨Io,IA⟩⟩;have Ij:FldK K d "given":=⟨fun i hi=>by cases i;exact⟨Io,IB⟩⟩;have IV:FldK K d "laws":=⟨fun i hi=>by cases i;exact⟨Io,IQ⟩⟩;have Ik:GTup K mg "KINDS" gt_KINDS:=⟨NK,_,_,_,Qw X G M4,M5,rfl,rfl,Rf (aD (by show(11:Nat)<=1000;decide)),(.cons ⟨_,rfl⟩ (.cons ⟨_,rfl⟩ (.cons ⟨_,rfl⟩ (.cons ⟨_,rfl⟩ (.cons ⟨_,rfl⟩ (.cons ⟨_,rfl⟩ (.cons ⟨_,rfl⟩ (.cons ⟨_,rfl⟩ (.cons ⟨_,rfl⟩ (.cons ⟨_,rfl⟩ (.cons ⟨_,rfl⟩ .nil)))))))))))⟩;have KB:GTup K mg "LINE_KINDS" iK:=⟨JZ,_,_,_,Qw X G JP,JQ,rfl,rfl,Rf (aD (by show(5:Nat)<=1000;decide)),(.cons ⟨_,rfl⟩ (.cons ⟨_,rfl⟩ (.cons ⟨_,rfl⟩ (.cons ⟨_,rfl⟩ (.cons ⟨_,rfl⟩ .nil)))))⟩;have JE:GTup K mg "NUMBER_KINDS" ga:=⟨Jj,_,_,_,Qw X G IR,IS,rfl,rfl,Rf (aD (by show(3:Nat)<=1000;decide)),(.cons ⟨_,rfl⟩ (.cons ⟨_,rfl⟩ (.cons ⟨_,rfl⟩ .nil)))⟩;have Jw:GTup K mg "OF_ALL_CELLS" fY:=⟨Jk,_,_,_,Qw X G IT,IU,rfl,rfl,Rf (aD (by show(3:Nat)<=1000;decide)),(.cons ⟨_,rfl⟩ (.cons ⟨_,rfl⟩ (.cons ⟨_,rfl⟩ .nil)))⟩;have JW:GTup K mg "WITH_NUMBER" gP:=⟨JK,_,_,_,Qw X G Jr,Js,rfl,rfl,Rf (aD (by show(3:Nat)<=1000;decide)),(.cons ⟨_,rfl⟩ (.cons ⟨_,rfl⟩ (.cons ⟨_,rfl⟩ .nil)))⟩;have K6:GTup K mg "WITH_SIGN" gn:=⟨KD,_,_,_,Qw X G J1,J3,rfl,rfl,Rf (aD (by show(4:Nat)<=1000;decide)),(.cons ⟨_,rfl⟩ (.cons ⟨_,rfl⟩ (.cons ⟨_,rfl⟩ (.cons ⟨_,rfl⟩ .nil))))⟩;have Jb:GDict w K mg "RULES_OF_KIND" gd_RULES_OF_KIND:=⟨II,_,_,_,Qw X G IC,ID,⟨rfl,rfl,rfl⟩,rfl,(.cons HH HG rfl rfl (Rf (aD (by show(1:Nat)<=1000;decide))) (.cons ⟨_,rfl⟩ .nil) (.cons HJ HI rfl rfl (Rf (aD (by show(1:Nat)<=1000;decide))) (.cons ⟨_,rfl⟩ .nil) (.cons HL HK rfl rfl (Rf (aD (by show(1:Nat)<=1000;decide))) (.cons ⟨_,rfl⟩ .nil) (.cons HN HM rfl rfl (Rf (aD (by show(1:Nat)<=1000;decide))) (.cons ⟨_,rfl⟩ .nil) (.cons HQ HP rfl rfl (Rf (aD (by show(1:Nat)<=1000;decide))) (.cons ⟨_,rfl⟩ .nil) (.cons HS HR rfl rfl (Rf (aD (by show(1:Nat)<=1000;decide))) (.cons ⟨_,rfl⟩ .nil) (.cons HV HU rfl rfl (Rf (aD (by show(2:Nat)<=1000;decide))) (.cons ⟨_,rfl⟩ (.cons ⟨_,rfl⟩ .nil)) (.cons HX HW rfl rfl (Rf (aD (by show(1:Nat)<=1000;decide))) (.cons ⟨_,rfl⟩ .nil) (.cons HZ HY rfl rfl (Rf (aD (by show(1:Nat)<=1000;decide))) (.cons ⟨_,rfl⟩ .nil) .nil))))))))),by decide+kernel⟩;have G0:Cal l.prog w K mg base _ _ _ (bp K):=oU (yx B F0) F0 (Qw X G a0);have GO:Cal l.prog w K mg base _ _ _ (aU K):=oU (vU B F1) F1 (Qw X G a1);have IW:Cal l.prog w K mg base _ _ _ (dY K):=bO (zT B F2) F2 (Qw X G a2);have K3:Cal l.prog w K mg base _ _ _ (gm K):=bO (xN B F3) F3 (Qw X G a3);have NC:Cal l.prog w K mg base _ _ _ (lc K):=oU (Br B F4) F4 (Qw X G a4);have Hc:Cal l.prog w K mg base _ _ _ (bT K):=bO (Bs B F5) F5 (Qw X G a5);have G6:Cal l.prog w K mg base _ _ _ (bC K):=oU (zU B F6) F6 (Qw X G a6);have GQ:Cal l.prog w K mg base _ _ _ (aZ K):=bO (yy B F7) F7 (Qw X G a7);have Jx:Cal l.prog w K mg base _ _ _ (di K):=xM (t9 B F8) F8 (Qw X G a8);have HA:Cal l.prog w K mg base _ _ _ (b3 K):=bO (oY B F9) F9 (Qw X G a9);have Hz:Cal l.prog w K mg base _ _ _ (cY K):=cI (xO B F10) F10 (Qw X G a10);have JT:Cal l.prog w K mg base _ _ _ (dQ K):=bO (u6 B F11) F11 (Qw X G a11);have K4:Cal l.prog w K mg base _ _ _ (gy K):=bO (xP B F12) F12 (Qw X G a12);have M6:Binds K fd13 ["self","floor","words","cells","amount","mark"] []:=Co F13;have T13:FnOk l.prog w K mg base CX0 1 f13 fd13 _ (ax K c):=r8 (c:=c) B GW G8 Hh Ho Ii F13;have NF:KCal l.prog w K mg base _ "Unlike" (c.A .Unlike) _ (ax K c):=⟨f13,_,⟨LQ,Lm,fn13,LR⟩,T13,Qw X G NM,M6⟩;have K_Sum:KCal l.prog w K mg base _ "Sum" (c.A .Sum) _ (ax K c):=⟨f13,_,⟨OW,OO,fn13,OX⟩,T13,Qw X G q_Sum,M6⟩;have NE:KCal l.prog w K mg base _ "Rising" (c.A .Rising) _ (ax K c):=⟨f13,_,⟨LW,Ln,fn13,LX⟩,T13,Qw X G NN,M6⟩;have Pi:KCal l.prog w K mg base _ "Seen" (c.A .Seen) _ (ax K c):=⟨f13,_,⟨N9,NQ,fn13,Oa⟩,T13,Qw X G Pr,M6⟩;have OE:KCal l.prog w K mg base _ "Count" (c.A .Count) _ (ax K c):=⟨f13,_,⟨MX,MP,fn13,MY⟩,T13,Qw X G ON,M6⟩;have ND:KCal l.prog w K mg base _ "Joined" (c.A .Joined) _ (ax K c):=⟨f13,_,⟨L3,Lo,fn13,L4⟩,T13,Qw X G NO,M6⟩;have Ld:KCal l.prog w K mg base _ "NoSquare" (c.A .NoSquare) _ (ax K c):=⟨f13,_,⟨KN,KF,fn13,KO⟩,T13,Qw X G Ll,M6⟩;have Ph:KCal l.prog w K mg base _ "Ring" (c.A .Ring) _ (ax K c):=⟨f13,_,⟨Of,NR,fn13,Og⟩,T13,Qw X G Ps,M6⟩;have M7:Binds K fd14 ["self"] []:=np F14;have T14:FnOk l.prog w K mg base CX0 1 f14 fd14 _ (mr K c):=xQ (c:=c) B Ii F14;have Pg:MCal l.prog w K mg base c c.ok 1 "name" ["self"] (qI K c):=⟨fun i hi=>by cases i with | Rule=>exact(Qt hi).elim | Unlike=>exact⟨f14,_,Ha,⟨Lp,fn14,F14.kp⟩,(T14.mono (by decide)).imp (fun _ _ _ _ h=>⟨_,h⟩),M7⟩ | Sum=>exact⟨f14,_,Hn,⟨OP,fn14,F14.kp⟩,(T14.mono (by decide)).imp (fun _ _ _ _ h=>⟨_,h⟩),M7⟩ | Rising=>exact⟨f14,_,Hb,⟨Lq,fn14,F14.kp⟩,(T14.mono (by decide)).imp (fun _ _ _ _ h=>⟨_,h⟩),M7⟩ | Seen=>exact⟨f14,_,Hk,⟨NS,fn14,F14.kp⟩,(T14.mono (by decide)).imp (fun _ _ _ _ h=>⟨_,h⟩),M7⟩ | Count=>exact⟨f14,_,Hf,⟨MQ,fn14,F14.kp⟩,(T14.mono (by decide)).imp (fun _ _ _ _ h=>⟨_,h⟩),M7⟩ | Joined=>exact⟨f14,_,GV,⟨Lr,fn14,F14.kp⟩,(T14.mono (by decide)).imp (fun _ _ _ _ h=>⟨_,h⟩),M7⟩ | NoSquare=>exact⟨f14,_,G1,⟨KG,fn14,F14.kp⟩,(T14.mono (by decide)).imp (fun _ _ _ _ h=>⟨_,h⟩),M7⟩ | Ring=>exact⟨f14,_,G3,⟨NT,fn14,F14.kp⟩,(T14.mono (by decide)).imp (fun _ _ _ _ h=>⟨_,h⟩),M7⟩⟩;have M8:Binds K fd15 ["self"] []:=np F15;have T15:FnOk l.prog w K mg base CX0 1 f15 fd15 _ (lu K c):=vV (c:=c) B G8 F15;have G2:MCal l.prog w K mg base c c.ok 1 "spots" ["self"] (bF K c):=⟨fun i hi=>by cases i with | Rule=>exact(Qt hi).elim | Unlike=>exact⟨f15,_,Ha,⟨Ls,fn15,F15.kp⟩,(T15.mono (by decide)).imp (fun _ _ _ _ h=>⟨_,h⟩),M8⟩ | Sum=>exact⟨f15,_,Hn,⟨OQ,fn15,F15.kp⟩,(T15.mono (by decide)).imp (fun _ _ _ _ h=>⟨_,h⟩),M8⟩ | Rising=>exact⟨f15,_,Hb,⟨Lu,fn15,F15.kp⟩,(T15.mono (by decide)).imp (fun _ _ _ _ h=>⟨_,h⟩),M8⟩ | Seen=>exact⟨f15,_,Hk,⟨NU,fn15,F15.kp⟩,(T15.mono (by decide)).imp (fun _ _ _ _ h=>⟨_,h⟩),M8⟩ | Count=>exact⟨f15,_,Hf,⟨MR,fn15,F15.kp⟩,(T15.mono (by decide)).imp (fun _ _ _ _ h=>⟨_,h⟩),M8⟩ | Joined=>exact⟨f15,_,GV,⟨Lv,fn15,F15.kp⟩,(T15.mono (by decide)).imp (fun _ _ _ _ h=>⟨_,h⟩),M8⟩ | NoSquare=>exact⟨f15,_,G1,⟨KH,fn15,F15.kp⟩,(T15.mono (by decide)).imp (fun _ _ _ _ h=>⟨_,h⟩),M8⟩ | Ring=>exact⟨f15,_,G3,⟨NV,fn15,F15.kp⟩,(T15.mono (by decide)).imp (fun _ _ _ _ h=>⟨_,h⟩),M8⟩⟩;have M9:Binds K fd16 ["self"] []:=np F16;have T16:FnOk l.prog w K mg base CX0 1 f16 fd16 _ (kh K c):=u7 (c:=c) B GW F16;have Ic:MCal l.prog w K mg base c c.ok 1 "number" ["self"] (dU K c):=⟨fun i hi=>by cases i with | Rule=>exact(Qt hi).elim | Unlike=>exact⟨f16,_,Ha,⟨Lw,fn16,F16.kp⟩,(T16.mono (by decide)).imp (fun _ _ _ _ h=>⟨_,h⟩),M9⟩ | Sum=>exact⟨f16,_,Hn,⟨OR,fn16,F16.kp⟩,(T16.mono (by decide)).imp (fun _ _ _ _ h=>⟨_,h⟩),M9⟩ | Rising=>exact⟨f16,_,Hb,⟨Lx,fn16,F16.kp⟩,(T16.mono (by decide)).imp (fun _ _ _ _ h=>⟨_,h⟩),M9⟩ | Seen=>exact⟨f16,_,Hk,⟨NW,fn16,F16.kp⟩,(T16.mono (by decide)).imp (fun _ _ _ _ h=>⟨_,h⟩),M9⟩ | Count=>exact⟨f16,_,Hf,⟨MS,fn16,F16.kp⟩,(T16.mono (by decide)).imp (fun _ _ _ _ h=>⟨_,h⟩),M9⟩ | Joined=>exact⟨f16,_,GV,⟨Ly,fn16,F16.kp⟩,(T16.mono (by decide)).imp (fun _ _ _ _ h=>⟨_,h⟩),M9⟩ | NoSquare=>exact⟨f16,_,G1,⟨KI,fn16,F16.kp⟩,(T16.mono (by decide)).imp (fun _ _ _ _ h=>⟨_,h⟩),M9⟩ | Ring=>exact⟨f16,_,G3,⟨NX,fn16,F16.kp⟩,(T16.mono (by decide)).imp (fun _ _ _ _ h=>⟨_,h⟩),M9⟩⟩;have Na:Binds K fd17 ["self"] []:=np F17;have T17:FnOk l.prog w K mg base CX0 1 f17 fd17 _ (mw K c):=xR (c:=c) B Ho F17;have Hl:MCal l.prog w K mg base c c.ok 1 "sign" ["self"] (cO K c):=⟨fun i hi=>by cases i with | Rule=>exact(Qt hi).elim | Unlike=>exact⟨f17,_,Ha,⟨Lz,fn17,F17.kp⟩,(T17.mono (by decide)).imp (fun _ _ _ _ h=>⟨_,h⟩),Na⟩ | Sum=>exact⟨f17,_,Hn,⟨OS,fn17,F17.kp⟩,(T17.mono (by decide)).imp (fun _ _ _ _ h=>⟨_,h⟩),Na⟩ | Rising=>exact⟨f17,_,Hb,⟨LA,fn17,F17.kp⟩,(T17.mono (by decide)).imp (fun _ _ _ _ h=>⟨_,h⟩),Na⟩ | Seen=>exact⟨f17,_,Hk,⟨NY,fn17,F17.kp⟩,(T17.mono (by decide)).imp (fun _ _ _ _ h=>⟨_,h⟩),Na⟩ | Count=>exact⟨f17,_,Hf,⟨MT,fn17,F17.kp⟩,(T17.mono (by decide)).imp (fun _ _ _ _ h=>⟨_,h⟩),Na⟩ | Joined=>exact⟨f17,_,GV,⟨LB,fn17,F17.kp⟩,(T17.mono (by decide)).imp (fun _ _ _ _ h=>⟨_,h⟩),Na⟩ | NoSquare=>exact⟨f17,_,G1,⟨KJ,fn17,F17.kp⟩,(T17.mono (by decide)).imp (fun _ _ _ _ h=>⟨_,h⟩),Na⟩ | Ring=>exact⟨f17,_,G3,⟨NZ,fn17,F17.kp⟩,(T17.mono (by decide)).imp (fun _ _ _ _ h=>⟨_,h⟩),Na⟩⟩;have Nb:Binds K fd18 ["self","filling"] []:=iL F18;have T18:FnOk l.prog w K mg base CX0 1 f18 fd18 _ (iR K c):=se (c:=c) B G8 F18;have G9:MCal l.prog w K mg base c c.ok 1 "signs_at" ["self","filling"] (bU K c):=⟨fun i hi=>by cases i with | Rule=>exact(Qt hi).elim | Unlike=>exact⟨f18,_,Ha,⟨LC,fn18,F18.kp⟩,(T18.mono (by decide)).imp (fun _ _ _ _ h=>⟨_,h⟩),Nb⟩ | Sum=>exact⟨f18,_,Hn,⟨OT,fn18,F18.kp⟩,(T18.mono (by decide)).imp (fun _ _ _ _ h=>⟨_,h⟩),Nb⟩ | Rising=>exact⟨f18,_,Hb,⟨LD,fn18,F18.kp⟩,(T18.mono (by decide)).imp (fun _ _ _ _ h=>⟨_,h⟩),Nb⟩ | Seen=>exact⟨f18,_,Hk,⟨N0,fn18,F18.kp⟩,(T18.mono (by decide)).imp (fun _ _ _ _ h=>⟨_,h⟩),Nb⟩ | Count=>exact⟨f18,_,Hf,⟨MU,fn18,F18.kp⟩,(T18.mono (by decide)).imp (fun _ _ _ _ h=>⟨_,h⟩),Nb⟩ | Joined=>exact⟨f18,_,GV,⟨LE,fn18,F18.kp⟩,(T18.mono (by decide)).imp (fun _ _ _ _ h=>⟨_,h⟩),Nb⟩ | NoSquare=>exact⟨f18,_,G1,⟨KK,fn18,F18.kp⟩,(T18.mono (by decide)).imp (fun _ _ _ _ h=>⟨_,h⟩),Nb⟩ | Ring=>exact⟨f18,_,G3,⟨N1,fn18,F18.kp⟩,(T18.mono (by decide)).imp (fun _ _ _ _ h=>⟨_,h⟩),Nb⟩⟩;have Lb:Binds K fd19 ["self","filling"] []:=iL F19;have NA:FldK K (mk1 c .Joined) "cells":=⟨fun i hi=>by cases i with | Rule=>exact(Qt hi).elim | Unlike=>exact(Qt hi).elim | Sum=>exact(Qt hi).elim | Rising=>exact(Qt hi).elim | Seen=>exact(Qt hi).elim | Count=>exact(Qt hi).elim | Joined=>exact⟨GV,Hu⟩ | NoSquare=>exact(Qt hi).elim | Ring=>exact(Qt hi).elim⟩;have On:FldK K (mk1 c .Joined) "mark":=⟨fun i hi=>by cases i with | Rule=>exact(Qt hi).elim | Unlike=>exact(Qt hi).elim | Sum=>exact(Qt hi).elim | Rising=>exact(Qt hi).elim | Seen=>exact(Qt hi).elim | Count=>exact(Qt hi).elim | Joined=>exact⟨GV,Hy⟩ | NoSquare=>exact(Qt hi).elim | Ring=>exact(Qt hi).elim⟩;have T19_Joined:FnOk l.prog w K mg base CX0 1 f19 _ ["self","filling"] (dP K (mk1 c .Joined)):=kB (c:=(mk1 c .Joined)) B NA On F19;have OC:MCal l.prog w K mg base (mk1 c .Joined) (mk1 c .Joined).ok 1 "marked" ["self","filling"] (b9 K (mk1 c .Joined)):=⟨fun i hi=>by cases i with | Rule=>exact(Qt hi).elim | Unlike=>exact(Qt hi).elim | Sum=>exact(Qt hi).elim | Rising=>exact(Qt hi).elim | Seen=>exact(Qt hi).elim | Count=>exact(Qt hi).elim | Joined=>exact⟨f19,_,GV,⟨Kq,fn19,F19.kp⟩,(T19_Joined.mono (by decide)).imp (fun _ _ _ _ h=>⟨_,h⟩),Lb⟩ | NoSquare=>exact(Qt hi).elim | Ring=>exact(Qt hi).elim⟩;have OD:FldK K (mk1 c .Ring) "cells":=⟨fun i hi=>by cases i with | Rule=>exact(Qt hi).elim | Unlike=>exact(Qt hi).elim | Sum=>exact(Qt hi).elim | Rising=>exact(Qt hi).elim | Seen=>exact(Qt hi).elim | Count=>exact(Qt hi).elim | Joined=>exact(Qt hi).elim | NoSquare=>exact(Qt hi).elim | Ring=>exact⟨G3,Ia⟩⟩;have O6:FldK K (mk1 c .Ring) "mark":=⟨fun i hi=>by cases i with | Rule=>exact(Qt hi).elim | Unlike=>exact(Qt hi).elim | Sum=>exact(Qt hi).elim | Rising=>exact(Qt hi).elim | Seen=>exact(Qt hi).elim | Count=>exact(Qt hi).elim | Joined=>exact(Qt hi).elim | NoSquare=>exact(Qt hi).elim | Ring=>exact⟨G3,Im⟩⟩;have T19_Ring:FnOk l.prog w K mg base CX0 1 f19 _ ["self","filling"] (dP K (mk1 c .Ring)):=kB (c:=(mk1 c .Ring)) B OD O6 F19;have Pf:MCal l.prog w K mg base (mk1 c .Ring) (mk1 c .Ring).ok 1 "marked" ["self","filling"] (b9 K (mk1 c .Ring)):=⟨fun i hi=>by cases i with | Rule=>exact(Qt hi).elim | Unlike=>exact(Qt hi).elim | Sum=>exact(Qt hi).elim | Rising=>exact(Qt hi).elim | Seen=>exact(Qt hi).elim | Count=>exact(Qt hi).elim | Joined=>exact(Qt hi).elim | NoSquare=>exact(Qt hi).elim | Ring=>exact⟨f19,_,G3,⟨LH,fn19,F19.kp⟩,(T19_Ring.mono (by decide)).imp (fun _ _ _ _ h=>⟨_,h⟩),Lb⟩⟩;have T19:FnOk l.prog w K mg base CX0 1 f19 fd19 _ (dP K c):=kB (c:=c) B G8 Ho F19;have Hs:MCal l.prog w K mg base c c.ok 1 "marked" ["self","filling"] (b9 K c):=⟨fun i hi=>by cases i with | Rule=>exact(Qt hi).elim | Unlike=>exact⟨f19,_,Ha,⟨LF,fn19,F19.kp⟩,(T19.mono (by decide)).imp (fun _ _ _ _ h=>⟨_,h⟩),Lb⟩ | Sum=>exact⟨f19,_,Hn,⟨OU,fn19,F19.kp⟩,(T19.mono (by decide)).imp (fun _ _ _ _ h=>⟨_,h⟩),Lb⟩ | Rising=>exact⟨f19,_,Hb,⟨LG,fn19,F19.kp⟩,(T19.mono (by decide)).imp (fun _ _ _ _ h=>⟨_,h⟩),Lb⟩ | Seen=>exact⟨f19,_,Hk,⟨N4,fn19,F19.kp⟩,(T19.mono (by decide)).imp (fun _ _ _ _ h=>⟨_,h⟩),Lb⟩ | Count=>exact⟨f19,_,Hf,⟨MV,fn19,F19.kp⟩,(T19.mono (by decide)).imp (fun _ _ _ _ h=>⟨_,h⟩),Lb⟩ | Joined=>exact⟨f19,_,GV,⟨Kq,fn19,F19.kp⟩,(T19.mono (by decide)).imp (fun _ _ _ _ h=>⟨_,h⟩),Lb⟩ | NoSquare=>exact⟨f19,_,G1,⟨KL,fn19,F19.kp⟩,(T19.mono (by decide)).imp (fun _ _ _ _ h=>⟨_,h⟩),Lb⟩ | Ring=>exact⟨f19,_,G3,⟨LH,fn19,F19.kp⟩,(T19.mono (by decide)).imp (fun _ _ _ _ h=>⟨_,h⟩),Lb⟩⟩;have K0:Cal l.prog w K mg base _ _ _ (gp K):=oU (xS B Mt Ju F20) F20 (Qw X G a20);have P4:Binds K fd21 ["self"] []:=np F21;have T21:FnOk l.prog w K mg base CX0 1 f21 fd21 _ (jz K c d):=ua (c:=c) (d:=d) B Hq F21;have Hg:MCal l.prog w K mg base d d.ok 1 "place" ["self"] (cA K c d):=⟨fun i hi=>by cases i;exact⟨f21,_,Io,⟨LI,fn21,F21.kp⟩,(T21.mono (by decide)).imp (fun vs H Q E h=>h),P4⟩⟩;have P5:Binds K fd22 ["self"] []:=np F22;have T22:FnOk l.prog w K mg base CX0 1 f22 fd22 _ (jB K c d):=ub (c:=c) (d:=d) B Ij F22;have OF:MCal l.prog w K mg base d d.ok 1 "clues" ["self"] (oF K c d):=⟨fun i hi=>by cases i;exact⟨f22,_,Io,⟨LJ,fn22,F22.kp⟩,(T22.mono (by decide)).imp (fun vs H Q E h=>h),P5⟩⟩;have P6:Binds K fd23 ["self"] []:=np F23;have T23:FnOk l.prog w K mg base CX0 1 f23 fd23 _ (jD K c d):=uc (c:=c) (d:=d) B IV F23;have GZ:MCal l.prog w K mg base d d.ok 1 "rules" ["self"] (bq K c d):=⟨fun i hi=>by cases i;exact⟨f23,_,Io,⟨LK,fn23,F23.kp⟩,(T23.mono (by decide)).imp (fun vs H Q E h=>h),P6⟩⟩;have GU:Cal l.prog w K mg base _ _ _ (bm K):=bO (ud B F24) F24 (Qw X G a24);have Hw:Cal l.prog w K mg base _ _ _ (b5 K):=bO (vW B F25) F25 (Qw X G a25);have G5:Cal l.prog w K mg base _ _ _ (bg K):=bO (qV B G0 F26) F26 (Qw X G a26);have G7:Cal l.prog w K mg base _ _ _ (bH K):=bO (Bu B IW F27) F27 (Qw X G a27);have K1:Cal l.prog w K mg base _ _ _ (gl K):=bO (xT B IW F28) F28 (Qw X G a28);have IX:Cal l.prog w K mg base _ _ _ (d8 K):=bO (zV B NC Hc F29) F29 (Qw X G a29);have GK:Cal l.prog w K mg base _ _ _ (aP K):=oU (yz B Hc F30) F30 (Qw X G a30);have IZ:Cal l.prog w K mg base _ _ _ (d9 K):=bO (zW B G0 GO F31) F31 (Qw X G a31);have IY:Cal l.prog w K mg base _ _ _ (eF K c):=bO (zX (c:=c) B Pg Jb F32) F32 (Qw X G a32);have GL:Cal l.prog w K mg base _ _ _ (aQ K c):=bO (Bv (c:=c) B G2 F33) F33 (Qw X G a33);have Hi:Cal l.prog w K mg base _ _ _ (bV K):=bO (yA B Hc F34) F34 (Qw X G a34);have Le:Cal l.prog w K mg base _ _ _ (ig K c):=bO (yB (c:=c) B G2 F35) F35 (Qw X G a35);have NG:Cal l.prog w K mg base _ _ _ (ld K c):=bO (Bw (c:=c) B G2 F36) F36 (Qw X G a36);have IG:Cal l.prog w K mg base _ _ _ (cF K):=cI (qW B Hz F37) F37 (Qw X G a37);have JG:Cal l.prog w K mg base _ _ _ (dv K c d):=cI (ue (c:=c) (d:=d) B GO Hg GZ G2 F38) F38 (Qw X G a38);have P7:Binds K fd39 ["self","filling"] []:=iL F39;have T39:FnOk l.prog w K mg base CX0 2 f39 fd39 _ (jx K c):=uf (c:=c) B G9 F39;have P8:Binds K fd40 ["self","filling"] []:=iL F40;have T40:FnOk l.prog w K mg base CX0 2 f40 fd40 _ (mE K c):=xU (c:=c) B GW G9 F40;have P9:Binds K fd41 ["self","filling"] []:=iL F41;have T41:FnOk l.prog w K mg base CX0 2 f41 fd41 _ (jM K c):=ug (c:=c) B G9 F41;have Qa:Binds K fd42 ["self","filling"] []:=iL F42;have T42:FnOk l.prog w K mg base CX0 2 f42 fd42 _ (lB K c):=vX (c:=c) B GW G9 F42;have Qb:Binds K fd43 ["self","filling"] []:=iL F43;have T43:FnOk l.prog w K mg base CX0 2 f43 fd43 _ (ko K c):=u8 (c:=c) B GW Hs F43;have Hj:Cal l.prog w K mg base _ _ _ (bP K):=cI (sj B K0 F44) F44 (Qw X G a44);have Kt:Cal l.prog w K mg base _ _ _ (fA K):=cI (vY B G0 GO F45) F45 (Qw X G a45);have Li:Cal l.prog w K mg base _ _ _ (fG K):=cI (yC B Hw F46) F46 (Qw X G a46);have KC:Cal l.prog w K mg base _ _ _ (dz K):=cI (vZ B GU F47) F47 (Qw X G a47);have Lg:Cal l.prog w K mg base _ _ _ (ic K):=cI (yD B G5 Kr JS Ks F48) F48 (Qw X G a48);have Hr:Cal l.prog w K mg base _ _ _ (cH K):=oU (zY B K1 GO K3 F49) F49 (Qw X G a49);have He:Cal l.prog w K mg base _ _ _ (b4 K):=cI (zZ B G7 F50) F50 (Qw X G a50);have GS:Cal l.prog w K mg base _ _ _ (bd K):=bO (yE B IX F51) F51 (Qw X G a51);have JH:Cal l.prog w K mg base _ _ _ (gD K):=cI (Bx B IX F52) F52 (Qw X G a52);have Pj:Cal l.prog w K mg base _ _ _ (oq K):=oU (Dn B GK F53) F53 (Qw X G a53);have I0:Cal l.prog w K mg base _ _ _ (eh K):=bO (z4 B G5 F54) F54 (Qw X G a54);have Jv:Cal l.prog w K mg base _ _ _ (dh K c d):=xM (uh (c:=c) (d:=d) B IY G0 GZ G2 F55) F55 (Qw X G a55);have Jc:Cal l.prog w K mg base _ _ _ (cX K):=bO (so B GK F56) F56 (Qw X G a56);have Ku:Cal l.prog w K mg base _ _ _ (fC K):=bO (wa B GK F57) F57 (Qw X G a57);have Jz:Cal l.prog w K mg base _ _ _ (dk K c):=oV (ui (c:=c) B HA GL GK F58) F58 (Qw X G a58);have JX:Cal l.prog w K mg base _ _ _ (dO K c):=oV (u9 (c:=c) B G6 GQ GL GK Ic F59) F59 (Qw X G a59);have NH:Cal l.prog w K mg base _ _ _ (lf K):=cI (By B G7 F60) F60 (Qw X G a60);have Ky:Cal l.prog w K mg base _ _ _ (fE K):=bO (wc B G7 F61) F61 (Qw X G a61);have Kx:Cal l.prog w K mg base _ _ _ (fF K c):=cI (wd (c:=c) B GL GK G2 F62) F62 (Qw X G a62);have JI:Cal l.prog w K mg base _ _ _ (du K c d):=bO (uj (c:=c) (d:=d) B IY GZ F63) F63 (Qw X G a63);have Qc:Binds K fd64 ["self","cells","cell"] []:=Cm F64;have KZ:FldK K (mk1 c .Ring) "floor":=⟨fun i hi=>by cases i with | Rule=>exact(Qt hi).elim | Unlike=>exact(Qt hi).elim | Sum=>exact(Qt hi).elim | Rising=>exact(Qt hi).elim | Seen=>exact(Qt hi).elim | Count=>exact(Qt hi).elim | Joined=>exact(Qt hi).elim | NoSquare=>exact(Qt hi).elim | Ring=>exact⟨G3,Ib⟩⟩;have T64_Ring:FnOk l.prog w K mg base CX0 3 f64 _ ["self","cells","cell"] (dA K (mk1 c .Ring)):=oa (c:=(mk1 c .Ring)) B G7 KZ F64;have Lc:MCal l.prog w K mg base (mk1 c .Ring) (mk1 c .Ring).ok 3 "has_two_beside" ["self","cells","cell"] (dH K (mk1 c .Ring)):=⟨fun i hi=>by cases i with | Rule=>exact(Qt hi).elim | Unlike=>exact(Qt hi).elim | Sum=>exact(Qt hi).elim | Rising=>exact(Qt hi).elim | Seen=>exact(Qt hi).elim | Count=>exact(Qt hi).elim | Joined=>exact(Qt hi).elim | NoSquare=>exact(Qt hi).elim | Ring=>exact⟨f64,_,G3,⟨N6,fn64,F64.kp⟩,(T64_Ring.mono (by decide)).imp (fun vs H Q E h=>h),Qc⟩⟩;have Il:Cal l.prog w K mg base _ _ _ (bZ K):=cI (uk B Hj F65) F65 (Qw X G a65);have Kv:Cal l.prog w K mg base _ _ _ (fw K):=bO (wf B GO Hj F66) F66 (Qw X G a66);have Mu:Cal l.prog w K mg base _ _ _ (jv K c):=oV (z5 (c:=c) B OE ND Ld Ph NE Pi K_Sum NF F67) F67 (Qw X G a67);have Jg:Cal l.prog w K mg base _ _ _ (cU K):=bO (su B Kt F68) F68 (Qw X G a68);have K9:Cal l.prog w K mg base _ _ _ (gt K c d):=bO (xW (c:=c) (d:=d) B Jv IZ I0 G0 Hg Ik F69) F69 (Qw X G a69);have Hd:Cal l.prog w K mg base _ _ _ (bL K):=bO (xX B GS F70) F70 (Qw X G a70);have Jy:Cal l.prog w K mg base _ _ _ (dj K c):=oV (ul (c:=c) B GS GL F71) F71 (Qw X G a71);have Jd:Cal l.prog w K mg base _ _ _ (cV K c):=uZ (sw (c:=c) B I0 Hi GQ GL G2 F72) F72 (Qw X G a72);have JA:Cal l.prog w K mg base _ _ _ (dm K c):=oV (um (c:=c) B Le NG Jc Ku F73) F73 (Qw X G a73);have IF:Cal l.prog w K mg base _ _ _ (cD K):=cI (qX B Hr F74) F74 (Qw X G a74);have Ht:Cal l.prog w K mg base _ _ _ (bE K):=oV (m3 B GS IZ F75) F75 (Qw X G a75);have Kw:Cal l.prog w K mg base _ _ _ (fD K c):=xM (wg (c:=c) B GS GL F76) F76 (Qw X G a76);have JB:Cal l.prog w K mg base _ _ _ (dr K):=bO (uo B Hr F77) F77 (Qw X G a77);have JU:Cal l.prog w K mg base _ _ _ (dR K c):=oV (va (c:=c) B GS GL He Hc Hl F78) F78 (Qw X G a78);have P3:Binds K fd79 ["self","cells"] []:=iL F79;have NB:FldK K (mk1 c .Joined) "floor":=⟨fun i hi=>by cases i with | Rule=>exact(Qt hi).elim | Unlike=>exact(Qt hi).elim | Sum=>exact(Qt hi).elim | Rising=>exact(Qt hi).elim | Seen=>exact(Qt hi).elim | Count=>exact(Qt hi).elim | Joined=>exact⟨GV,Hv⟩ | NoSquare=>exact(Qt hi).elim | Ring=>exact(Qt hi).elim⟩;have T79_Joined:FnOk l.prog w K mg base CX0 4 f79 _ ["self","cells"] (c7 K (mk1 c .Joined)):=kc (c:=(mk1 c .Joined)) B He NB F79;have Nc:MCal l.prog w K mg base (mk1 c .Joined) (mk1 c .Joined).ok 4 "is_joined" ["self","cells"] (cS K (mk1 c .Joined)):=⟨fun i hi=>by cases i with | Rule=>exact(Qt hi).elim | Unlike=>exact(Qt hi).elim | Sum=>exact(Qt hi).elim | Rising=>exact(Qt hi).elim | Seen=>exact(Qt hi).elim | Count=>exact(Qt hi).elim | Joined=>exact⟨f79,_,GV,⟨LN,fn79,F79.kp⟩,(T79_Joined.mono (by decide)).imp (fun _ _ _ _ h=>⟨_,h⟩),P3⟩ | NoSquare=>exact(Qt hi).elim | Ring=>exact(Qt hi).elim⟩;have T79_Ring:FnOk l.prog w K mg base CX0 4 f79 _ ["self","cells"] (c7 K (mk1 c .Ring)):=kc (c:=(mk1 c .Ring)) B He KZ F79;have Oo:MCal l.prog w K mg base (mk1 c .Ring) (mk1 c .Ring).ok 4 "is_joined" ["self","cells"] (cS K (mk1 c .Ring)):=⟨fun i hi=>by cases i with | Rule=>exact(Qt hi).elim | Unlike=>exact(Qt hi).elim | Sum=>exact(Qt hi).elim | Rising=>exact(Qt hi).elim | Seen=>exact(Qt hi).elim | Count=>exact(Qt hi).elim | Joined=>exact(Qt hi).elim | NoSquare=>exact(Qt hi).elim | Ring=>exact⟨f79,_,G3,⟨N7,fn79,F79.kp⟩,(T79_Ring.mono (by decide)).imp (fun _ _ _ _ h=>⟨_,h⟩),P3⟩⟩;have Qd:Binds K fd80 ["self","filling"] []:=iL F80;have T80:FnOk l.prog w K mg base CX0 4 f80 fd80 _ (gX K c):=qY (c:=c) B K4 Hr Hh Hs F80;have Lh:Cal l.prog w K mg base _ _ _ (ia K):=cI (yF B GO Kv Jw F81) F81 (Qw X G a81);have Jh:Cal l.prog w K mg base _ _ _ (cT K):=oU (sx B Lg F82) F82 (Qw X G a82);have Ip:Cal l.prog w K mg base _ _ _ (cb K c d):=cI (qr (c:=c) (d:=d) B Jx Jy Jz Jd JA OF Hg GZ F83) F83 (Qw X G a83);have Jf:Cal l.prog w K mg base _ _ _ (cW K c):=oV (sy (c:=c) B Hi Hd GQ GL Ic Hl F84) F84 (Qw X G a84);have IH:Cal l.prog w K mg base _ _ _ (cE K c):=uZ (qZ (c:=c) B Hd GQ IF Hl F85) F85 (Qw X G a85);have Je:Cal l.prog w K mg base _ _ _ (cZ K c):=uZ (sA (c:=c) B Ht GL He Hc Hl F86) F86 (Qw X G a86);have JC:Cal l.prog w K mg base _ _ _ (dq K c):=uZ (uq (c:=c) B NH G7 GS Hi Hd GQ Hl F87) F87 (Qw X G a87);have JF:Cal l.prog w K mg base _ _ _ (dt K c d):=uZ (ur (c:=c) (d:=d) B Kw Kx JT JU JB Ky Hg GZ F88) F88 (Qw X G a88);have Qe:Binds K fd89 ["self","filling"] []:=iL F89;have T89_Joined:FnOk l.prog w K mg base CX0 5 f89 _ ["self","filling"] (jO K (mk1 c .Joined)):=ut (c:=(mk1 c .Joined)) B Nc OC F89;have Qf:Binds K fd90 ["self","filling"] []:=iL F90;have T90_Ring:FnOk l.prog w K mg base CX0 5 f90 _ ["self","filling"] (lD K (mk1 c .Ring)):=wj (c:=(mk1 c .Ring)) B Lc Oo Pf F90;have OG:MCal l.prog w K mg base c c.ok 5 "holds" ["self","filling"] (cR K c):=⟨fun i hi=>by cases i with | Rule=>exact(Qt hi).elim | Unlike=>exact⟨f39,_,Ha,⟨LL,fn39,F39.kp⟩,(T39.mono (by decide)).imp (fun vs H Q E h=>h),P7⟩ | Sum=>exact⟨f40,_,Hn,⟨OV,fn40,F40.kp⟩,(T40.mono (by decide)).imp (fun vs H Q E h=>h),P8⟩ | Rising=>exact⟨f41,_,Hb,⟨LM,fn41,F41.kp⟩,(T41.mono (by decide)).imp (fun vs H Q E h=>h),P9⟩ | Seen=>exact⟨f42,_,Hk,⟨N5,fn42,F42.kp⟩,(T42.mono (by decide)).imp (fun vs H Q E h=>h),Qa⟩ | Count=>exact⟨f43,_,Hf,⟨MW,fn43,F43.kp⟩,(T43.mono (by decide)).imp (fun vs H Q E h=>h),Qb⟩ | Joined=>exact⟨f89,_,GV,⟨LO,fn89,F89.kp⟩,(T89_Joined.mono (by decide)).imp (fun vs H Q E h=>by obtain⟨r,p,f,ws,cs,xs,n,m,h,w,g,e,x,y⟩:=h;exact⟨r,p,f,ws,cs,xs,n,m,h,w,g,e,⟨rfl,x.ex⟩,y⟩),Qe⟩ | NoSquare=>exact⟨f80,_,G1,⟨KM,fn80,F80.kp⟩,(T80.mono (by decide)).imp (fun vs H Q E h=>h),Qd⟩ | Ring=>exact⟨f90,_,G3,⟨N8,fn90,F90.kp⟩,(T90_Ring.mono (by decide)).imp (fun vs H Q E h=>by obtain⟨r,p,f,ws,cs,xs,n,m,h,w,g,e,x,y⟩:=h;exact⟨r,p,f,ws,cs,xs,n,m,h,w,g,e,⟨rfl,x.ex⟩,y⟩),Qf⟩⟩;have K8:Cal l.prog w K mg base _ _ _ (gq K c):=bO (xY (c:=c) B Lh Il Mu JV JW K6 F91) F91 (Qw X G a91);have JD:Cal l.prog w K mg base _ _ _ (dn K c):=oV (uu (c:=c) B G6 GQ GL GK Pj IG Hz K7 OG F92) F92 (Qw X G a92);have HC:Cal l.prog w K mg base _ _ _ (bM K c d):=cI (o9 (c:=c) (d:=d) B Je IH JC Hg GZ F93) F93 (Qw X G a93);have KA:Cal l.prog w K mg base _ _ _ (fz K c):=bO (wk (c:=c) B K8 Kz F94) F94 (Qw X G a94);have HB:Cal l.prog w K mg base _ _ _ (bN K c d):=cI (pb (c:=c) (d:=d) B Jf JX JD GZ F95) F95 (Qw X G a95);have Qg:Binds K fd96 ["self","floor","lines","clues"] []:=Cn F96;have T96:FnOk l.prog w K mg base CX0 7 f96 fd96 _ (bz K c d):=qt (c:=c) (d:=d) B Jg Jh KA Hq Ij IV F96;have NJ:KCal l.prog w K mg base _ "Puzzle" (d.A .Puzzle) _ (bz K c d):=⟨f96,_,⟨L9,LP,fn96,Ma⟩,T96,Qw X G NP,Qg⟩;have Ja:Cal l.prog w K mg base _ _ _ (dE K c d):=cI (z6 (c:=c) (d:=d) B Ip HB HC KB JE F97) F97 (Qw X G a97);have Mv:Cal l.prog w K mg base _ _ _ (ij K c d):=cI (z7 (c:=c) (d:=d) B K9 Ja F98) F98 (Qw X G a98);have Lj:Cal l.prog w K mg base _ _ _ (ik K c d):=uZ (yG (c:=c) (d:=d) B JF Ja F99) F99 (Qw X G a99);have JY:Cal l.prog w K mg base _ _ _ (c6 K c d):=cI (vc (c:=c) (d:=d) B GU Li NJ F100) F100 (Qw X G a100);have Ji:Cal l.prog w K mg base _ _ _ (c5 K c d):=xM (sB (c:=c) (d:=d) B JG G6 Lj GK JH F101) F101 (Qw X G a101);have Hm:Cal l.prog w K mg base _ _ _ (cg K c d):=cI (vd (c:=c) (d:=d) B Ji JI Ik F102) F102 (Qw X G a102);have JJ:Cal l.prog w K mg base _ _ _ (dw K c d):=cI (uv (c:=c) (d:=d) B G6 Hm F103) F103 (Qw X G a103);have Nd:Cal l.prog w K mg base _ _ _ (kx K c d):=cI (B8 (c:=c) (d:=d) B G6 Hm JH F104) F104 (Qw X G a104);have IE:Cal l.prog w K mg base _ _ _ (cj K c d):=xM (vf (c:=c) (d:=d) B Mv JJ F105) F105 (Qw X G a105);exact(Ep (c:=c) (d:=d) B GU KC Hw JY IE Nd Ik F106).imp fun vs H Q E h=>by obtain⟨a,ns,e,hS,hn,k⟩:=h;exact⟨a,ns,e,hS,hn,fun k hk=>by cases k <;> first | rfl | exact absurd rfl hk,rfl,k⟩
theorem walk {q:Program} {loose:List Str} {XP:(Str->Option Value)->Heap->Prop} {YP:World->Heap->Prop} {d:DefRec} {K:Params->Frag} (hn:l.most=some 63) (hdf:d.params.defaults=[])
  (hY:∀(w:World) (h:Heap),YP w h->(K w.params).In h)
  (F:∀(w:World) (mg:Str->Option Value) (fa:Addr) (h:Heap),(K w.params).In h->h.Ns mainGlobals mg->mg d.name=some (.ref fa)->
   ∃ fd:FuncData,(∀(s:Shared) (u:Value),BindsTo s fd ⟨[u],[]⟩ [("_law_script",u)])/\∀ base:Heap,(K w.params).In base->base.Ns mainGlobals mg->FnOk l.prog w (K w.params) mg base CX0 14 fa fd ["_law_script"] (uY (K w.params))):
  PySem.W.WalkO q loose XP YP l.row.toRowW d [] (fun f vs=>PySem.call f vs):=
 L2.CF (n:=63) (k:=14) (x:="_law_script") (CX:=fun _=>CX0) (sp:=fun w=>uY (K w.params)) hn (by decide) hdf ⟨rfl,by decide,by decide⟩ hY F (fun _ _ a ns hl _ hS=>⟨a,ns,rfl,hS,hl,fun _=>rfl⟩) fun _ _ _ _ _ z=>z
end L2
open PySem PySem.W PyProof.Rows
namespace PySem.W.Fast
def tw2009406808899625813:=()
def tw7024237573882389680:=()
def tw5826861101122040008:=()
def tw1450802484210299258:=()
def tw10867636761462122340:=()
def tw17338641193206171737:=()
def tw706839643279830858:=()
def tw3230745581072730288:=()
def tw12948915738329136563:=()
def tw9312970939465988370:=()
def tw5072257534418021995:=()
def tw5831128157262106086:=()
def tw1352755339937946904:=()
def tw10562501180889054049:=()
def tw3404323004503596058:=()
def tw17581938212083841125:=()
def tw6571986314926742897:=()
def tw6800768814249962852:=()
def tw16535924779574937330:=()
def tw12037583135156634166:=()
def tw2789135949107510075:=()
def tw14367304158948512636:=()
def tw8551009488215090776:=()
def tw15858733535779757480:=()
def tw17390975415830591598:=()
def tw2975237446097999829:=()
def tw13747816408858593461:=()
def tw9430338242104646478:=()
def tw14332583659166741146:=()
def tw7446805797453832370:=()
def tw3020377085400284139:=()
def tw5639717688603538279:=()
def tw8033237488829338027:=()
def tw8984063008214413186:=()
def tw12870649249398250058:=()
def tw15607519170520195174:=()
def tw5812417829481120630:=()
def tw18397638077409826511:=()
def tw12135021497540889359:=()
def tw17453516944623974769:=()
def tw7872237364479649051:=()
def tw7362309117550193924:=()
def tw17598717806786953489:=()
def tw13144053927170429244:=()
def tw12292615578036589104:=()
def tw6071969456970138407:=()
def tw8414565297984948536:=()
def tw18269699437533661436:=()
def tw9714117025812927107:=()
def tw6603144845794806270:=()
def tw7515892507333825816:=()
def tw14504534240727353595:=()
def tw5087008177522358095:=()
def tw16705258824106200272:=()
def tw17150120378108350269:=()
def tw12691564254743594949:=()
def tw14208601463936235826:=()
def tw13711277026670627309:=()
def tw10403353634843683331:=()
def tw785016666489671512:=()
def tw4047389950342909623:=()
def tw13980187957006577149:=()
def tw9167657226371745621:=()
def tw12544064874906698820:=()
def tw4595289334463345786:=()
def tw8414605188293958241:=()
def tw10278695718625696114:=()
def tw6233418609422963057:=()
def tw6711983897188347410:=()
def tw6122610866314496476:=()
def tw7253669332825256193:=()
def tw6027107541950917446:=()
def tw10854532886435816144:=()
def tw6590065212385240453:=()
def tw2420602427806848359:=()
def tw1619215904831055822:=()
def tw1434306038532478342:=()
def tw11934620488924350672:=()
def tw15440773406311060791:=()
def tw10353216761341414270:=()
def tw15181430913578299975:=()
def tw15914945698012972885:=()
def tw5854861776633963041:=()
def tw18216168912778939223:=()
def tw10476051663321543539:=()
def tw16948532548030576354:=()
def tw16425664840579217807:=()
def tw12656404080715975347:=()
def tw7890856492540136672:=()
def tw17378578565126657924:=()
def tw12004084457914490661:=()
def tw6957216856439787089:=()
def tw12552130517702938965:=()
def tw5472996114535880795:=()
def tw563324298125000598:=()
def tw2047070167975344646:=()
def tw9040503462270691835:=()
def tw4028141017834652517:=()
def tw8697592792930710792:=()
def tw5112575151181845385:=()
def tw17342021050044624396:=()
def tw10161619331263786064:=()
def tw17600905153548447438:=()
def tw5823162554758972818:=()
def tw17608940474772728623:=()
def tw14363407190131877450:=()
def tw8403474904222874936:=()
def tw11028986262767504237:=()
def tw12431720097321742289:=()
def tw201274209904803517:=()
def tw10810631686785800581:=()
def tw15876300876762726281:=()
def tw3849853503455338799:=()
def tw5500280280322821693:=()
def tw6704258408690154940:=()
def tw8102820786008862263:=()
def tw8015948094286992025:=()
def tw5351680277358793871:=()
def tw10241344809681715494:=()
def tw1691848959888404565:=()
def tw102914991940005022:=()
def tw14175583359930430109:=()
def tw13108245983919300675:=()
def tw3112957980189708262:=()
def tw2766038663089670211:=()
def tw11123256559684601513:=()
def tw1603031012573570764:=()
def tw16707763884333231415:=()
def tw6954465273306653761:=()
def tw3289866229404533789:=()
def tw5828087116882840930:=()
def tw5250509468584353293:=()
def tw8302984219927174113:=()
def tw6787989905768373355:=()
def tw2620897389501610680:=()
def tw9399001274535762301:=()
def tw169757042876105507:=()
def tw2140398975229007856:=()
def tw1577949527083955119:=()
def tw10842509341077039946:=()
def tw17954703198929639567:=()
def tw17555640859368431322:=()
def tw995379937049964491:=()
def tw2063398329061863012:=()
def tw8536801618776424141:=()
def tw9789176504382896496:=()
def tw6513839159230040339:=()
def tw8873325025032864577:=()
def tw11880215041028349196:=()
def tw8569974894519739530:=()
def tw7884866893214701139:=()
def tw17316849352661493189:=()
def tw7602945433656609587:=()
def tw9358847472506989627:=()
def tw5786274924384671419:=()
def tw8125727361059598646:=()
def tw6788869029330875438:=()
def tw15009281966650132280:=()
def tw13526798936730836700:=()
def tw3320424041850401283:=()
def tw3610755495898107251:=()
def tw13103526478457905770:=()
def tw29608999358563110:=()
def tw12351190868935583628:=()
def tw1926764472479390679:=()
def tw9637518652848578990:=()
def tw14752318329239575428:=()
def tw3473615794126539157:=()
def tw8651161670428667620:=()
def tw16977494448893817009:=()
def tw8806894944539941883:=()
def tw6268495064096094835:=()
def tw2980110860937419076:=()
def tw14897897365938718962:=()
def tw16637529236248275712:=()
def tw13779745679871760857:=()
def tw15119634141702849460:=()
def tw6277198701448588254:=()
def tw1820732365352034759:=()
def tw15709190171187078469:=()
def tw8566882589884456109:=()
def tw15236428927394060613:=()
def tw1131171981048075017:=()
def tw3213739981957874069:=()
def tw1706193203797010783:=()
def tw4532360890937000764:=()
def tw2147980246460354560:=()
def tw17454512766698152327:=()
def tw18221711533145445119:=()
def tw2992121121744597112:=()
def tw2696568372850827429:=()
def tw14969363651052887226:=()
def tw3091719146626977972:=()
def tw4172306030764557890:=()
def tw15569115762389672709:=()
def tw7884010069455212084:=()
def tw834511654935368610:=()
def tw8772042096263606310:=()
def tw13461508131220605847:=()
def tw13924328964237889603:=()
def tw3883026899369922802:=()
def tw18412697670266291341:=()
def tw11647560114863932954:=()
def tw15671676275218982942:=()
def tw15147151495959380084:=()
def tw1967274717868553395:=()
def tw14379763810636665642:=()
def tw18059342926947727482:=()
def tw16942247819571636002:=()
def tw8182401620351913054:=()
def tw3253129480325238199:=()
def tw1289091677833430788:=()
def tw7324674688082549118:=()
def tw1125918702541896384:=()
def tw7989258490159781052:=()
def tw16861604566061679063:=()
def tw8067149703997663893:=()
def tw6796368100157119646:=()
def tw3285118155215495497:=()
def tw12483072435858457611:=()
def tw12465704449131634699:=()
def tw4648448994586514340:=()
def tw2088728982977258652:=()
def tw11448145076246509953:=()
def tw10960860605538201488:=()
def tw1760433830459463122:=()
def tw8934650731121078499:=()
def tw8181444045249223665:=()
def tw12232648656177464978:=()
def tw15896939914128194262:=()
def tw8523202582576545398:=()
def tw994858503134200641:=()
def tw12550937839967961703:=()
def tw4877071197307144750:=()
def tw13818322875528218361:=()
def tw13808178506164970104:=()
def tw8049659593264263041:=()
def tw15489488651628813212:=()
end PySem.W.Fast
set_option maxRecDepth 100000 in
set_option maxHeartbeats 0 in
theorem PySem.Challenge.cw_cluemaker_k51_thinking_walked_holds : PySem.Challenge.rw_cluemaker_k51_thinking_walked.Holds := by
  w_on; o_law; k_head; (case hw => w_witness2)
  k_fill
  refine L2.walk (l := PySem.Challenge.rw_cluemaker_k51_thinking_walked) rfl rfl (fun w h Y => PySem.W.kIn_of Y) ?F
  case F =>
    intro w mg fa h KX G hmg
    refine' L2.Er KX G hmg ?NM ?q_Sum ?NN ?Pr ?ON ?NO ?Ll ?Ps ?NP ?a0 ?a1 ?a2 ?a3 ?a4 ?a5 ?a6 ?a7 ?a8 ?a9 ?a10 ?a11 ?a12 ?Lm ?OO ?Ln ?NQ ?MP ?Lo ?KF ?NR ?Lp ?OP ?Lq ?NS ?MQ ?Lr ?KG ?NT ?Ls ?OQ ?Lu ?NU ?MR ?Lv ?KH ?NV ?Lw ?OR ?Lx ?NW ?MS ?Ly ?KI ?NX ?Lz ?OS ?LA ?NY ?MT ?LB ?KJ ?NZ ?LC ?OT ?LD ?N0 ?MU ?LE ?KK ?N1 ?LF ?OU ?LG ?N4 ?MV ?Kq ?KL ?LH ?a20 ?LI ?LJ ?LK ?a24 ?a25 ?a26 ?a27 ?a28 ?a29 ?a30 ?a31 ?a32 ?a33 ?a34 ?a35 ?a36 ?a37 ?a38 ?LL ?OV ?LM ?N5 ?MW ?a44 ?a45 ?a46 ?a47 ?a48 ?a49 ?a50 ?a51 ?a52 ?a53 ?a54 ?a55 ?a56 ?a57 ?a58 ?a59 ?a60 ?a61 ?a62 ?a63 ?N6 ?a65 ?a66 ?a67 ?a68 ?a69 ?a70 ?a71 ?a72 ?a73 ?a74 ?a75 ?a76 ?a77 ?a78 ?LN ?N7 ?KM ?a81 ?a82 ?a83 ?a84 ?a85 ?a86 ?a87 ?a88 ?LO ?N8 ?a91 ?a92 ?a93 ?a94 ?a95 ?LP ?a97 ?a98 ?a99 ?a100 ?a101 ?a102 ?a103 ?a104 ?a105 ?a106 ?F0 ?F1 ?F2 ?F3 ?F4 ?F5 ?F6 ?F7 ?F8 ?F9 ?F10 ?F11 ?F12 ?F13 ?fn13 ?F14 ?fn14 ?F15 ?fn15 ?F16 ?fn16 ?F17 ?fn17 ?F18 ?fn18 ?F19 ?fn19 ?F20 ?F21 ?fn21 ?F22 ?fn22 ?F23 ?fn23 ?F24 ?F25 ?F26 ?F27 ?F28 ?F29 ?F30 ?F31 ?F32 ?F33 ?F34 ?F35 ?F36 ?F37 ?F38 ?F39 ?fn39 ?F40 ?fn40 ?F41 ?fn41 ?F42 ?fn42 ?F43 ?fn43 ?F44 ?F45 ?F46 ?F47 ?F48 ?F49 ?F50 ?F51 ?F52 ?F53 ?F54 ?F55 ?F56 ?F57 ?F58 ?F59 ?F60 ?F61 ?F62 ?F63 ?F64 ?fn64 ?F65 ?F66 ?F67 ?F68 ?F69 ?F70 ?F71 ?F72 ?F73 ?F74 ?F75 ?F76 ?F77 ?F78 ?F79 ?fn79 ?F80 ?fn80 ?F81 ?F82 ?F83 ?F84 ?F85 ?F86 ?F87 ?F88 ?F89 ?fn89 ?F90 ?fn90 ?F91 ?F92 ?F93 ?F94 ?F95 ?F96 ?fn96 ?F97 ?F98 ?F99 ?F100 ?F101 ?F102 ?F103 ?F104 ?F105 ?F106 ?LQ ?LR ?LS ?LT ?LU ?LV ?OW ?OX ?OY ?OZ ?O0 ?O1 ?LW ?LX ?LY ?LZ ?L0 ?L1 ?N9 ?Oa ?Ob ?Oc ?Od ?Oe ?MX ?MY ?MZ ?M0 ?M2 ?M3 ?L3 ?L4 ?L5 ?L6 ?L7 ?L8 ?KN ?KO ?KP ?KQ ?KR ?KS ?Of ?Og ?Oh ?Oi ?Oj ?Ol ?L9 ?Ma ?Mb ?Mc ?Md ?Me ?Id ?Jl ?Ie ?IJ ?Iq ?Ig ?Hx ?IK ?Ir ?JL ?Iu ?Jm ?IL ?Hu ?HD ?Ia ?Iv ?JM ?Iw ?Jn ?IM ?Hv ?HE ?Ib ?IN ?J0 ?IO ?JN ?Jo ?Hy ?Ih ?Im ?Ix ?JO ?Iy ?Jp ?IP ?Iz ?HF ?Jq ?IA ?IB ?IQ ?M4 ?M5 ?JP ?JQ ?IR ?IS ?IT ?IU ?Jr ?Js ?J1 ?J3 ?IC ?ID ?HG ?HH ?HI ?HJ ?HK ?HL ?HM ?HN ?HP ?HQ ?HR ?HS ?HU ?HV ?HW ?HX ?HY ?HZ ?Mf ?J4 ?Jt ?JR ?J5 ?KU ?J6 ?KW ?Pw ?Px ?Py ?Pz ?Om ?PB ?KY ?Pt ?PC ?Pu ?PD ?O4 ?Mg ?PF ?O5 ?PH ?PJ ?PK ?La
    (case NM=>k_is);(case q_Sum=>k_is);(case NN=>k_is);(case Pr=>k_is);(case ON=>k_is);(case NO=>k_is);(case Ll=>k_is);(case Ps=>k_is);(case NP=>k_is);(case a0=>k_is);(case a1=>k_is);(case a2=>k_is);(case a3=>k_is);(case a4=>k_is);(case a5=>k_is);(case a6=>k_is);(case a7=>k_is);(case a8=>k_is);(case a9=>k_is);(case a10=>k_is);(case a11=>k_is);(case a12=>k_is);(case Lm=>k_is);(case OO=>k_is);(case Ln=>k_is);(case NQ=>k_is);(case MP=>k_is);(case Lo=>k_is);(case KF=>k_is);(case NR=>k_is);(case Lp=>k_is);(case OP=>k_is);(case Lq=>k_is);(case NS=>k_is);(case MQ=>k_is);(case Lr=>k_is);(case KG=>k_is);(case NT=>k_is);(case Ls=>k_is);(case OQ=>k_is);(case Lu=>k_is);(case NU=>k_is);(case MR=>k_is);(case Lv=>k_is);(case KH=>k_is);(case NV=>k_is);(case Lw=>k_is);(case OR=>k_is);(case Lx=>k_is);(case NW=>k_is);(case MS=>k_is);(case Ly=>k_is);(case KI=>k_is);(case NX=>k_is);(case Lz=>k_is);(case OS=>k_is);(case LA=>k_is);(case NY=>k_is);(case MT=>k_is);(case LB=>k_is);(case KJ=>k_is);(case NZ=>k_is);(case LC=>k_is);(case OT=>k_is);(case LD=>k_is);(case N0=>k_is);(case MU=>k_is);(case LE=>k_is);(case KK=>k_is);(case N1=>k_is);(case LF=>k_is);(case OU=>k_is);(case LG=>k_is);(case N4=>k_is);(case MV=>k_is);(case Kq=>k_is);(case KL=>k_is);(case LH=>k_is);(case a20=>k_is);(case LI=>k_is);(case LJ=>k_is);(case LK=>k_is);(case a24=>k_is);(case a25=>k_is);(case a26=>k_is);(case a27=>k_is);(case a28=>k_is);(case a29=>k_is);(case a30=>k_is);(case a31=>k_is);(case a32=>k_is);(case a33=>k_is);(case a34=>k_is);(case a35=>k_is);(case a36=>k_is);(case a37=>k_is);(case a38=>k_is);(case LL=>k_is);(case OV=>k_is);(case LM=>k_is);(case N5=>k_is);(case MW=>k_is);(case a44=>k_is);(case a45=>k_is);(case a46=>k_is);(case a47=>k_is);(case a48=>k_is);(case a49=>k_is);(case a50=>k_is);(case a51=>k_is);(case a52=>k_is);(case a53=>k_is);(case a54=>k_is);(case a55=>k_is);(case a56=>k_is);(case a57=>k_is);(case a58=>k_is);(case a59=>k_is);(case a60=>k_is);(case a61=>k_is);(case a62=>k_is);(case a63=>k_is);(case N6=>k_is);(case a65=>k_is);(case a66=>k_is);(case a67=>k_is);(case a68=>k_is);(case a69=>k_is);(case a70=>k_is);(case a71=>k_is);(case a72=>k_is);(case a73=>k_is);(case a74=>k_is);(case a75=>k_is);(case a76=>k_is);(case a77=>k_is);(case a78=>k_is);(case LN=>k_is);(case N7=>k_is);(case KM=>k_is);(case a81=>k_is);(case a82=>k_is);(case a83=>k_is);(case a84=>k_is);(case a85=>k_is);(case a86=>k_is);(case a87=>k_is);(case a88=>k_is);(case LO=>k_is);(case N8=>k_is);(case a91=>k_is);(case a92=>k_is);(case a93=>k_is);(case a94=>k_is);(case a95=>k_is);(case LP=>k_is);(case a97=>k_is);(case a98=>k_is);(case a99=>k_is);(case a100=>k_is);(case a101=>k_is);(case a102=>k_is);(case a103=>k_is);(case a104=>k_is);(case a105=>k_is);(case a106=>k_is)
    (case F0 => (refine' L2.aq ?l ?c ?k; (case l => k_is); (case c => k_is); case k => k_is))
    (case F1 => (refine' L2.aq ?l ?c ?k; (case l => k_is); (case c => k_is); case k => k_is))
    (case F2 => (refine' L2.aq ?l ?c ?k; (case l => k_is); (case c => k_is); case k => k_is))
    (case F3 => (refine' L2.aq ?l ?c ?k; (case l => k_is); (case c => k_is); case k => k_is))
    (case F4 => (refine' L2.aq ?l ?c ?k; (case l => k_is); (case c => k_is); case k => k_is))
    (case F5 => (refine' L2.aq ?l ?c ?k; (case l => k_is); (case c => k_is); case k => k_is))
    (case F6 => (refine' L2.aq ?l ?c ?k; (case l => k_is); (case c => k_is); case k => k_is))
    (case F7 => (refine' L2.aq ?l ?c ?k; (case l => k_is); (case c => k_is); case k => k_is))
    (case F8 => (refine' L2.aq ?l ?c ?k; (case l => k_is); (case c => k_is); case k => k_is))
    (case F9 => (refine' L2.aq ?l ?c ?k; (case l => k_is); (case c => k_is); case k => k_is))
    (case F10 => (refine' L2.aq ?l ?c ?k; (case l => k_is); (case c => k_is); case k => k_is))
    (case F11 => (refine' L2.aq ?l ?c ?k; (case l => k_is); (case c => k_is); case k => k_is))
    (case F12 => (refine' L2.aq ?l ?c ?k; (case l => k_is); (case c => k_is); case k => k_is))
    (case F13 => (refine' L2.aq ?l ?c ?k; (case l => k_is); (case c => k_is); case k => k_is))
    (case fn13=>k_is)
    (case F14 => (refine' L2.aq ?l ?c ?k; (case l => k_is); (case c => k_is); case k => k_is))
    (case fn14=>k_is)
    (case F15 => (refine' L2.aq ?l ?c ?k; (case l => k_is); (case c => k_is); case k => k_is))
    (case fn15=>k_is)
    (case F16 => (refine' L2.aq ?l ?c ?k; (case l => k_is); (case c => k_is); case k => k_is))
    (case fn16=>k_is)
    (case F17 => (refine' L2.aq ?l ?c ?k; (case l => k_is); (case c => k_is); case k => k_is))
    (case fn17=>k_is)
    (case F18 => (refine' L2.aq ?l ?c ?k; (case l => k_is); (case c => k_is); case k => k_is))
    (case fn18=>k_is)
    (case F19 => (refine' L2.aq ?l ?c ?k; (case l => k_is); (case c => k_is); case k => k_is))
    (case fn19=>k_is)
    (case F20 => (refine' L2.aq ?l ?c ?k; (case l => k_is); (case c => k_is); case k => k_is))
    (case F21 => (refine' L2.aq ?l ?c ?k; (case l => k_is); (case c => k_is); case k => k_is))
    (case fn21=>k_is)
    (case F22 => (refine' L2.aq ?l ?c ?k; (case l => k_is); (case c => k_is); case k => k_is))
    (case fn22=>k_is)
    (case F23 => (refine' L2.aq ?l ?c ?k; (case l => k_is); (case c => k_is); case k => k_is))
    (case fn23=>k_is)
    (case F24 => (refine' L2.aq ?l ?c ?k; (case l => k_is); (case c => k_is); case k => k_is))
    (case F25 => (refine' L2.aq ?l ?c ?k; (case l => k_is); (case c => k_is); case k => k_is))
    (case F26 => (refine' L2.aq ?l ?c ?k; (case l => k_is); (case c => k_is); case k => k_is))
    (case F27 => (refine' L2.aq ?l ?c ?k; (case l => k_is); (case c => k_is); case k => k_is))
    (case F28 => (refine' L2.aq ?l ?c ?k; (case l => k_is); (case c => k_is); case k => k_is))
    (case F29 => (refine' L2.aq ?l ?c ?k; (case l => k_is); (case c => k_is); case k => k_is))
    (case F30 => (refine' L2.aq ?l ?c ?k; (case l => k_is); (case c => k_is); case k => k_is))
    (case F31 => (refine' L2.aq ?l ?c ?k; (case l => k_is); (case c => k_is); case k => k_is))
    (case F32 => (refine' L2.aq ?l ?c ?k; (case l => k_is); (case c => k_is); case k => k_is))
    (case F33 => (refine' L2.aq ?l ?c ?k; (case l => k_is); (case c => k_is); case k => k_is))
    (case F34 => (refine' L2.aq ?l ?c ?k; (case l => k_is); (case c => k_is); case k => k_is))
    (case F35 => (refine' L2.aq ?l ?c ?k; (case l => k_is); (case c => k_is); case k => k_is))
    (case F36 => (refine' L2.aq ?l ?c ?k; (case l => k_is); (case c => k_is); case k => k_is))
    (case F37 => (refine' L2.aq ?l ?c ?k; (case l => k_is); (case c => k_is); case k => k_is))
    (case F38 => (refine' L2.aq ?l ?c ?k; (case l => k_is); (case c => k_is); case k => k_is))
    (case F39 => (refine' L2.aq ?l ?c ?k; (case l => k_is); (case c => k_is); case k => k_is))
    (case fn39=>k_is)
    (case F40 => (refine' L2.aq ?l ?c ?k; (case l => k_is); (case c => k_is); case k => k_is))
    (case fn40=>k_is)
    (case F41 => (refine' L2.aq ?l ?c ?k; (case l => k_is); (case c => k_is); case k => k_is))
    (case fn41=>k_is)
    (case F42 => (refine' L2.aq ?l ?c ?k; (case l => k_is); (case c => k_is); case k => k_is))
    (case fn42=>k_is)
    (case F43 => (refine' L2.aq ?l ?c ?k; (case l => k_is); (case c => k_is); case k => k_is))
    (case fn43=>k_is)
    (case F44 => (refine' L2.aq ?l ?c ?k; (case l => k_is); (case c => k_is); case k => k_is))
    (case F45 => (refine' L2.aq ?l ?c ?k; (case l => k_is); (case c => k_is); case k => k_is))
    (case F46 => (refine' L2.aq ?l ?c ?k; (case l => k_is); (case c => k_is); case k => k_is))
    (case F47 => (refine' L2.aq ?l ?c ?k; (case l => k_is); (case c => k_is); case k => k_is))
    (case F48 => (refine' L2.aq ?l ?c ?k; (case l => k_is); (case c => k_is); case k => k_is))
    (case F49 => (refine' L2.aq ?l ?c ?k; (case l => k_is); (case c => k_is); case k => k_is))
    (case F50 => (refine' L2.aq ?l ?c ?k; (case l => k_is); (case c => k_is); case k => k_is))
    (case F51 => (refine' L2.aq ?l ?c ?k; (case l => k_is); (case c => k_is); case k => k_is))
    (case F52 => (refine' L2.aq ?l ?c ?k; (case l => k_is); (case c => k_is); case k => k_is))
    (case F53 => (refine' L2.aq ?l ?c ?k; (case l => k_is); (case c => k_is); case k => k_is))
    (case F54 => (refine' L2.aq ?l ?c ?k; (case l => k_is); (case c => k_is); case k => k_is))
    (case F55 => (refine' L2.aq ?l ?c ?k; (case l => k_is); (case c => k_is); case k => k_is))
    (case F56 => (refine' L2.aq ?l ?c ?k; (case l => k_is); (case c => k_is); case k => k_is))
    (case F57 => (refine' L2.aq ?l ?c ?k; (case l => k_is); (case c => k_is); case k => k_is))
    (case F58 => (refine' L2.aq ?l ?c ?k; (case l => k_is); (case c => k_is); case k => k_is))
    (case F59 => (refine' L2.aq ?l ?c ?k; (case l => k_is); (case c => k_is); case k => k_is))
    (case F60 => (refine' L2.aq ?l ?c ?k; (case l => k_is); (case c => k_is); case k => k_is))
    (case F61 => (refine' L2.aq ?l ?c ?k; (case l => k_is); (case c => k_is); case k => k_is))
    (case F62 => (refine' L2.aq ?l ?c ?k; (case l => k_is); (case c => k_is); case k => k_is))
    (case F63 => (refine' L2.aq ?l ?c ?k; (case l => k_is); (case c => k_is); case k => k_is))
    (case F64 => (refine' L2.aq ?l ?c ?k; (case l => k_is); (case c => k_is); case k => k_is))
    (case fn64=>k_is)
    (case F65 => (refine' L2.aq ?l ?c ?k; (case l => k_is); (case c => k_is); case k => k_is))
    (case F66 => (refine' L2.aq ?l ?c ?k; (case l => k_is); (case c => k_is); case k => k_is))
    (case F67 => (refine' L2.aq ?l ?c ?k; (case l => k_is); (case c => k_is); case k => k_is))
    (case F68 => (refine' L2.aq ?l ?c ?k; (case l => k_is); (case c => k_is); case k => k_is))
    (case F69 => (refine' L2.aq ?l ?c ?k; (case l => k_is); (case c => k_is); case k => k_is))
    (case F70 => (refine' L2.aq ?l ?c ?k; (case l => k_is); (case c => k_is); case k => k_is))
    (case F71 => (refine' L2.aq ?l ?c ?k; (case l => k_is); (case c => k_is); case k => k_is))
    (case F72 => (refine' L2.aq ?l ?c ?k; (case l => k_is); (case c => k_is); case k => k_is))
    (case F73 => (refine' L2.aq ?l ?c ?k; (case l => k_is); (case c => k_is); case k => k_is))
    (case F74 => (refine' L2.aq ?l ?c ?k; (case l => k_is); (case c => k_is); case k => k_is))
    (case F75 => (refine' L2.aq ?l ?c ?k; (case l => k_is); (case c => k_is); case k => k_is))
    (case F76 => (refine' L2.aq ?l ?c ?k; (case l => k_is); (case c => k_is); case k => k_is))
    (case F77 => (refine' L2.aq ?l ?c ?k; (case l => k_is); (case c => k_is); case k => k_is))
    (case F78 => (refine' L2.aq ?l ?c ?k; (case l => k_is); (case c => k_is); case k => k_is))
    (case F79 => (refine' L2.aq ?l ?c ?k; (case l => k_is); (case c => k_is); case k => k_is))
    (case fn79=>k_is)
    (case F80 => (refine' L2.aq ?l ?c ?k; (case l => k_is); (case c => k_is); case k => k_is))
    (case fn80=>k_is)
    (case F81 => (refine' L2.aq ?l ?c ?k; (case l => k_is); (case c => k_is); case k => k_is))
    (case F82 => (refine' L2.aq ?l ?c ?k; (case l => k_is); (case c => k_is); case k => k_is))
    (case F83 => (refine' L2.aq ?l ?c ?k; (case l => k_is); (case c => k_is); case k => k_is))
    (case F84 => (refine' L2.aq ?l ?c ?k; (case l => k_is); (case c => k_is); case k => k_is))
    (case F85 => (refine' L2.aq ?l ?c ?k; (case l => k_is); (case c => k_is); case k => k_is))
    (case F86 => (refine' L2.aq ?l ?c ?k; (case l => k_is); (case c => k_is); case k => k_is))
    (case F87 => (refine' L2.aq ?l ?c ?k; (case l => k_is); (case c => k_is); case k => k_is))
    (case F88 => (refine' L2.aq ?l ?c ?k; (case l => k_is); (case c => k_is); case k => k_is))
    (case F89 => (refine' L2.aq ?l ?c ?k; (case l => k_is); (case c => k_is); case k => k_is))
    (case fn89=>k_is)
    (case F90 => (refine' L2.aq ?l ?c ?k; (case l => k_is); (case c => k_is); case k => k_is))
    (case fn90=>k_is)
    (case F91 => (refine' L2.aq ?l ?c ?k; (case l => k_is); (case c => k_is); case k => k_is))
    (case F92 => (refine' L2.aq ?l ?c ?k; (case l => k_is); (case c => k_is); case k => k_is))
    (case F93 => (refine' L2.aq ?l ?c ?k; (case l => k_is); (case c => k_is); case k => k_is))
    (case F94 => (refine' L2.aq ?l ?c ?k; (case l => k_is); (case c => k_is); case k => k_is))
    (case F95 => (refine' L2.aq ?l ?c ?k; (case l => k_is); (case c => k_is); case k => k_is))
    (case F96 => (refine' L2.aq ?l ?c ?k; (case l => k_is); (case c => k_is); case k => k_is))
    (case fn96=>k_is)
    (case F97 => (refine' L2.aq ?l ?c ?k; (case l => k_is); (case c => k_is); case k => k_is))
    (case F98 => (refine' L2.aq ?l ?c ?k; (case l => k_is); (case c => k_is); case k => k_is))
    (case F99 => (refine' L2.aq ?l ?c ?k; (case l => k_is); (case c => k_is); case k => k_is))
    (case F100 => (refine' L2.aq ?l ?c ?k; (case l => k_is); (case c => k_is); case k => k_is))
    (case F101 => (refine' L2.aq ?l ?c ?k; (case l => k_is); (case c => k_is); case k => k_is))
    (case F102 => (refine' L2.aq ?l ?c ?k; (case l => k_is); (case c => k_is); case k => k_is))
    (case F103 => (refine' L2.aq ?l ?c ?k; (case l => k_is); (case c => k_is); case k => k_is))
    (case F104 => (refine' L2.aq ?l ?c ?k; (case l => k_is); (case c => k_is); case k => k_is))
    (case F105 => (refine' L2.aq ?l ?c ?k; (case l => k_is); (case c => k_is); case k => k_is))
    (case F106 => (refine' L2.aq ?l ?c ?k; (case l => k_is); (case c => k_is); case k => k_is))
    (case LQ=>k_is);(case LR=>k_is);(case LS=>k_is);(case LT=>k_is);(case LU=>k_is);(case LV=>k_is);(case OW=>k_is);(case OX=>k_is);(case OY=>k_is);(case OZ=>k_is);(case O0=>k_is);(case O1=>k_is);(case LW=>k_is);(case LX=>k_is);(case LY=>k_is);(case LZ=>k_is);(case L0=>k_is);(case L1=>k_is);(case N9=>k_is);(case Oa=>k_is);(case Ob=>k_is);(case Oc=>k_is);(case Od=>k_is);(case Oe=>k_is);(case MX=>k_is);(case MY=>k_is);(case MZ=>k_is);(case M0=>k_is);(case M2=>k_is);(case M3=>k_is);(case L3=>k_is);(case L4=>k_is);(case L5=>k_is);(case L6=>k_is);(case L7=>k_is);(case L8=>k_is);(case KN=>k_is);(case KO=>k_is);(case KP=>k_is);(case KQ=>k_is);(case KR=>k_is);(case KS=>k_is);(case Of=>k_is);(case Og=>k_is);(case Oh=>k_is);(case Oi=>k_is);(case Oj=>k_is);(case Ol=>k_is);(case L9=>k_is);(case Ma=>k_is);(case Mb=>k_is);(case Mc=>k_is);(case Md=>k_is);(case Me=>k_is);(case Id=>k_is);(case Jl=>k_is);(case Ie=>k_is);(case IJ=>k_is);(case Iq=>k_is);(case Ig=>k_is);(case Hx=>k_is);(case IK=>k_is);(case Ir=>k_is);(case JL=>k_is);(case Iu=>k_is);(case Jm=>k_is);(case IL=>k_is);(case Hu=>k_is);(case HD=>k_is);(case Ia=>k_is);(case Iv=>k_is);(case JM=>k_is);(case Iw=>k_is);(case Jn=>k_is);(case IM=>k_is);(case Hv=>k_is);(case HE=>k_is);(case Ib=>k_is);(case IN=>k_is);(case J0=>k_is);(case IO=>k_is);(case JN=>k_is);(case Jo=>k_is);(case Hy=>k_is);(case Ih=>k_is);(case Im=>k_is);(case Ix=>k_is);(case JO=>k_is);(case Iy=>k_is);(case Jp=>k_is);(case IP=>k_is);(case Iz=>k_is);(case HF=>k_is);(case Jq=>k_is);(case IA=>k_is);(case IB=>k_is);(case IQ=>k_is);(case M4=>k_is);(case M5=>k_is);(case JP=>k_is);(case JQ=>k_is);(case IR=>k_is);(case IS=>k_is);(case IT=>k_is);(case IU=>k_is);(case Jr=>k_is);(case Js=>k_is);(case J1=>k_is);(case J3=>k_is);(case IC=>k_is);(case ID=>k_is);(case HG=>k_is)
    (case HH => first | exact rfl | with_unfolding_all rfl)
    (case HI=>k_is)
    (case HJ => first | exact rfl | with_unfolding_all rfl)
    (case HK=>k_is)
    (case HL => first | exact rfl | with_unfolding_all rfl)
    (case HM=>k_is)
    (case HN => first | exact rfl | with_unfolding_all rfl)
    (case HP=>k_is)
    (case HQ => first | exact rfl | with_unfolding_all rfl)
    (case HR=>k_is)
    (case HS => first | exact rfl | with_unfolding_all rfl)
    (case HU=>k_is)
    (case HV => first | exact rfl | with_unfolding_all rfl)
    (case HW=>k_is)
    (case HX => first | exact rfl | with_unfolding_all rfl)
    (case HY=>k_is)
    (case HZ => first | exact rfl | with_unfolding_all rfl)
    (case Mf=>k_is);(case J4=>k_is);(case Jt=>k_is);(case JR=>k_is);(case J5=>k_is);(case KU=>k_is);(case J6=>k_is);(case KW=>k_is);(case Pw=>k_is);(case Px=>k_is);(case Py=>k_is);(case Pz=>k_is);(case Om=>k_is);(case PB=>k_is);(case KY=>k_is);(case Pt=>k_is);(case PC=>k_is);(case Pu=>k_is);(case PD=>k_is);(case O4=>k_is);(case Mg=>k_is);(case PF=>k_is);(case O5=>k_is);(case PH=>k_is);(case PJ=>k_is);(case PK=>k_is);(case La=>k_is)
