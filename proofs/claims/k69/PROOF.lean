import PyProof.Rows.All
import Wide.All
import OpenK.AllK
import Wide.FinOn
import Lean
import PyProof.EqAt
import PyProof.EqKinds
import PyProof.TupleCall
import PyProof.ZipIter
import PyProof.ConsumeS
import PyProof.StrCalls2
import PyProof.StrWalks
import PyProof.SliceStr2
import PyProof.StrBlock
import PyProof.StrBlockL
import PyProof.ListIndex
import PyProof.StrLawsTight
import PyProof.StrLawsChain
import PyProof.StrLaws
import PyProof.StrLawsFirst
import PyProof.StationsW
import PyProof.ExcClass3
import PyProof.NsDelKeeps
import PyProof.RulesAs
import PyProof.ExcBaseAll.ValueError
import PyProof.ExcArgsOwn
import PyProof.ExcAttrAll.ValueError
import KE.KTryMore
import KE.RegKTryMore
import KE.RegKIsAll
import PyProof.Rows.Range3
import PyProof.Rows.SumGenD
import PyProof.Rows.RuleM_int
import PyProof.EnumMake
import PyProof.EnumFor
import PyProof.EnumStmt
import PyProof.Rows.EnumRows
import KE.KRevIter
import PyProof.ListNew
import PyProof.CollectIter
import PyProof.ListRange
import PyProof.CallStr
import PyProof.StrBlock2
import PyProof.Rows.StrMadeLen
import PyProof.Rows.SetFrom
import PyProof.SetRoads
import PyProof.MeetsStr2
import KE.KRevSl
import PyProof.Conv_int
import PyProof.WalkInts
import PyProof.Rows.SortStr
import PySem.Challenge.RW_cluemaker_k69_whole_alike
set_option Elab.async false
set_option linter.all false
set_option maxRecDepth 100000
open PySem.W (Frag nsIn findIn fnOf isFn codeIn keepIn)
set_option maxHeartbeats 40000000
namespace O9
open Lean
abbrev DS:=StateT (List Char) MacroM
def nx:DS Char:=do
 let l<-get
 set l.tail
 return l.head?.getD ' '
def num:DS Nat:=do
 let k<-get
 let r:=k.takeWhile (·.isDigit)
 set (k.drop (r.length+1))
 return r.foldl (fun x d=>10*x+(d.toNat-48)) 0
def hd(tb:List String):DS (Term×Nat):=do
 let c<-nx
 let c<-if "~'{}_".toList.contains c then pure (toString c++toString (<-nx)) else pure (toString c)
 let e:=((tb.find? (·.startsWith c)).getD "").toList.drop c.length
 let n:=String.ofList e.dropLast
 let r:=String.ofList (e.dropLast.drop 1)
 let m:Term:=if n="_" then ⟨mkNode ``Parser.Term.hole #[mkAtom "_"]⟩ else if n.startsWith "." then ⟨mkNode ``Parser.Term.dotIdent #[mkAtom ".",mkIdent r.toName]⟩ else if n.startsWith "%" then quote r else mkIdent n.toName
 return (m,(e.getLast?.getD '0').toNat-48)
def cmp(c:Char):MacroM Term:=do
 let t<-if c='>' then `(fun i j=>decide (j<i)) else if c='<' then `(fun i j=>decide (i<j)) else if c='(' then `(fun i j=>decide (i<=j)) else `(fun i j=>decide (j<=i))
 `($(mkIdent `cCmp) $t)
def ixs:Nat->DS (Array Term)
|0=>return #[]
|n+1=>do
 let c<-nx
 if c=' ' then return #[]
 let x<-if c='-' then `(none) else `(some $(quote (c.toNat-48)))
 return #[x]++(<-ixs n)
def dec(v:Name)(ts:Array Term)(tb:List String):Nat->DS Term
|0=>return mkIdent v
|n+1=>do
 let c<-nx
 if c.isDigit then `($(mkIdent v) $(quote (c.toNat-48)))
 else if c='|' then
  let d<-nx
  `($(mkIdent v) $(quote (d.toNat-87)))
 else if c='#' then return quote (<-num)
 else if c='`' then return ts[(<-nx).toNat-48]!
 else if c='$' then
  let t<-dec v ts tb n
  `(fun cl s H fp=>$t)
 else if c='!' then `(by decide)
 else if c='=' then `([])
 else if c=',' then
  let a<-dec v ts tb n
  let b<-dec v ts tb n
  `($(mkIdent `tCall) $a [] $(mkIdent `E0) $b)
 else if c='%' then `(by decide +kernel)
 else if c='@' then
  let t<-dec v ts tb n
  `(show ($t : List $(mkIdent `Str)).Nodup by decide +kernel)
 else if c='&' then
  let a<-ixs 99
  `([$a,*])
 else if "<>()".toList.contains c then cmp c
 else if c='.' then
  let d<-nx
  let t<-dec v ts tb n
  return ⟨mkNode ``Parser.Term.namedArgument #[mkAtom "(",mkIdent (if d='x' then `ix else .mkSimple (toString d)),mkAtom ":=",t,mkAtom ")"]⟩
 else
  modify (c::·)
  let (h,k)<-hd tb
  if k=0 then return h
  let mut a:=#[]
  for _ in [0:k] do a:=a.push (<-dec v ts tb n).raw
  return ⟨mkNode ``Parser.Term.app #[h,mkNullNode a]⟩
def tbR:List String:="atCons2 bK0 ctNil0 dtC1 etOp3 f.int1 gtSeq2 hgName1 ic0 jd0 ktAsg2 ltRet1 mtTest1 ncIx0 otIfS3 ptNext0 qtCB2 rcAdd0 scEq1 t.str1 utx1 vtLst1 wtTup1 xcMod0 yE0 ziList2 AaL6 BtTrue0 CtB1 DtComp5 Ed.ok0 FtBM5 Gfalse0 HtDrop1 I%list0 JtFor3 KkLen0 LtCall4 MtNot1 NcX0 OaJ1 PgCons2 QcMul0 RtMake5 SE00 TdG1 UcDiv0 V.bl1 WtOr2 XcNe1 YtSl4 ZiS0 *tPart1 +bW0 -tFldK3 /tAndV2 :c.ok0 ;kStr0 ?sFldK4 [%str0 ].non0 ^sComp6 ~ac.A1 ~baq2 ~c%place0 ~dbo3 ~ecSub0 ~ftInG3 ~gkIsi0 ~h.ty1 ~idw0 ~jtAnd2 ~kcIn2 ~ltrue0 ~mgTup3 ~ngNil0 ~o%clues0 ~pbS3 ~q%floor0 ~rkList0 ~sba1 ~td.A1 ~u.Puzzle0 ~vaD3 ~wcV3 ~xjl0 ~ybx1 ~zpC3 ~Aa.NoMove0 ~BjT1 ~CaP1 ~DjS0 ~E%lines0 ~FeQ3 ~Gbz3 ~H.ref1 ~IkLenS1 ~J%words0 ~KkAll0 ~LlI0 ~MtNotV1 ~Nbv1 ~O%laws0 ~PkR0 ~Q%spots0 ~RjA2 ~S%rules0 ~Tg93 ~Ua0 ~Vdf3 ~WaT3 ~Xgh3 ~YkIsX1 ~ZxV4 ~*pA0 ~+bj3 ~-rIxL1 ~/mX1 ~:%cells0 ~;%amount0 ~?%mark0 ~[mm0 ~]rIsN0 ~^bB1 'acy0 'bow1 'ccT0 'dbQ1 'ecZ0 'f%tuple0 'g%given0 'hqN0 'irL1 'jbT1 'kbi1 'lcg1 'mtIf3 'nbI1 'obJ1 'pcRepL0 'qdc1 'rgSub3 'scPut0 'tgc1 'u%name0 'vmJ2 'w%number0 'xjW2 'y%sign0 'zmK2 'AbD3 'Blc0 'Ca.TooMany0 'DeY3 'EbU3 'FbV1 'GcG3 'HkMinD1 'Iiq3 'JiEnum2 'Kck1 'Lbw1 'MrNotN0 'NiStr1 'OgZ1 'Pvw1 'Qgl1 'R.Unlike0 'S.Sum0 'T.Rising0 'U.Seen0 'V.Count0 'W.Joined0 'X.NoSquare0 'Y.Ring0 'Zki2 '*jn1 '+gN2 '-kj2 '/%int0 ':%bool0 ';jo1 '?g72 '[gt1 ']c81 '^gn2 {ac91 {b%line0 {cpH2 {dkSum0 {eh91 {fie1 {gig1 {hhJ1 {iiU1 {jiV1 {kfN1 {lgu1 {miW1 {nfO1 {oj91 {pdb1 {qjG1 {rgw1 {siX1 {tiZip2 {ulV1 {vlW1 {wlX1 {xqz1 {ykAny0 {z%reckons0 {AfY2 {BcU1 {CbC1 {Dgy2 {EsR5 {FlF5 {GoR5 {HgO0 {IgP2 {Jil2 {Kip1 {Ldg1 {MkD3 {NfP3 {OoU4 {PfQ1 {QjX1 {RjY1 {Stu1 {Tge1 {UjK1 {Vgf1 {WxZ3 {XtDisp1 {YjL1 {ZjM1 {*uT3 {+nO3 {-gg3 {/jN3 {:uU4 {;kMax0 {?di4 {[dj4 {]dk4 {^dl4 }air4 }bdP4 }cdQ4 }dde1 }edR4 }ftTryI9 }ga.ClueError0 }ha.NoPuzzle0 }icA3 }jfR3 }kcB3 }lfS3 }mfU3 }nfV3 }ocC3 }pmn3 }qqj3 }rqk3 }sql3 }tmq3 }umr3 }vmw3 }wqm3 }xdB3 }yqo3 }zmB3 }Arj3 }Bcz3 }Crl3 }DoI3 }EbL3 }Frm3 }Grp3 }HoJ3 }Irq3 }JrA3 }KbK1 }LrB3".splitOn " "
def tbF:List String:="".splitOn " "
def run(s:String)(ts:Array Term):MacroM Syntax:=do
 let l:=s.toList
 let r:=l.head?==some ':'
 unless (r||(l.head?==some ';')) do Macro.throwUnsupported
 let (t,_)<-(dec (if r then `tVar else `pv) ts (if r then tbR else tbF) 500).run l.tail
 `(tactic|exact $t)
def W9(p:Prop):=p
theorem w9{p9:Prop}(h9:p9):W9 p9=True:=eq_true h9
theorem w8{p9:Prop}(h9:W9 p9):p9:=h9
end O9
section
local macro_rules|`(by%$k $t)=>if k.getTrailing?.any (·.toString=="\n ") then `(by refine @O9.w8 _ ?_;simp (disch:=k_dflt (refine @id _ ?_;($t))) only[↓O9.w9]) else Lean.Macro.throwUnsupported
local macro_rules|`(tactic|exists $ts,*)=>let a:=ts.getElems;match a[0]!.raw.isStrLit? with|some s=>O9.run s (a.extract 1 a.size)|none=>Lean.Macro.throwUnsupported
namespace L2
open PySem PySem.Spec PyProof.Rows
abbrev OF:=@List.length_map
abbrev OG:=@List.getElem?_eq_getElem
abbrev OH:=@List.getElem?_map
abbrev OI:=@Bool.false_ne_true
abbrev OJ:=@PySem.W.mg_of
abbrev OK:=@List.getElem?_eq_some_iff
abbrev OM:=@List.mem_cons
abbrev ON:=@List.mem_of_getElem?
abbrev OO:=@wpAny_bind
abbrev OP:=@List.mem_map
abbrev OQ:=@Nat.le_refl
abbrev OR:=@List.mem_singleton
abbrev OS:=@Heap.get?_push_of_some
abbrev OT:=@List.mem_cons_of_mem
abbrev OU:=@List.length_append
abbrev OV:=@List.mem_cons_self
abbrev OW:=@decide_eq_false
abbrev OX:=@List.size_toArray
abbrev OY:=@List.mem_append
abbrev OZ:=@Heap.lt_size
abbrev O0:=@if_neg
abbrev O3:=@decide_eq_true
abbrev O4:=@List.map_map
abbrev O5:=@List.mem_range
abbrev O6:=@if_pos
abbrev O7:=@Nat.le_trans
abbrev O8:=@List.getElem?_append_right
abbrev O9:=@List.getElem?_append_left
abbrev Pa:=@Int.emod_lt_of_pos
abbrev Pb:=@List.all_eq_true
abbrev Pe:=@Nat.lt_of_lt_of_le
abbrev Pf:=@wpAny_pure
abbrev Pg:=@PySem.F.plainAttrs_list
abbrev Ph:=@List.getElem?_eq_none
abbrev Pi:=@PySem.W.mg_none_of
abbrev Pj:=@Int.emod_nonneg
abbrev Pk:=@Heap.get?_push_size
abbrev Pl:=@List.map_congr_left
abbrev Pm:=@PyProof.Rows.callWith_type1
abbrev Pn:=@List.not_mem_nil
abbrev Po:=@Nat.ne_of_lt
abbrev Pp:=@decide_eq_true_eq
abbrev Pq:=@List.length_cons
abbrev Pr:=@List.map_cons
abbrev Ps:=@List.filter_append
abbrev Pt:=@List.getElem_mem
abbrev Pu:=@List.filterMap_cons
abbrev Pw:=@Bool.eq_iff_iff
abbrev Px:=@Array.getElem?_eq_getElem
abbrev Py:=@Nat.zero_le
abbrev Pz:=@List.filter_cons
abbrev PB:=@List.map_append
abbrev PC:=@List.getElem?_range
abbrev PD:=@Nat.le_of_lt
abbrev PF:=@wpAny_mono
abbrev PH:=@Heap.get?_update_other
abbrev PJ:=@List.ext_getElem
abbrev PK:=@Nat.lt_of_le_of_lt
abbrev PL:=@List.pairwise_cons
abbrev PM:=@List.mem_append_right
abbrev PN:=@List.length_replicate
abbrev PP:=@List.range_succ
abbrev PQ:=@PySem.W.hideAll_none
abbrev PR:=@List.take_of_length_le
abbrev PU:=@wpAny_Call_Name_kw
abbrev PV:=@List.length_take
abbrev PX:=@List.lookup_cons
abbrev PY:=@List.length_range
abbrev PZ:=@PySem.W.kia_one
abbrev P0:=@List.nodup_cons
abbrev P1:=@PassesOwn.never
abbrev P3:=@Nat.lt_irrefl
abbrev P4:=@PySem.F.slot_list_append
abbrev P5:=@PySem.F.type_list_append
abbrev P6:=@PySem.mem_of_lookup
abbrev P7:=@Calls.spliced_cons
abbrev P8:=@List.isPerm_iff
abbrev P9:=@Option.map_eq_some_iff
abbrev Qa:=@PySem.F.plainAttrs_str
abbrev Qb:=@PySem.W.hideAll_get
abbrev Qc:=@Array.length_toList
abbrev Qd:=@Nat.lt_succ_of_lt
abbrev Qe:=@List.length_filter_le
abbrev Qf:=@AutoSeq1.wpAny_loadPart'
abbrev Qg:=@or_false
abbrev Qh:=@Calls.spliced_nil
abbrev Qi:=@List.ext_getElem?
abbrev Qj:=@List.replicate_succ
abbrev Qk:=@Option.some.inj
abbrev Ql:=@List.mem_filter
abbrev Qm:=@wpAny_execs_nil
abbrev Qn:=@List.Pairwise.imp_of_mem
abbrev Qo:=@Nat.lt_or_ge
abbrev Qp:=@Heap.get?_none_of_le
abbrev Qq:=@List.mem_append_left
abbrev Qr:=@Heap.size_push
abbrev Qs:=@List.mem_iff_getElem
abbrev Qt:=@Int.mul_nonneg
abbrev Qu:=@wpAny_load'
abbrev Qv:=@wpAny_truthy_bool
abbrev Qw:=@List.pairwise_map
abbrev Qx:=@List.find?_cons
abbrev Qy:=@List.set_set
abbrev Qz:=@Nat.le_succ
abbrev QA:=@List.map_id
abbrev QB:=@Bool.and_eq_true
abbrev QC:=@F.plain_min_loop
abbrev QD:=@beq_iff_eq
abbrev QE:=@builtinLookup_eq_fast
abbrev QF:=@List.foldl_cons
abbrev QG:=@List.mem_of_mem_take
abbrev QH:=@of_decide_eq_true
abbrev QI:=@Around.under_plainId
abbrev QJ:=@List.any_cons
abbrev QK:=@PySem.F.slot_list_extend
abbrev QL:=@PySem.F.type_list_extend
abbrev QM:=@beq_eq_false_iff_ne
abbrev QN:=@Nat.lt_succ_self
abbrev QO:=@wpAny_getItem_str_slice
abbrev QP:=@List.nodup_nil
abbrev QQ:=@List.Perm.refl
abbrev QR:=@List.getElem_map
abbrev QS:=@MeetsSeq3.plain_eq_loop
abbrev QT:=@PySem.W.of_hideAll
abbrev QU:=@List.getElem?_set_self
abbrev QV:=@call_meets
abbrev QW:=@tupleKind_room_in1
abbrev QX:=@codeAny_builtin
abbrev QY:=@Nat.not_lt_zero
abbrev QZ:=@wpAny_holding
abbrev Q0:=@plainId_quiet
abbrev Q5:=@List.map_take
abbrev Q6:=@Heap.get?_update_self
abbrev Q7:=@PySem.F.slot_str_join
abbrev Q8:=@PySem.F.type_str_join
abbrev Q9:=@wpAny_pyIter_list
abbrev Ra:=@List.flatten_cons
abbrev Rb:=@List.append_assoc
abbrev Rc:=@List.nodup_append
abbrev Re:=@wpAny_loadPart_at
abbrev Rf:=@Nat.lt_trichotomy
abbrev Rg:=@PassesOwn.leaving
abbrev Rh:=@PySem.W.looks_findIn
abbrev Ri:=@List.take_succ
abbrev Rj:=@Array.getElem?_eq_some_iff
abbrev Rk:=@Ne.symm
abbrev Rl:=@wpAny_execs_cons
abbrev Rm:=@Nat.le_add_right
abbrev Rn:=@List.take_length
abbrev Ro:=@Nat.add_le_add_left
abbrev Rp:=@List.map_drop
abbrev Rq:=@wpAny_passesOwn
abbrev Rr:=@List.append_nil
abbrev Rs:=@typeLookup_type
abbrev Rt:=@List.getElem?_replicate
abbrev Ru:=@PySem.F.slot_list_clear
abbrev Rv:=@PySem.F.type_list_clear
abbrev Rw:=@Calls.callWith_builtin
abbrev Rx:=@Nat.succ_mul
abbrev Ry:=@Int.toNat_natCast
abbrev RA:=@PySem.F.slot_str_split
abbrev RB:=@PySem.F.type_str_split
abbrev RC:=@Array.getElem?_toList
abbrev RD:=@PySem.F.slot_dict_get
abbrev RE:=@F.typeOf_object_class
abbrev RF:=@PyProof.Rows.callWith_builtin1
abbrev RG:=@List.length_drop
abbrev RH:=@typeIs_str
abbrev RI:=@List.any_eq_true
abbrev RJ:=@List.getElem?_set_ne
abbrev RL:=@Calls.evalArgs_plain
abbrev RM:=@Nat.mul_le_mul_right
abbrev RN:=@List.mem_of_mem_drop
abbrev RO:=@pushCells_keeps
abbrev RP:=@post_val_or_str
abbrev RQ:=@wpAny_updateSeq
abbrev RS:=@PySem.W.plainGet_of
abbrev RT:=@ne_true_of_eq_false
abbrev RU:=@List.flatMap_append
abbrev RV:=@List.length_take_le
abbrev RW:=@Nat.ne_of_gt
abbrev RX:=@Array.append_assoc
abbrev RY:=@Calls.Name_function_global
abbrev RZ:=@wpAny_loadPart
abbrev R0:=@PySem.W.callWith_K
abbrev R1:=@F.args_str_split_2
abbrev R5:=@wpAny_seqItems
abbrev R6:=@List.getElem_idxOf
abbrev R7:=@wpAny_tryCatch
abbrev R8:=@List.pairwise_iff_getElem
abbrev R9:=@List.drop_eq_getElem_cons
abbrev Sa:=@List.take_sublist
abbrev Sb:=@Option.isSome_map
abbrev Sc:=@F.entry_str_split
abbrev Sd:=@wpAny_letGo
abbrev Se:=@Bool.not_eq_true'
abbrev Sf:=@Bool.eq_false_iff
abbrev Sg:=@wpAny_of_eq
abbrev Sh:=@List.foldl_append
abbrev Sk:=@List.all_cons
abbrev Sl:=@wpAny_comprehension_free
abbrev Sm:=@Nat.lt_succ_iff_lt_or_eq
abbrev Sn:=@PySem.F.args_dict_get_3
abbrev So:=@F.slot_str_split
abbrev Sq:=@Int.eq_ofNat_of_zero_le
abbrev Sr:=@Nat.min_eq_right
abbrev Ss:=@List.length_eq_zero_iff
abbrev Su:=@List.pairwise_mergeSort
abbrev Sv:=@List.mem_flatMap
abbrev Sw:=@MeetsSeq3.entry_eq_loop
abbrev Sx:=@F.entry_min_loop
abbrev Sy:=@codeAny_mono
abbrev Sz:=@PySem.W.cellsFrom_some
abbrev SA:=@List.map_nil
abbrev SB:=@subscriptTail_builtinR
abbrev SD:=@PySem.F.entry_dict_get
abbrev SE:=@Txt.slice_le
abbrev SF:=@List.length_pos_of_mem
abbrev SG:=@Int.zero_add
abbrev SH:=@Int.mul_comm
abbrev SI:=@wpAny_richCompare_same
abbrev SJ:=@Array.getElem?_eq_none
abbrev SK:=@richCompare_meets_room
abbrev SL:=@Nat.lt_of_succ_lt_succ
abbrev SM:=@List.of_mem_zip
abbrev SN:=@List.length_nil
abbrev SO:=@Bool.or_eq_true
abbrev SQ:=@List.length_set
abbrev SR:=@Nat.min_eq_left
abbrev SS:=@Moved.then_heap
abbrev ST:=@List.length_singleton
abbrev SU:=@Nat.le_of_ble_eq_true
abbrev SV:=@List.Perm.append_left
abbrev SW:=@PySem.F.slot_list_pop
abbrev SX:=@PySem.F.type_list_pop
abbrev SY:=@wpAny_Expr_any
abbrev SZ:=@Bool.false_and
abbrev S0:=@sizeLine_eq
abbrev S1:=@Int.mul_le_mul
abbrev S3:=@Nat.mul_le_mul
abbrev S4:=@wpAny_ite_true
abbrev S5:=@wpAny_field
abbrev S6:=@Paired.length
abbrev S7:=@wpAny_standAt
abbrev S8:=@F.slot_gs_get
abbrev S9:=@Bool.true_and
abbrev Ta:=@Bool.and_self
abbrev Tb:=@boot_range
abbrev Tc:=@Walks.list
abbrev Te:=@Nat.lt_trans
abbrev Tf:=@Int.ne_of_gt
abbrev Th:=@Int.ne_of_lt
abbrev Ti:=@if_true
abbrev Key:=Sum Int Str
def keyIs:Key->Value->Bool
 | .inl k,v=>Value.isInt k v
 | .inr x,v=>Value.isStrOf x v
def keyH(w:World):Key->Int
 | .inl k=>hashInt k
 | .inr x=>hashStr w x
theorem cm:∀{k:Key} {v:Value},keyIs k v=true->(∃ i t,k=Sum.inl i/\v=Value.int i t)\/(∃ x t,k=Sum.inr x/\v=Value.str x t)
 | .inl i,v,h=>by
  obtain⟨t,e⟩:=Value.isInt_shape (k:=i) (v:=v) h;exact .inl ⟨i,t,rfl,e⟩
 | .inr x,v,h=>by
  obtain⟨t,e⟩:=Value.isStrOf_shape (x:=x) (v:=v) h;exact .inr ⟨x,t,rfl,e⟩
theorem A9(i:Int)(t:Tok):keyIs (.inl i) (.int i t)=true:=by simp[keyIs,Value.isInt]
theorem Ba(x:Str)(t:Tok):keyIs (.inr x) (.str x t)=true:=by simp[keyIs,Value.isStrOf]
theorem E6(a b:Int):decide ((Sum.inl a:Key)=Sum.inl b)=(a==b):=by
 by_cases e:a=b
 . subst e;simp
 . have h:¬ (Sum.inl a:Key)=Sum.inl b:=λq=>e (Sum.inl.inj q);rw[OW h];exact(QM.mpr e).symm
theorem E7(a b:Str):decide ((Sum.inr a:Key)=Sum.inr b)=decide (a=b):=by
 by_cases e:a=b
 . subst e;simp
 . have h:¬ (Sum.inr a:Key)=Sum.inr b:=λq=>e (Sum.inr.inj q);rw[OW h,OW e]
theorem E8(a:Int)(b:Str):decide ((Sum.inl a:Key)=Sum.inr b)=false:=OW (λq=>nomatch q)
theorem E9(a:Str)(b:Int):decide ((Sum.inr a:Key)=Sum.inl b)=false:=OW (λq=>nomatch q)
def bE(prog:Program)(w:World):PySem.KeyKind prog w Key where
 is:=keyIs
 hash:=keyH w
 inj:=λv a b ha hb=>by
  rcases cm ha with ⟨i,t,rfl,rfl⟩ | ⟨x,t,rfl,rfl⟩
  . rcases cm hb with ⟨j,u,rfl,e⟩ | ⟨y,u,rfl,e⟩
    . injection e with e1 _;rw[e1]
    . exact nomatch e
  . rcases cm hb with ⟨j,u,rfl,e⟩ | ⟨y,u,rfl,e⟩
    . exact nomatch e
    . injection e with e1 _;rw[e1]
 byValue:=λk v h=>by
  rcases cm h with ⟨i,t,rfl,rfl⟩ | ⟨x,t,rfl,rfl⟩ <;> rfl
 pyHash:=λhv h=>by
  rcases cm hv with ⟨i,t,rfl,rfl⟩ | ⟨x,t,rfl,rfl⟩
  . exact wpAny_pyHash_int h
  . exact wpAny_pyHash_str h
 eqBool:=λhu hv h=>by
  rcases cm hu with ⟨i,t,rfl,rfl⟩ | ⟨x,t,rfl,rfl⟩
  . rcases cm hv with ⟨j,u,rfl,rfl⟩ | ⟨y,u,rfl,rfl⟩
    . rw[E6]at h;exact wpAny_eqBool_int h
    . rw[E8]at h;exact SeqAt.EqAt.int_str i t y u _ _ _ _ h
  . rcases cm hv with ⟨j,u,rfl,rfl⟩ | ⟨y,u,rfl,rfl⟩
    . rw[E9]at h;exact SeqAt.EqAt.str_int x t j u _ _ _ _ h
    . rw[E7]at h;exact wpAny_eqBool_str h
 «strs»:=λk x t v h=>by
  rcases cm h with ⟨i,u,rfl,e⟩ | ⟨y,u,rfl,e⟩
  . exact nomatch e
  . injection e with e1 _;subst e1;cases v <;> rfl
theorem zt(prog:Program)(w:World)(i:Int)(t:Tok):(bE prog w).is (.inl i) (.int i t)=true:=A9 i t
theorem zu(prog:Program)(w:World)(x:Str)(t:Tok):(bE prog w).is (.inr x) (.str x t)=true:=Ba x t
inductive V where
 | non | bl (b:Bool) | int (i:Int) | str (x:Str) | byt (b:Array UInt8) | flt (b:UInt64) | ref (a:Addr) | ty (n:String)
 deriving DecidableEq
def RelV:V->Value->Prop
 | .non,u=>u=Value.none
 | .bl b,u=>u=Value.bool b
 | .int i,u=>∃ t,u=Value.int i t
 | .str x,u=>∃ t,u=Value.str x t
 | .byt b,u=>∃ t,u=Value.bytes b t
 | .flt b,u=>∃ t,u=Value.float b t
 | .ref a,u=>u=Value.ref a
 | .ty n,u=>u=Value.type n
abbrev Vals:List V->List Value->Prop:=Paired RelV
theorem Vals.length{xs:List V}{us:List Value}(r:Vals xs us):xs.length=us.length:=S6 r
theorem Vals.get:∀{xs:List V} {us:List Value} {i:Nat} {x:V},Vals xs us->xs[i]? =some x->∃ u,us[i]? =some u/\RelV x u
 | _,_,_,_,.nil,e=>by simp at e
 | _,_,0,_,.cons r _,e=>by simp at e;subst e;exact⟨_,rfl,r⟩
 | _,_,i+1,x,.cons _ t,e=>by
  obtain⟨u,h1,h2⟩:=Vals.get (i:=i) (x:=x) t (by simpa using e);exact⟨u,by simpa using h1,h2⟩
theorem Vals.append:∀{xs ys:List V} {us ws:List Value},Vals xs us->Vals ys ws->Vals (xs++ys) (us++ws)
 | _,_,_,_,.nil,s=>s
 | _,_,_,_,.cons r t,s=>.cons r (Vals.append t s)
theorem Vals.take:∀{xs:List V} {us:List Value} (n:Nat),Vals xs us->Vals (xs.take n) (us.take n)
 | _,_,0,_=>.nil
 | _,_,_+1,.nil=>.nil
 | _,_,n+1,.cons r t=>.cons r (Vals.take n t)
theorem Vals.drop:∀{xs:List V} {us:List Value} (n:Nat),Vals xs us->Vals (xs.drop n) (us.drop n)
 | _,_,0,r=>r
 | _,_,_+1,.nil=>.nil
 | _,_,n+1,.cons _ t=>Vals.drop n t
def RelO:Option V->Option Value->Prop
 | some v,some u=>RelV v u
 | none,none=>True
 | _,_=>False
def KV{κ:Type}:List (κ × V)->List (κ × Value)->Prop:=Paired λ(p:κ × V) (q:κ × Value)=>p.1=q.1/\RelV p.2 q.2
def kV:Key->V
 | .inl i=>.int i
 | .inr x=>.str x
inductive HO where
  | lst (xs:List V)
  | tup (xs:List V)
  | dK (Oz:List (Key × V)) | dT (Oz:List (List Key × V))
  | set (S:Int->Bool) (n:Nat)
  | ins (C dx:Addr) (fs:List (Str × V))
  | own (x:Addr)
  | xd (fs:List (Str × V))
  | met (f x:Addr)
  | rng (lo hi:Int)
  | frz (o:Obj) (u:HO)
  | tbl (ps:Array Value)
  | ext (φ:Heap->Prop)
abbrev Hp:=Addr->Option HO
def upd(H:Hp)(a:Addr)(o:HO):Hp:=λb=>if b=a then some o else H b
variable{H:Hp}{a:Addr}{o:HO}
theorem ag:upd H a o a=some o:=by unfold upd;rw[O6 rfl]
variable{b:Addr}
theorem ah(h:b≠a):upd H a o b=H b:=by unfold upd;rw[O0 h]
theorem Gk{u:HO}(h:H a=some o)(h':H b=some u)(d:o≠u):a≠b:=by
 intro e;subst e;rw[h]at h';exact d (Qk h')
theorem ar(h:H a=some o)(h':H b=none):a≠b:=by
 intro e;subst e;rw[h]at h';cases h'
section
variable(P:Program)(w:World)
def ObjOk(H:Hp)(h:Heap)(a:Addr):HO->Prop
 | .lst xs=>xs.length<=sizeLine/\∃(OA:List Value) (n:Nat),Vals xs OA/\h.get? a=some {cls:=.type "list",data:=.seq OA.toArray n}
 | .tup xs=>xs.length<=sizeLine/\∃ OA:List Value,Vals xs OA/\IsTup h a OA.toArray
 | .dK Oz=>Oz.length<=sizeLine/\(a==sysModules)=false/\∃ vs,KV Oz vs/\h.DictOf (bE P w) a vs
 | .dT Oz=>Oz.length<=sizeLine/\(a==sysModules)=false/\∃ xs:List (List Key × Addr × Value),
   Paired (λ(p:List Key × V) (q:List Key × Addr × Value)=>p.1=q.1/\H q.2.1=some (.tup (p.1.map kV))/\RelV p.2 q.2.2) Oz xs/\
   ∃ o es ep,h.get? a=some o/\o.ExactDict/\o.data=.dict es ep/\es.toList=xs.map (entryOfKey (tupleKind (bE P w)))/\(xs.map (·.1)).Nodup
 | .set S n=>h.SetOf (intKind P w) a S n
 | .ins C dx fs=>H dx=some (.own a)/\fs.length<=1000/\dx≠a/\h.get? a=some (PySem.W.instObj C dx)/\
   ∃ mA,h.Ns1 dx mA/\(∀ f,RelO (fs.lookup f) (mA f))/\PySem.Within mA (fs.map (·.1))
 | .own _=>∃ o,h.get? a=some o
 | .xd fs=>∃ mA,h.Ns1 a mA/\∀ f,RelO (fs.lookup f) (mA f)
 | .rng lo hi=>∃ t u v,h.get? a=some {cls:=.type "range",data:=.fields #[.int lo t,.int hi u,.int 1 v]}
 | .frz o u=>h.get? a=some o/\ObjOk H h a u
 | .tbl ps=>h.get? a=some {cls:=.none,data:=.fields ps}
 | .met f x=>h.get? a=some (PySem.W.methodObj (.ref f) (.ref x))
 | .ext φ=>φ h/\(∃ o,h.get? a=some o)/\∀ h1 h2:Heap,φ h1->(∀ o,h1.get? a=some o->h2.get? a=some o)->φ h2
def HOk(H:Hp)(h:Heap):Prop:=∀ a o,H a=some o->ObjOk P w H h a o
end
section
variable{P:Program}{w:World}{H H':Hp}{h h':Heap}{a:Addr}{o:HO}
theorem ObjOk.lt(x:ObjOk P w H h a o):a<h.objs.size:=by
 cases o with
 | lst xs=>obtain⟨_,_,_,_,e⟩:=x;exact OZ e
 | tup xs=>obtain⟨_,_,_,p⟩:=x;exact p.lt
 | dK Oz=>obtain⟨_,_,_,_,o,_,_,e,_⟩:=x;exact OZ e
 | dT Oz=>obtain⟨_,_,_,_,o,_,_,e,_⟩:=x;exact OZ e
 | set S n=>obtain⟨o,_,_,_,e,_⟩:=x;exact OZ e
 | ins C dx fs=>obtain⟨_,_,_,e,_⟩:=x;exact OZ e
 | own y=>obtain⟨_,e⟩:=x;exact OZ e
 | xd fs=>obtain⟨_,⟨_,_,_,e,_⟩,_⟩:=x;exact OZ e
 | rng lo hi=>obtain⟨_,_,_,e⟩:=x;exact OZ e
 | frz ob u=>obtain⟨e,_⟩:=x;exact OZ e
 | tbl ps=>exact OZ (show h.get? a=some _ from x)
 | met f y=>exact OZ (show h.get? a=some _ from x)
 | ext φ=>obtain⟨_,⟨_,e⟩,_⟩:=x;exact OZ e
theorem Paired.mapP{α β:Type}{F G:α->β->Prop}:∀{l₁:List α} {l₂:List β},Paired F l₁ l₂->(∀ a b,F a b->G a b)->Paired G l₁ l₂
 | _,_,.nil,_=>.nil
 | _,_,.cons r t,f=>.cons (f _ _ r) (Paired.mapP t f)
theorem ObjOk.stay (x:ObjOk P w H h a o) (k:∀ b u,(b=a\/H b=some (.own a))->h.get? b=some u->h'.get? b=some u)
  (ho:∀ b,H b=some (.own a)->H' b=some (.own a)) (ht:∀ b xs,H b=some (.tup xs)->H' b=some (.tup xs)):ObjOk P w H' h' a o:=by
 induction o with
 | lst xs=>obtain⟨z,OA,n,r,e⟩:=x;exact⟨z,OA,n,r,k _ _ (.inl rfl) e⟩
 | tup xs=>obtain⟨z,OA,r,ob,e,c⟩:=x;exact⟨z,OA,r,ob,k _ _ (.inl rfl) e,c⟩
 | dK Oz=>obtain⟨z,y,vs,r,ob,es,ep,e,c⟩:=x;exact⟨z,y,vs,r,ob,es,ep,k _ _ (.inl rfl) e,c⟩
 | dT Oz=>
  obtain⟨z,y,xs,r,ob,es,ep,e,c⟩:=x;exact⟨z,y,xs,Paired.mapP r λp q z=>⟨z.1,ht _ _ z.2.1,z.2.2⟩,ob,es,ep,k _ _ (.inl rfl) e,c⟩
 | set S n=>obtain⟨ob,es,ep,t,e,c⟩:=x;exact⟨ob,es,ep,t,k _ _ (.inl rfl) e,c⟩
 | ins C dx fs=>
  obtain⟨d,z,ne,e,mA,⟨od,es,ep,e2,c⟩,r⟩:=x;exact⟨ho _ d,z,ne,k _ _ (.inl rfl) e,mA,⟨od,es,ep,k _ _ (.inr d) e2,c⟩,r⟩
 | own y=>obtain⟨ob,e⟩:=x;exact⟨ob,k _ _ (.inl rfl) e⟩
 | xd fs=>obtain⟨mA,⟨od,es,ep,e,c⟩,r⟩:=x;exact⟨mA,⟨od,es,ep,k _ _ (.inl rfl) e,c⟩,r⟩
 | rng lo hi=>obtain⟨t,u,v,e⟩:=x;exact⟨t,u,v,k _ _ (.inl rfl) e⟩
 | frz ob u ih=>obtain⟨e,q⟩:=x;exact⟨k _ _ (.inl rfl) e,ih q⟩
 | tbl ps=>
  have e:h.get? a=some {cls:=.none,data:=.fields ps}:=x;show h'.get? a=some {cls:=.none,data:=.fields ps};exact k a _ (.inl rfl) e
 | met f y=>
  have e:h.get? a=some (PySem.W.methodObj (.ref f) (.ref y)):=x;show h'.get? a=some (PySem.W.methodObj (.ref f) (.ref y));exact k a _ (.inl rfl) e
 | ext φ=>obtain⟨p,⟨o,e⟩,st⟩:=x;exact⟨st _ _ p λo q=>k _ _ (.inl rfl) q,⟨o,k _ _ (.inl rfl) e⟩,st⟩
theorem HOk.lt(x:HOk P w H h)(e:H a=some o):a<h.objs.size:=(x a o e).lt
theorem HOk.fresh(x:HOk P w H h)(e:h.objs.size<=a):H a=none:=by
 cases q:H a with
 | none=>rfl
 | some u=>exact absurd (Pe (x.lt q) e) (P3 _)
theorem HOk.kept(x:HOk P w H h)(k:∀ b u,h.get? b=some u->h'.get? b=some u):HOk P w H h':=λa o e=>
 (x a o e).stay (λb u _ q=>k b u q) (λ_ q=>q) λ_ _ q=>q
theorem HOk.laid(x:HOk P w H h)(k:∀ b u,h.get? b=some u->h'.get? b=some u)(hp:h.objs.size<=a)(new:ObjOk P w (upd H a o) h' a o):HOk P w (upd H a o) h':=λb u e=>by
 have hn:=x.fresh hp;by_cases hb:b=a
 . subst hb;rw[ag]at e;cases e;exact new
 . rw[ah hb]at e;exact(x b u e).stay (λc v _ q=>k c v q) (λc q=>by rw[ah (ar q hn)];exact q) λc xs q=>by rw[ah (ar q hn)];exact q
end
def Rd(H:Hp)(a:Addr)(u:HO):Prop:=H a=some u\/∃ o,H a=some (.frz o u)
variable{h:Heap}
theorem Rd.ok{P:Program}{w:World}{u:HO}(r:Rd H a u)(x:HOk P w H h):ObjOk P w H h a u:=by
 rcases r with r | ⟨o,r⟩
 . exact x a u r
 . obtain⟨_,q⟩:=x a _ r;exact q
def Mut:Option HO->Prop
 | some (.lst _)=>True
 | some (.dK _)=>True
 | some (.dT _)=>True
 | some (.set _ _)=>True
 | some (.ins _ _ _)=>True
 | some (.ext _)=>True
 | _=>False
section
variable{P:Program}{w:World}{H:Hp}{h h':Heap}{x e:Addr}{o':HO}
theorem HOk.write (ok:HOk P w H h) (mu:Mut (H x)) (he:e=x\/H e=some (.own x)) (k:∀ b u,b≠e->h.get? b=some u->h'.get? b=some u) (heo:∃ u,h'.get? e=some u)
  (new:ObjOk P w (upd H x o') h' x o'):HOk P w (upd H x o') h':=λb u q=>by
 have nown:∀ c y,H c=some (.own y)->c≠x:=λc y r z=>by subst z;rw[r]at mu;exact mu
 have ntup:∀ c xs,H c=some (.tup xs)->c≠x:=λc xs r z=>by subst z;rw[r]at mu;exact mu
 by_cases hb:b=x
 . subst hb;rw[ag]at q;cases q;exact new
 . rw[ah hb]at q;by_cases hbe:b=e
   . have q':H b=some (.own x):=by
      rcases he with z | z
      . exact absurd (hbe.trans z) hb
      . rw[hbe];exact z
     rw[q]at q';cases q';obtain⟨v,hv⟩:=heo;exact⟨v,by rw[hbe];exact hv⟩
   . refine(ok b u q).stay (λc v hc r=>k c v ?_ r) (λc r=>by rw[ah (nown c b r)];exact r) λc xs r=>by rw[ah (ntup c xs r)];exact r
     rcases hc with rfl | hc
     . exact hbe
     . rintro rfl;rcases he with z | z
       . exact nown c b hc z
       . rw[hc]at z;cases z;exact hb rfl
end
structure Un(fs ex:List Addr)(H H':Hp)(h h':Heap):Prop where
 keep:∀ b o,h.get? b=some o->H b=none->b∉fs->b∉ex->h'.get? b=some o
 slot:∀ b o,h.get? b=some o->H b=none->b∈fs->b∉ex->∃ sl,h'.get? b=some {o with slots:=sl}
 free:∀ b o,h.get? b=some o->H b=none->b∉ex->H' b=none
 there:∀ b o,h.get? b=some o->b∉ex->∃ o',h'.get? b=some o'
 tups:∀ b xs,H b=some (.tup xs)->H' b=some (.tup xs)
 frzs:∀ b o u,H b=some (.frz o u)->H' b=some (.frz o u)
 tbls:∀ b ps,H b=some (.tbl ps)->∃ more,H' b=some (.tbl (ps++more))
section
variable{fs fs' ex ex':List Addr}{H H1 H2:Hp}{h h1 h2 h':Heap}{a x e:Addr}{o:HO}
theorem Un.any(u:Un fs ex H H1 h h1){b:Addr}{ob:Obj}(q:h.get? b=some ob)(n:H b=none)(hx:b∉ex):∃ sl,h1.get? b=some {ob with slots:=sl}:=by
 by_cases hb:b∈fs
 . exact u.slot b ob q n hb hx
 . exact⟨ob.slots,u.keep b ob q n hb hx⟩
theorem Un.trans(a:Un fs ex H H1 h h1)(b:Un fs ex H1 H2 h1 h2):Un fs ex H H2 h h2 where
 keep:=λc ob q n hc hx=>b.keep c ob (a.keep c ob q n hc hx) (a.free c ob q n hx) hc hx
 slot:=λc ob q n hc hx=>by
  obtain⟨sl,e1⟩:=a.slot c ob q n hc hx;obtain⟨sl',e2⟩:=b.slot c _ e1 (a.free c ob q n hx) hc hx;exact⟨sl',e2⟩
 free:=λc ob q n hx=>by
  obtain⟨o',e1⟩:=a.there c ob q hx;exact b.free c o' e1 (a.free c ob q n hx) hx
 there:=λc ob q hx=>by
  obtain⟨o',e1⟩:=a.there c ob q hx;exact b.there c o' e1 hx
 tups:=λc xs q=>b.tups c xs (a.tups c xs q)
 frzs:=λc ob xs q=>b.frzs c ob xs (a.frzs c ob xs q)
 tbls:=λc ps q=>by
  obtain⟨m1,e1⟩:=a.tbls c ps q;obtain⟨m2,e2⟩:=b.tbls c _ e1;exact⟨m1++m2,by rw[e2,RX]⟩
theorem Un.kept(k:∀ b u,h.get? b=some u->h'.get? b=some u):Un fs ex H H h h':=
 ⟨λb ob q _ _ _=>k b ob q,λb ob q _ _ _=>⟨ob.slots,k b ob q⟩,λ_ _ _ n _=>n,λb ob q _=>⟨ob,k b ob q⟩,λ_ _ q=>q,λ_ _ _ q=>q,λ_ ps q=>⟨#[],by rw[q];simp⟩⟩
theorem Un.refl:Un fs ex H H h h:=Un.kept λ_ _ q=>q
theorem Un.laid(k:∀ b u,h.get? b=some u->h'.get? b=some u)(hp:h.objs.size<=a)(hn:H a=none):Un fs ex H (upd H a o) h h' where
 keep:=λb u q _ _ _=>k b u q
 slot:=λb u q _ _ _=>⟨u.slots,k b u q⟩
 free:=λb u q n _=>by rw[ah (Po (Pe (OZ q) hp))];exact n
 there:=λb u q _=>⟨u,k b u q⟩
 tups:=λb xs q=>by rw[ah (ar q hn)];exact q
 frzs:=λb u xs q=>by rw[ah (ar q hn)];exact q
 tbls:=λb ps q=>⟨#[],by rw[ah (ar q hn),q];simp⟩
theorem Un.write(mu:Mut (H x))(he:e=x\/H e=some (.own x))(k:∀ b u,b≠e->h.get? b=some u->h'.get? b=some u)(heo:∃ u,h'.get? e=some u):Un fs ex H (upd H x o) h h':=by
 have hx:∀ b,H b=none->b≠x:=λb n z=>by subst z;rw[n]at mu;exact mu
 have hb:∀ b,H b=none->b≠e:=λb n z=>by
  subst z;rcases he with r | r
  . exact hx b n r
  . rw[n]at r;cases r
 have hm:∀ b u,H b=some u->¬ Mut (some u)->b≠x:=λb u q nm z=>by subst z;rw[q]at mu;exact nm mu
 refine⟨λb u q n _ _=>k b u (hb b n) q,λb u q n _ _=>⟨u.slots,k b u (hb b n) q⟩,λb u q n _=>by rw[ah (hx b n)];exact n,λb u q _=>?_,
  λb xs q=>by rw[ah (hm b _ q λz=>z)];exact q,λb u xs q=>by rw[ah (hm b _ q λz=>z)];exact q,λb ps q=>⟨#[],by rw[ah (hm b _ q λz=>z),q];simp⟩⟩
 by_cases hbe:b=e
 . subst hbe;exact heo
 . exact⟨u,k b u hbe q⟩
theorem Un.mono(u:Un fs ex H H1 h h1)(hs:∀ b∈fs,b∈fs')(hx:∀ b∈ex,b∈ex'):Un fs' ex' H H1 h h1:=
 ⟨λb ob q n hb he=>u.keep b ob q n (λz=>hb (hs b z)) λz=>he (hx b z),λ_ _ q n _ he=>u.any q n λz=>he (hx _ z),λb ob q n he=>u.free b ob q n λz=>he (hx b z),λb ob q he=>u.there b ob q λz=>he (hx b z),u.tups,u.frzs,u.tbls⟩
end
def trk(h:Heap)(H:Hp):List Addr:=(List.range h.objs.size).filter λa=>(H a).isSome
def hidT(h:Heap)(H:Hp):Heap:=PySem.W.hideAll h (trk h H)
theorem Bb(h:Heap)(H:Hp):(hidT h H).objs.size=h.objs.size:=PySem.W.hideAll_size _ _
theorem CP{o:Obj}(e:h.get? b=some o)(n:H b=none):(hidT h H).get? b=some o:=
 Qb _ e λhm=>by
  have q:(H b).isSome=true:=(Ql.mp hm).2;rw[n]at q;simp at q
theorem D8{o:Obj}(e:(hidT h H).get? b=some o):h.get? b=some o/\H b=none:=by
 have e':h.get? b=some o:=QT (trk h H) e;refine⟨e',?_⟩
 cases q:H b with
 | none=>rfl
 | some x=>
  have hm:b∈trk h H:=Ql.mpr ⟨O5.mpr (OZ e'),by simp[q]⟩;have z:(hidT h H).get? b=none:=PQ (trk h H) hm;rw[z]at e;cases e
structure Mod(K:Frag)(mg:Str->Option Value)(base:Heap):Prop where
 kin:K.In base
 glob:base.Ns mainGlobals mg
 blt:∃ mb,base.Ns builtinsNs mb/\∀ x:Str,x≠"__name__"->mb x=bootBuiltins x
 nolimit:base.NoLimit
structure Cx where
 prog:Program
 w:World
 K:Frag
 mg:Str->Option Value
 base:Heap
 A:Around
 N:List Str
 s₀:Shared
 H₀:Hp
 env:Env
 outer:List Env
 stack:List Env
 ex:List Addr
 fn:Str->Bool
 calm:Bool
 pn:List (Addr × Obj)
 xe:Value->Shared->Prop
def frs(l:List Env):List Addr:=l.filterMap (·.frame)
abbrev Cx.fs(X:Cx):List Addr:=frs X.outer
def Vis(sc:Scope)(x:Str):Prop:=sc.names.lookup x=some .local\/sc.names.lookup x=some .cell\/sc.names.lookup x=some .free
def Loc(sc:Scope)(x:Str):Prop:=sc.names.lookup x=some .local\/sc.names.lookup x=some .cell
def Look(env:Env)(h:Heap)(m:Str->Option Value)(x:Str)(u:Value):Prop:=
 (env.kindOf x=some .local/\m x=some u)\/((env.kindOf x=some .cell\/env.kindOf x=some .free)/\∃ c,env.cells.lookup x=some c/\h.IsCell c (some u))
structure Cx.Ok(X:Cx):Prop where
 mod:Mod X.K X.mg X.base
 kind:X.env.scope.kind=.function
 glob:X.env.globals=mainGlobals
 blt:X.env.builtins=builtinsNs
 above:X.s₀.heap.objs.size<=X.env.locals
 inj:∀ x y c,X.env.cells.lookup x=some c->X.env.cells.lookup y=some c->x=y
 has:∀ x,(X.env.kindOf x=some .cell\/X.env.kindOf x=some .free)->∃ c,X.env.cells.lookup x=some c
 cab:∀ x c,X.fn x=true->X.env.cells.lookup x=some c->X.s₀.heap.objs.size<=c
 hd:X.calm=true->X.A.handled=none
 frames:X.A.frames=some X.stack
 stk:X.stack=X.outer\/(X.stack=X.env::X.outer/\X.env.frame=some X.env.locals)
 exf:∀ b∈X.ex,b≠X.env.locals/\∀ x c,X.env.cells.lookup x=some c->c≠b
 bs:∀ b o,X.base.get? b=some o->X.s₀.heap.get? b=some o/\X.H₀ b=none
 bsz:X.base.objs.size<=X.s₀.heap.objs.size
 noex:∀ b o,X.base.get? b=some o->b∉X.ex
 exfs:∀ b∈X.ex,b∉X.fs
 funs:X.s₀.heap.FunFrames X.base X.outer
 frf:∀ b∈X.fs,X.H₀ b=none
structure Inv(X:Cx)(Ox:List (Addr × Obj))(σ:List (Option V))(H:Hp)(s:Shared):Prop where
 ok:X.Ok
 os:s.os=X.s₀.os
 bare:AllBare s.gens
 base:Un X.fs X.ex X.H₀ H X.s₀.heap s.heap
 loc:∃ m,s.heap.Ns X.env.locals m/\∀(i:Nat) (x:Str) (v:V),X.N[i]? =some x->σ[i]? =some (some v)->Vis X.env.scope x->∃ u,RelV v u/\Look X.env s.heap m x u
 cell:∀ x c,X.env.cells.lookup x=some c->∃ v,s.heap.IsCell c v
 free:H X.env.locals=none
 freeC:∀ x c,X.env.cells.lookup x=some c->H c=none
 pin:∀ p∈X.pn++Ox,s.heap.get? p.1=some p.2/\H p.1=none/\p.1≠X.env.locals/\p.1∉X.fs/\∀ v,p.2.data≠.cell v
 hok:HOk X.prog X.w H s.heap
 len:σ.length=X.N.length
section
variable{X:Cx}{Ox:List (Addr × Obj)}{σ:List (Option V)}{H H':Hp}{s:Shared}{h':Heap}
theorem Cx.Ok.nofr(ok:X.Ok){b:Addr}{o:Obj}(e:X.base.get? b=some o):b∉X.fs:=λhb=>by
 have:=(ok.funs.mem hb).1;rw[e]at this;cases this
theorem Inv.bs(I:Inv X Ox σ H s):∀ b o,X.base.get? b=some o->s.heap.get? b=some o/\H b=none:=λb o e=>
 ⟨I.base.keep b o (I.ok.bs b o e).1 (I.ok.bs b o e).2 (I.ok.nofr e) (I.ok.noex b o e),I.base.free b o (I.ok.bs b o e).1 (I.ok.bs b o e).2 (I.ok.noex b o e)⟩
theorem Inv.bk(I:Inv X Ox σ H s):∀ b o,X.base.get? b=some o->s.heap.get? b=some o:=λb o e=>(I.bs b o e).1
theorem Inv.mod(I:Inv X Ox σ H s):Mod X.K X.mg X.base:=I.ok.mod
theorem Inv.kIn(I:Inv X Ox σ H s):X.K.In s.heap:=I.ok.mod.kin.keeps I.bk
theorem Inv.lt(I:Inv X Ox σ H s):X.env.locals<s.heap.objs.size:=let ⟨_,hn,_⟩:=I.loc;hn.lt
theorem Inv.sz(I:Inv X Ox σ H s):X.s₀.heap.objs.size<=s.heap.objs.size:=O7 I.ok.above (PD I.lt)
theorem Inv.nofs(I:Inv X Ox σ H s){a:Addr}(h:s.heap.objs.size<=a):a∉X.fs:=λhb=>by
 obtain⟨_,o,ho,_⟩:=I.ok.funs.mem hb;exact absurd (Pe (OZ ho) (O7 I.sz h)) (P3 _)
theorem Inv.cne(I:Inv X Ox σ H s):∀ x c,X.env.cells.lookup x=some c->c≠X.env.locals:=λx c e z=>by
 obtain⟨v,o,ho,hd⟩:=I.cell x c e;obtain⟨m,⟨o',es,ep,ho',hd',_⟩,_⟩:=I.loc;rw[z,ho']at ho;cases ho;rw[hd']at hd;cases hd
theorem Inv.funs(I:Inv X Ox σ H s):s.heap.FunFrames X.base X.outer:=by
 have all:∀(l:List Env),(∀ b∈frs l,b∈X.fs)->X.s₀.heap.FunFrames X.base l->s.heap.FunFrames X.base l:=by
  intro l
  induction l with
  | nil=>intro _ _;trivial
  | cons env r ih=>
   intro hs hl;obtain⟨hk,⟨L,o,hf,hn,ho,hd⟩,hr⟩:=hl;have hL:L∈X.fs:=hs L (by unfold frs;rw[Pu,hf];exact OV);obtain⟨sl,e⟩:=I.base.slot L o ho (I.ok.frf L hL) hL λz=>I.ok.exfs L z hL;exact⟨hk,⟨L,_,hf,hn,e,hd⟩,ih (λb hb=>hs b (by unfold frs;rw[Pu,hf];exact OT _ hb)) hr⟩
 exact all X.outer (λ_ hb=>hb) I.ok.funs
theorem Inv.stack(I:Inv X Ox σ H s):s.heap.FunFrames X.base X.stack:=by
 rcases I.ok.stk with e | ⟨e,hf⟩
 . rw[e];exact I.funs
 . rw[e];obtain⟨m,hn,_⟩:=I.loc;refine .cons (by rw[I.ok.kind];decide) hf hn ?_ I.funs;exact Qp (O7 I.ok.bsz I.ok.above)
theorem Inv.stkSub(I:Inv X Ox σ H s):∀ b∈frs X.stack,b∈X.env.locals::X.fs:=λb hb=>by
 rcases I.ok.stk with e | ⟨e,hf⟩
 . rw[e]at hb;exact OT _ hb
 . rw[e]at hb;unfold frs at hb;rw[Pu,hf]at hb;exact hb
theorem Inv.stkFree(I:Inv X Ox σ H s):∀ b∈frs X.stack,H b=none:=λb hb=>by
 rcases OM.mp (I.stkSub b hb) with e | hb
 . rw[e];exact I.free
 . obtain⟨_,o,ho,_⟩:=I.ok.funs.mem hb;exact I.base.free b o ho (I.ok.frf b hb) λz=>I.ok.exfs b z hb
theorem Inv.step {g':Array GenState} {t':Nat} {d':Drawn} {ch:List Addr} (I:Inv X Ox σ H s)
  (hch:∀ b∈ch,(b∈X.ex\/X.s₀.heap.objs.size<=b)/\b≠X.env.locals/\(∀ x c,X.env.cells.lookup x=some c->c≠b)/\∀ p∈X.pn++Ox,p.1≠b)
  (keep:∀ b o,b≠X.env.locals->b∉X.fs->b∉ch->s.heap.get? b=some o->H b=none->h'.get? b=some o)
  (slot:∀ b o,b≠X.env.locals->b∈X.fs->b∉ch->s.heap.get? b=some o->H b=none->∃ sl,h'.get? b=some {o with slots:=sl}) (free:∀ b o,b∉ch->s.heap.get? b=some o->H b=none->H' b=none)
  (there:∀ b o,b∉ch->s.heap.get? b=some o->∃ o',h'.get? b=some o')
  (tups:∀ b xs,H b=some (.tup xs)->H' b=some (.tup xs)) (frzs:∀ b o u,H b=some (.frz o u)->H' b=some (.frz o u)) (tbls:∀ b ps,H b=some (.tbl ps)->∃ more,H' b=some (.tbl (ps++more)))
  (ns:∀ m,s.heap.Ns X.env.locals m->h'.Ns X.env.locals m) (hok:HOk X.prog X.w H' h') (hg:AllBare g'):
  Inv X Ox σ H' {s with heap:=h',gens:=g',drawn:=d',toks:=t'}:=by
 have neL:∀ b o,X.s₀.heap.get? b=some o->b≠X.env.locals:=λb o e=>Po (Pe (OZ e) I.ok.above)
 have neC:∀ b o,X.s₀.heap.get? b=some o->b∉X.ex->b∉ch:=λb o e hx hb=>by
  rcases(hch b hb).1 with z | z
  . exact hx z
  . exact absurd (Pe (OZ e) z) (P3 _)
 have cellK:∀ x c,X.env.cells.lookup x=some c->∀ v,s.heap.IsCell c v->h'.IsCell c v:=λx c e v ⟨o,ho,hd⟩=>by
  have nch:c∉ch:=λz=>(hch c z).2.2.1 x c e rfl;by_cases hc:c∈X.fs
  . obtain⟨sl,q⟩:=slot c o (I.cne x c e) hc nch ho (I.freeC x c e);exact⟨_,q,hd⟩
  . exact⟨o,keep c o (I.cne x c e) hc nch ho (I.freeC x c e),hd⟩
 refine⟨I.ok,I.os,hg,⟨λb o e n hb hx=>?_,λb o e n hb hx=>?_,λb o e n hx=>?_,λb o e hx=>?_,λb xs e=>tups b xs (I.base.tups b xs e),λb o xs e=>frzs b o xs (I.base.frzs b o xs e),λb ps e=>?_⟩,?_,λx c e=>?_,?_,λx c e=>?_,λp hp=>?_,hok,I.len⟩
 . exact keep b o (neL b o e) hb (neC b o e hx) (I.base.keep b o e n hb hx) (I.base.free b o e n hx)
 . obtain⟨sl,e1⟩:=I.base.slot b o e n hb hx;obtain⟨sl',e2⟩:=slot b _ (neL b o e) hb (neC b o e hx) e1 (I.base.free b o e n hx);exact⟨sl',e2⟩
 . obtain⟨o',e1⟩:=I.base.there b o e hx;exact free b o' (neC b o e hx) e1 (I.base.free b o e n hx)
 . obtain⟨o',e1⟩:=I.base.there b o e hx;exact there b o' (neC b o e hx) e1
 . obtain⟨m1,e1⟩:=I.base.tbls b ps e;obtain⟨m2,e2⟩:=tbls b _ e1;exact⟨m1++m2,by rw[e2,RX]⟩
 . obtain⟨m,hn,hl⟩:=I.loc;refine⟨m,ns m hn,λi x v e1 e2 e3=>?_⟩;obtain⟨u,r,l⟩:=hl i x v e1 e2 e3;refine⟨u,r,?_⟩;rcases l with l | ⟨k,c,e,z⟩
   . exact .inl l
   . exact .inr ⟨k,c,e,cellK x c e _ z⟩
 . obtain⟨v,z⟩:=I.cell x c e;exact⟨v,cellK x c e v z⟩
 . obtain⟨m,⟨o,_,_,ho,_⟩,_⟩:=I.loc;exact free _ o (λz=>(hch _ z).2.1 rfl) ho I.free
 . obtain⟨v,o,ho,hd⟩:=I.cell x c e;exact free c o (λz=>(hch c z).2.2.1 x c e rfl) ho (I.freeC x c e)
 . obtain⟨e,n,ne,nf,d⟩:=I.pin p hp;have nch:p.1∉ch:=λz=>(hch p.1 z).2.2.2 p hp rfl;exact⟨keep p.1 p.2 ne nf nch e n,free p.1 p.2 nch e n,ne,nf,d⟩
theorem Inv.un{t':Nat}(I:Inv X Ox σ H s)(u:Un X.fs [] H H' s.heap h')(hok:HOk X.prog X.w H' h'):Inv X Ox σ H' {s with heap:=h',toks:=t'}:=by
 obtain⟨m,⟨o,es,ep,ho,r⟩,_⟩:=id I.loc;obtain⟨sl,hL⟩:=u.any ho I.free (by simp)
 exact I.step (g':=s.gens) (d':=s.drawn) (ch:=[]) (λ_ z=>nomatch z) (λb o _ hb _ e n=>u.keep b o e n hb (by simp)) (λb o _ hb _ e n=>u.slot b o e n hb (by simp)) (λb o _ e n=>u.free b o e n (by simp)) (λb o _ e=>u.there b o e (by simp)) u.tups u.frzs u.tbls (λm' hm=>by
  obtain⟨o',es',ep',ho',r'⟩:=hm;rw[ho]at ho';cases ho';exact⟨_,es',ep',hL,r'⟩) hok I.bare
theorem Inv.call {g':Array GenState} {t':Nat} {d':Drawn} {ch:List Addr} (I:Inv X Ox σ H s) (u:Un (frs X.stack) ch H H' s.heap h') (hok:HOk X.prog X.w H' h') (hg:AllBare g')
  (hch:∀ b∈ch,(b∈X.ex\/X.s₀.heap.objs.size<=b)/\b≠X.env.locals/\(∀ x c,X.env.cells.lookup x=some c->c≠b)/\∀ p∈X.pn++Ox,p.1≠b):
  Inv X Ox σ H' {s with heap:=h',gens:=g',drawn:=d',toks:=t'}:=by
 obtain⟨m,⟨o,es,ep,ho,r⟩,_⟩:=id I.loc;obtain⟨sl,hL⟩:=u.any ho I.free λz=>(hch _ z).2.1 rfl
 exact I.step (ch:=ch) hch (λb o hL hb hc e n=>u.keep b o e n (λz=>(OM.mp (I.stkSub b z)).elim hL hb) hc) (λb o _ _ hc e n=>u.any e n hc) (λb o hc e n=>u.free b o e n hc) (λb o hc e=>u.there b o e hc) u.tups u.frzs u.tbls (λm' hm=>by
  obtain⟨o',es',ep',ho',r'⟩:=hm;rw[ho]at ho';cases ho';exact⟨_,es',ep',hL,r'⟩) hok hg
theorem Inv.turned {t':Nat} {it:Addr} (I:Inv X Ox σ H s) (k:∀ b o,b≠it->s.heap.get? b=some o->h'.get? b=some o) (hn:H it=none) (hL:it≠X.env.locals)
  (h1:it∈X.ex\/X.s₀.heap.objs.size<=it) (h2:∀ x c,X.env.cells.lookup x=some c->c≠it) (h3:∀ p∈X.pn++Ox,p.1≠it):Inv X Ox σ H {s with heap:=h',toks:=t'}:=by
 have nit:∀ b u,H b=some u->b≠it:=λb u e z=>by rw[z,hn]at e;cases e
 refine I.step (g':=s.gens) (d':=s.drawn) (ch:=[it]) (λb hb=>?_) (λb o _ _ hc e _=>k b o (λz=>hc (by simp[z])) e) (λb o _ _ hc e _=>⟨o.slots,k b o (λz=>hc (by simp[z])) e⟩) (λ_ _ _ _ n=>n)
  (λb o hc e=>⟨o,k b o (λz=>hc (by simp[z])) e⟩) (λ_ _ e=>e) (λ_ _ _ e=>e) (λb ps e=>⟨#[],by rw[e];simp⟩) (λm hm=>?_) (λb u e=>?_) I.bare
 . have e:b=it:=by simpa using hb
   subst e;exact⟨h1,hL,h2,h3⟩
 . obtain⟨o,es,ep,ho,r⟩:=hm;exact⟨o,es,ep,k _ o (Rk hL) ho,r⟩
 . refine(I.hok b u e).stay (λc v hc q=>k c v ?_ q) (λ_ q=>q) λ_ _ q=>q;rcases hc with z | z
   . rw[z];exact nit b u e
   . exact nit c _ z
theorem Inv.tok(I:Inv X Ox σ H s)(t:Nat):Inv X Ox σ H {s with toks:=t}:=I.un (h':=s.heap) (t':=t) Un.refl I.hok
theorem Inv.kept{t':Nat}(I:Inv X Ox σ H s)(k:∀ b u,s.heap.get? b=some u->h'.get? b=some u):Inv X Ox σ H {s with heap:=h',toks:=t'}:=I.un (Un.kept k) (I.hok.kept k)
theorem Inv.laid{a:Addr}{o:HO}{t':Nat}(I:Inv X Ox σ H s)(k:∀ b u,s.heap.get? b=some u->h'.get? b=some u)(hp:s.heap.objs.size<=a)(new:ObjOk X.prog X.w (upd H a o) h' a o):
  Inv X Ox σ (upd H a o) {s with heap:=h',toks:=t'}:=I.un (Un.laid k hp (I.hok.fresh hp)) (I.hok.laid k hp new)
theorem Inv.write {x e:Addr} {o:HO} {t':Nat} (I:Inv X Ox σ H s) (mu:Mut (H x)) (he:e=x\/H e=some (.own x)) (k:∀ b u,b≠e->s.heap.get? b=some u->h'.get? b=some u) (heo:∃ u,h'.get? e=some u)
  (new:ObjOk X.prog X.w (upd H x o) h' x o):Inv X Ox σ (upd H x o) {s with heap:=h',toks:=t'}:=I.un (Un.write mu he k heo) (I.hok.write mu he k heo new)
theorem Inv.pins_of{pins':List (Addr × Obj)}(I:Inv X Ox σ H s)(h:∀ p∈pins',s.heap.get? p.1=some p.2/\H p.1=none/\p.1≠X.env.locals/\p.1∉X.fs/\∀ v,p.2.data≠.cell v):Inv X pins' σ H s:=
 ⟨I.ok,I.os,I.bare,I.base,I.loc,I.cell,I.free,I.freeC,λp hp=>(OY.mp hp).elim (λz=>I.pin p (Qq _ z)) (h p),I.hok,I.len⟩
theorem sV{N:List Str}(hN:N.Nodup){i j:Nat}{x:Str}(a:N[i]? =some x)(b:N[j]? =some x):i=j:=by
 obtain⟨h1,e1⟩:=OK.mp a;obtain⟨h2,e2⟩:=OK.mp b;exact(List.getElem_inj hN).mp (e1.trans e2.symm)
theorem wv {M:Model} {A:Around} {E:Value->Shared->Prop} {i:Nat} {x:Str} {v:V} {u:Value} {Q:Unit->Shared->Prop} (I:Inv X Ox σ H s) (hN:X.N.Nodup) (hi:X.N[i]? =some x) (hx:Loc X.env.scope x) (r:RelV v u)
  (h:∀ s',Inv X Ox (σ.set i (some v)) H s'->(∃ a,Heap.SameBut a s.heap s'.heap/\(a=X.env.locals\/X.env.cells.lookup x=some a))->Q () s') (hf:X.fn x=true\/X.env.scope.names.lookup x=some .local:=by first | exact .inl rfl | exact .inr rfl | assumption):wpAny M A (storeName X.env x u) Q E s:=by
 obtain⟨m,hn,hl⟩:=id I.loc;have hcls:(X.env.scope.kind==.class||(X.env.scope.kind==.module&&X.env.locals != X.env.globals))=false:=by rw[I.ok.kind];rfl
 have hiσ:i<σ.length:=by rw[I.len];exact(OK.mp hi).1
 have cne:=I.cne
 have tracked:∀{a:Addr} {h':Heap},(∃ o,s.heap.get? a=some o/\H a=none)->Heap.SameBut a s.heap h'->HOk X.prog X.w H h':=λ{a h'} ha hs b ob e=>by
  obtain⟨_,_,hfree⟩:=ha;refine(I.hok b ob e).stay (λc w' hc q=>(hs.2 c ?_).trans q) (λ_ q=>q) λ_ _ q=>q;rintro rfl;rcases hc with rfl | hc
  . rw[hfree]at e;cases e
  . rw[hfree]at hc;cases hc
 rcases hx with hk | hk
 . refine wpAny_storeName_local hk hn (λh' hn' hs=>?_) hcls;obtain⟨oL,_,_,hoL,_⟩:=id hn;refine h _ ⟨I.ok,I.os,I.bare,⟨λb o e n hb hx=>?_,λb o e n hb hx=>?_,I.base.free,λb o e hx=>?_,I.base.tups,I.base.frzs,I.base.tbls⟩,⟨_,hn',λj y v' e1 e2 e3=>?_⟩,λy c e=>?_,I.free,I.freeC,λp hp=>?_,tracked ⟨oL,hoL,I.free⟩ hs,by simpa using I.len⟩ ⟨_,hs,.inl rfl⟩
   . exact(hs.2 b (Po (Pe (OZ e) I.ok.above))).trans (I.base.keep b o e n hb hx)
   . obtain⟨sl,e1⟩:=I.base.slot b o e n hb hx;exact⟨sl,(hs.2 b (Po (Pe (OZ e) I.ok.above))).trans e1⟩
   . obtain⟨o',e1⟩:=I.base.there b o e hx;exact⟨o',(hs.2 b (Po (Pe (OZ e) I.ok.above))).trans e1⟩
   . by_cases hj:j=i
     . subst hj;rw[hi]at e1;cases e1;rw[QU hiσ]at e2;cases e2;exact⟨u,r,.inl ⟨hk,by simp⟩⟩
     . rw[RJ (Rk hj)]at e2;obtain⟨u',r',q⟩:=hl j y v' e1 e2 e3;refine⟨u',r',?_⟩;rcases q with ⟨k,e⟩ | ⟨k,c,e,z⟩
       . refine .inl ⟨k,?_⟩;have:y≠x:=λe=>hj (sV hN e1 (e ▸ hi));simp[this,e]
       . exact .inr ⟨k,c,e,z.sameBut hs (cne y c e)⟩
   . obtain⟨w',z⟩:=I.cell y c e;exact⟨w',z.sameBut hs (cne y c e)⟩
   . obtain⟨e,n,ne,nf,d⟩:=I.pin p hp;exact⟨(hs.2 p.1 ne).trans e,n,ne,nf,d⟩
 . have hfn:X.fn x=true:=by
    rcases hf with z | z
    . exact z
    . rw[z]at hk;cases hk
   obtain⟨c,hc⟩:=I.ok.has x (.inl hk);obtain⟨w',z⟩:=I.cell x c hc;refine wpAny_storeName_cell I.ok.kind hk hc z (λh' hc' hs=>?_);obtain⟨oc,hoc,hocd⟩:=id z;refine h {s with heap:=h'} ⟨I.ok,I.os,I.bare,⟨λb o e n hb hx=>?_,λb o e n hb hx=>?_,I.base.free,λb o e hx=>?_,I.base.tups,I.base.frzs,I.base.tbls⟩,⟨m,hn.sameBut hs (Rk (cne x c hc)),λj y v' e1 e2 e3=>?_⟩,λy c' e=>?_,I.free,I.freeC,λp hp=>?_,tracked ⟨oc,hoc,I.freeC x c hc⟩ hs,by simpa using I.len⟩ ⟨c,hs,.inr hc⟩
   . exact(hs.2 b (Po (Pe (OZ e) (I.ok.cab x c hfn hc)))).trans (I.base.keep b o e n hb hx)
   . obtain⟨sl,e1⟩:=I.base.slot b o e n hb hx;exact⟨sl,(hs.2 b (Po (Pe (OZ e) (I.ok.cab x c hfn hc)))).trans e1⟩
   . obtain⟨o',e1⟩:=I.base.there b o e hx;exact⟨o',(hs.2 b (Po (Pe (OZ e) (I.ok.cab x c hfn hc)))).trans e1⟩
   . by_cases hj:j=i
     . subst hj;rw[hi]at e1;cases e1;rw[QU hiσ]at e2;cases e2;exact⟨u,r,.inr ⟨.inl hk,c,hc,hc'⟩⟩
     . rw[RJ (Rk hj)]at e2;obtain⟨u',r',q⟩:=hl j y v' e1 e2 e3;refine⟨u',r',?_⟩;rcases q with q | ⟨k,c',e,z'⟩
       . exact .inl q
       . refine .inr ⟨k,c',e,z'.sameBut hs ?_⟩;rintro rfl;exact hj (sV hN e1 (I.ok.inj _ _ _ e hc ▸ hi))
   . by_cases hcc:c'=c
     . subst hcc;exact⟨_,hc'⟩
     . obtain⟨w2,z2⟩:=I.cell y c' e;exact⟨w2,z2.sameBut hs hcc⟩
   . obtain⟨e,n,ne,nf,d⟩:=I.pin p hp;refine⟨(hs.2 p.1 ?_).trans e,n,ne,nf,d⟩;intro q;rw[q,hoc]at e;have q':oc=p.2:=Qk e;exact d w' (by rw[← q'];exact hocd)
theorem sW {M:Model} {A:Around} {E:Value->Shared->Prop} {i:Nat} {x:Str} {v:V} {u:Value} {Q:Unit->Shared->Prop} (I:Inv X Ox σ H s) (hN:X.N.Nodup) (hi:X.N[i]? =some x) (hx:Loc X.env.scope x) (r:RelV v u)
  (h:∀ s',Inv X Ox (σ.set i (some v)) H s'->Q () s') (hf:X.fn x=true\/X.env.scope.names.lookup x=some .local:=by first | exact .inl rfl | exact .inr rfl | assumption):wpAny M A (storeName X.env x u) Q E s:=
 wv I hN hi hx r (λs' I' _=>h s' I') hf
theorem Inv.call' {s':Shared} {ch:List Addr} (I:Inv X Ox σ H s) (ho:s'.os=s.os) (u:Un (frs X.stack) ch H H' s.heap s'.heap) (hok:HOk X.prog X.w H' s'.heap) (hg:AllBare s'.gens)
  (hch:∀ b∈ch,(b∈X.ex\/X.s₀.heap.objs.size<=b)/\b≠X.env.locals/\(∀ x c,X.env.cells.lookup x=some c->c≠b)/\∀ p∈X.pn++Ox,p.1≠b):Inv X Ox σ H' s':=by
 obtain⟨h',g',d',t',o'⟩:=s';have e:o'=s.os:=ho;subst e;exact I.call (g':=g') (t':=t') (d':=d') u hok hg hch
end
abbrev XK:=Value->Option Addr->Hp->Prop
abbrev St:=List (Option V)
abbrev VK:=V->Hp->Prop
abbrev TE:=St->Hp->VK->Prop
abbrev TT:=St->Hp->(Bool->Hp->Prop)->Prop
abbrev TA:=St->Hp->(List V->Hp->Prop)->Prop
structure Ends where
 nx:St->Hp->Prop
 rt:VK
 bk:St->Hp->Prop:=λ_ _=>False
 ct:St->Hp->Prop:=λ_ _=>False
abbrev TS:=Ends->St->Hp->Prop
def EP(X:Cx)(Ox:List (Addr × Obj))(σ:St)(Q:VK)(u:Value)(s':Shared):Prop:=∃ v H',Inv X Ox σ H' s'/\RelV v u/\Q v H'
def TP(X:Cx)(Ox:List (Addr × Obj))(σ:St)(Q:Bool->Hp->Prop)(b:Bool)(s':Shared):Prop:=∃ H',Inv X Ox σ H' s'/\Q b H'
def AP(X:Cx)(Ox:List (Addr × Obj))(σ:St)(Q:List V->Hp->Prop)(us:List Value)(s':Shared):Prop:=∃ vs H',Inv X Ox σ H' s'/\Vals vs us/\Q vs H'
def SP(X:Cx)(Ox:List (Addr × Obj))(D:Ends)(f:Flow)(s':Shared):Prop:=
 match f with
 | .next=>∃ σ' H',Inv X Ox σ' H' s'/\D.nx σ' H'
 | .brk=>∃ σ' H',Inv X Ox σ' H' s'/\D.bk σ' H'
 | .cont=>∃ σ' H',Inv X Ox σ' H' s'/\D.ct σ' H'
 | .ret u=>∃ v σ' H',Inv X Ox σ' H' s'/\RelV v u/\D.rt v H'
def PE(X:Cx)(e:Expr)(t:TE):Prop:=
 ∀(Ox:List (Addr × Obj)) (s:Shared) (σ:St) (H:Hp) (Q:VK),Inv X Ox σ H s->t σ H Q->wpAny (model X.prog X.w) X.A (eval e X.env) (EP X Ox σ Q) X.xe s
def PT(X:Cx)(e:Expr)(t:TT):Prop:=
 ∀(Ox:List (Addr × Obj)) (s:Shared) (σ:St) (H:Hp) (Q:Bool->Hp->Prop),Inv X Ox σ H s->t σ H Q->wpAny (model X.prog X.w) X.A (isTrue e X.env (eval e X.env)) (TP X Ox σ Q) X.xe s
def PW(X:Cx)(e:Expr)(t:TT):Prop:=
 ∀(OD:Sem Value) (Ox:List (Addr × Obj)) (s:Shared) (σ:St) (H:Hp) (Q:Bool->Hp->Prop),Inv X Ox σ H s->t σ H Q->wpAny (model X.prog X.w) X.A (isTrue e X.env OD) (TP X Ox σ Q) X.xe s
theorem PW.pt{X:Cx}{e:Expr}{t:TT}(h:PW X e t):PT X e t:=h _
abbrev Sj:=@PW.pt
def PA(X:Cx)(es:List Expr)(t:TA):Prop:=
 ∀(pos:Pos) (Ox:List (Addr × Obj)) (s:Shared) (σ:St) (H:Hp) (Q:List V->Hp->Prop),Inv X Ox σ H s->t σ H Q->wpAny (model X.prog X.w) X.A (spliced (backTo pos (starEach es X.env))) (AP X Ox σ Q) X.xe s
def PS(X:Cx)(st:Stmt)(t:TS):Prop:=
 ∀(Ox:List (Addr × Obj)) (s:Shared) (σ:St) (H:Hp) (D:Ends),Inv X Ox σ H s->t D σ H->wpAny (model X.prog X.w) X.A (exec st X.env) (SP X Ox D) X.xe s
def PSs(X:Cx)(st:List Stmt)(t:TS):Prop:=
 ∀(Ox:List (Addr × Obj)) (s:Shared) (σ:St) (H:Hp) (D:Ends),Inv X Ox σ H s->t D σ H->wpAny (model X.prog X.w) X.A (execs st X.env) (SP X Ox D) X.xe s
theorem thn{α:Type}{t:Sem α}{Q Q':α->Shared->Prop}{M:Model}{A:Around}{E:Value->Shared->Prop}{s:Shared}(h:wpAny M A t Q E s)(hQ:∀ a s,Q a s->Q' a s):wpAny M A t Q' E s:=PF h hQ λ_ _ x=>x
section
variable{X:Cx}
def vB:Option (Option V)->(V->Prop)->Prop
 | some (some v),k=>k v
 | _,_=>False
theorem DM{o:Option (Option V)}{k:V->Prop}(h:vB o k):∃ v,o=some (some v)/\k v:=by
 rcases o with _ | _ | v
 . cases h
 . cases h
 . exact⟨v,rfl,h⟩
theorem pN{o:Option (Option V)}{k:V->Prop}{v:V}(e:o=some (some v))(h:k v):vB o k:=by subst e;exact h
def tVar(i:Nat):TE:=λσ H Q=>vB σ[i]? λv=>Q v H
def tC(v:V):TE:=λ_ H Q=>Q v H
theorem Fa{i:Nat}{x:Str}{pos:Pos}(hN:X.N[i]? =some x)(hv:Vis X.env.scope x)(hd:(x==("__debug__":Str))=false:=by decide)(hcd:(x==("__classdict__":Str))=false:=by decide):PE X (.Name x pos) (tVar i):=by
 intro Ox s σ H Q I h;obtain⟨v,e,h⟩:=DM h;obtain⟨m,hn,hl⟩:=I.loc;obtain⟨u,r,l⟩:=hl i x v hN e hv;have fin:EP X Ox σ Q u s:=⟨v,H,I,r,h⟩;rcases l with ⟨hk,hm⟩ | ⟨hk,c,hc,hcell⟩
 . exact wpAny_Name (wpAny_loadName_local I.ok.kind hk hn hm fin) hd
 . rcases hk with hk | hk
   . exact wpAny_Name (wpAny_loadName_cell I.ok.kind hk hc hcell fin) hd
   . exact wpAny_Name (wpAny_loadName_free I.ok.kind hk hc hcell fin hcd) hd
theorem ae{i j pos}:PE X (.Constant (.int i) j pos) (tC (.int i)):=λ_ _ _ H _ I h=>wpAny_Constant_int ⟨.int i,H,I.tok _,⟨_,rfl⟩,h⟩
theorem jq{b j pos}:PE X (.Constant (.bool b) j pos) (tC (.bl b)):=λ_ _ _ H _ I h=>Constant_bool ⟨.bl b,H,I,rfl,h⟩
theorem lG{j pos}:PE X (.Constant .none j pos) (tC .non):=λ_ _ _ H _ I h=>Constant_none ⟨.non,H,I,rfl,h⟩
theorem aH{x j pos}:PE X (.Constant (.str x) j pos) (tC (.str x)):=λ_ _ _ H _ I h=>Calls.Constant_str ⟨.str x,H,I.tok _,⟨_,rfl⟩,h⟩
def Gl(X:Cx)(x:Str):Prop:=X.env.kindOf x=some .globalImplicit
theorem mC {E:Value->Shared->Prop} {Ox:List (Addr × Obj)} {s:Shared} {σ:St} {H:Hp} {x:Str} {u:Value} {pos:Pos} {Q:Value->Shared->Prop} (I:Inv X Ox σ H s) (hg:Gl X x) (hm:X.mg x=some u) (h:Q u s)
  (hd:(x==("__debug__":Str))=false:=by decide):wpAny (model X.prog X.w) X.A (eval (.Name x pos) X.env) Q E s:=
 RY I.ok.kind hg (Calls.loadGlobal_global (by rw[I.ok.glob];exact I.mod.glob.keeps I.bk) hm h) hd
theorem cW {E:Value->Shared->Prop} {Ox:List (Addr × Obj)} {s:Shared} {σ:St} {H:Hp} {x:Str} {u:Value} {pos:Pos} {Q:Value->Shared->Prop} (I:Inv X Ox σ H s) (hg:Gl X x) (hm:X.mg x=none) (hv:bootBuiltins x=some u) (h:Q u s)
  (hn:x≠"__name__":=by decide) (hd:(x==("__debug__":Str))=false:=by decide):wpAny (model X.prog X.w) X.A (eval (.Name x pos) X.env) Q E s:=by
 obtain⟨mb,h1,h2⟩:=I.mod.blt;exact RY I.ok.kind hg (Calls.loadGlobal_builtin (by rw[I.ok.glob];exact I.mod.glob.keeps I.bk) hm (by rw[I.ok.blt];exact h1.keeps I.bk) ((h2 x hn).trans hv) h) hd
theorem br{x:Str}{v:V}{u:Value}{pos:Pos}(hg:Gl X x)(hm:X.mg x=some u)(r:RelV v u)(hd:(x==("__debug__":Str))=false:=by decide):PE X (.Name x pos) (tC v):=
 λ_ _ _ H _ I h=>mC I hg hm ⟨v,H,I,r,h⟩ hd
theorem kN{x:Str}{v:V}{u:Value}{pos:Pos}(hg:Gl X x)(hm:X.mg x=none)(hv:bootBuiltins x=some u)(r:RelV v u)(hn:x≠"__name__":=by decide)(hd:(x==("__debug__":Str))=false:=by decide):PE X (.Name x pos) (tC v):=
 λ_ _ _ H _ I h=>cW I hg hm hv ⟨v,H,I,r,h⟩ hn hd
variable{a b:Expr}{ta tb:TE}{pos:Pos}
def tB(t:TE):TT:=λσ H Q=>t σ H λx H1=>∃ c,x=.bl c/\Q c H1
theorem bM{e:Expr}{t:TE}(h:PE X e t)(he:∀ OD,isTrue e X.env OD=(do let v ← OD;standAt e.pos;holding [v] (truthy v)):=by intro _;rfl):PT X e (tB t):=by
 intro Ox s σ H Q I hw;refine isTrue_plain (thn (h Ox s σ H _ I hw) λv s1 ⟨x,H1,I1,r1,q1⟩=>?_) (he _);obtain⟨d,rfl,q⟩:=q1;cases r1;exact Qv ⟨H1,I1,q⟩
variable{tA tB':TT}{rest:List Expr}
def tAnd(t u:TT):TT:=λσ H Q=>t σ H λc H1=>if c=true then u σ H1 Q else Q false H1
def tOr(t u:TT):TT:=λσ H Q=>t σ H λc H1=>if c=true then Q true H1 else u σ H1 Q
def tNot(t:TT):TT:=λσ H Q=>t σ H λc H1=>Q (!c) H1
theorem mE(ha:PT X a tA):PW X (.BoolOp .And [a] pos) tA:=by
 intro wh Ox s σ H Q I h;refine isTrue_and (thn (ha Ox s σ H Q I h) λc s1 e=>?_)
 cases c with
 | true=>exact isTrue_and_nil e
 | false=>exact e
theorem jZ(ha:PT X a tA):PW X (.BoolOp .Or [a] pos) tA:=by
 intro wh Ox s σ H Q I h;refine isTrue_or (thn (ha Ox s σ H Q I h) λc s1 e=>?_)
 cases c with
 | false=>exact isTrue_or_nil e
 | true=>exact e
theorem ph(ha:PT X a tA)(hb:PW X (.BoolOp .And (b::rest) pos) tB'):PW X (.BoolOp .And (a::b::rest) pos) (tAnd tA tB'):=by
 intro wh Ox s σ H Q I h;refine isTrue_and (thn (ha Ox s σ H _ I h) λc s1 ⟨H1,I1,q1⟩=>?_)
 cases c with
 | true=>exact hb wh Ox s1 σ H1 Q I1 q1
 | false=>exact⟨H1,I1,q1⟩
theorem jr(ha:PT X a tA)(hb:PW X (.BoolOp .Or (b::rest) pos) tB'):PW X (.BoolOp .Or (a::b::rest) pos) (tOr tA tB'):=by
 intro wh Ox s σ H Q I h;refine isTrue_or (thn (ha Ox s σ H _ I h) λc s1 ⟨H1,I1,q1⟩=>?_)
 cases c with
 | true=>exact⟨H1,I1,q1⟩
 | false=>exact hb wh Ox s1 σ H1 Q I1 q1
theorem dC(ha:PT X a tA):PT X (.UnaryOp .Not a pos) (tNot tA):=by
 intro Ox s σ H Q I h;exact isTrue_not (ha Ox s σ H (λc H1=>Q (!c) H1) I h)
def tAndV(ta tb:TE):TE:=λσ H Q=>ta σ H λx H1=>∃ c,x=.bl c/\if c=true then tb σ H1 Q else Q (.bl false) H1
def tOrV(ta tb:TE):TE:=λσ H Q=>ta σ H λx H1=>∃ c,x=.bl c/\if c=true then Q (.bl true) H1 else tb σ H1 Q
def tNotV(ta:TE):TE:=λσ H Q=>ta σ H λx H1=>∃ c,x=.bl c/\Q (.bl (!c)) H1
theorem mO{op}{t:TE}(h:PE X a t):PE X (.BoolOp op [a] pos) t:=λOx s σ H Q I hw=>BoolOp_one (h Ox s σ H Q I hw)
theorem gR(ha:PE X a ta)(hb:PE X (.BoolOp .And (b::rest) pos) tb):PE X (.BoolOp .And (a::b::rest) pos) (tAndV ta tb):=by
 intro Ox s σ H Q I h;refine BoolOp_and (thn (ha Ox s σ H _ I h) λv s1 ⟨x,H1,I1,r1,q1⟩=>?_);obtain⟨c,rfl,q1⟩:=q1;cases r1;refine Qv ?_
 cases c with
 | true=>exact hb Ox s1 σ H1 Q I1 q1
 | false=>exact⟨.bl false,H1,I1,rfl,q1⟩
theorem xN(ha:PE X a ta):PE X (.UnaryOp .Not a pos) (tNotV ta):=by
 intro Ox s σ H Q I h;refine UnaryOp_ (thn (ha Ox s σ H _ I h) λv s1 ⟨x,H1,I1,r1,q1⟩=>?_);obtain⟨c,rfl,q1⟩:=q1;cases r1;exact not_of (Qv ⟨.bl (!c),H1,I1,rfl,q1⟩)
def tIf(t:TT)(ta tb:TE):TE:=λσ H Q=>t σ H λc H1=>if c=true then ta σ H1 Q else tb σ H1 Q
theorem xO{c:Expr}(hc:PT X c tA)(ha:PE X a ta)(hb:PE X b tb):PE X (.IfExp c a b pos) (tIf tA ta tb):=by
 intro Ox s σ H Q I h;refine wpAny_IfExp (thn (hc Ox s σ H _ I h) λd s1 ⟨H1,I1,q1⟩=>?_)
 cases d with
 | true=>exact ha Ox s1 σ H1 Q I1 q1
 | false=>exact hb Ox s1 σ H1 Q I1 q1
end
def SqL(K:Frag)(H:Hp)(a:Addr)(xs:List V):Prop:=
 Rd H a (.lst xs)\/
  ∃(o:Obj) (OA:Array Value) (n:Nat),K.lookup a=some o/\o.cls=.type "list"/\o.dict=none/\o.data=.seq OA n/\OA.size<=sizeLine/\Vals xs OA.toList
def SqT(K:Frag)(H:Hp)(a:Addr)(xs:List V):Prop:=
 Rd H a (.tup xs)\/
  ∃(o:Obj) (OA:Array Value) (n:Nat),K.lookup a=some o/\o.cls=.type "tuple"/\o.data=.seq OA n/\OA.size<=sizeLine/\Vals xs OA.toList
def absV:Value->Option V
 | .none=>some .non
 | .bool b=>some (.bl b)
 | .int i _=>some (.int i)
 | .str x _=>some (.str x)
 | .bytes b _=>some (.byt b)
 | .float b _=>some (.flt b)
 | .ref a=>some (.ref a)
 | .type n=>some (.ty n)
 | _=>none
variable{u:Value}
theorem RelV.abs{x:V}(r:RelV x u):absV u=some x:=by
 cases x with
 | non=>cases r;rfl
 | bl _=>cases r;rfl
 | int _=>obtain⟨t,rfl⟩:=r;rfl
 | str _=>obtain⟨t,rfl⟩:=r;rfl
 | byt _=>obtain⟨t,rfl⟩:=r;rfl
 | flt _=>obtain⟨t,rfl⟩:=r;rfl
 | ref _=>cases r;rfl
 | ty _=>cases r;rfl
theorem RelV.inj{x y:V}(r:RelV x u)(q:RelV y u):x=y:=Qk (r.abs.symm.trans q.abs)
theorem Vals.inj:∀{xs ys:List V} {us:List Value},Vals xs us->Vals ys us->xs=ys
 | _,_,_,.nil,.nil=>rfl
 | _,_,_,.cons r t,.cons r' t'=>by rw[r.inj r',Vals.inj t t']
section
variable{X:Cx}{Ox:List (Addr × Obj)}{σ:St}{H:Hp}{s:Shared}{a:Addr}{xs ys:List V}
theorem SqL.of{K:Frag}(h:H a=some (.lst xs)):SqL K H a xs:=.inl (.inl h)
abbrev Pc:=@SqL.of
theorem SqT.of{K:Frag}(h:H a=some (.tup xs)):SqT K H a xs:=.inl (.inl h)
theorem Inv.list(I:Inv X Ox σ H s)(h:SqL X.K H a xs):∃ OA:List Value,Vals xs OA/\PlainL s.heap a OA.toArray/\xs.length<=sizeLine:=by
 rcases h with h | ⟨o,OA,n,hk,hc,hd,hs,hz,r⟩
 . obtain⟨z,OA,n,r,e⟩:=h.ok I.hok;exact⟨OA,r,⟨_,n,e,rfl,rfl,rfl⟩,z⟩
 . refine⟨OA.toList,r,⟨o,n,I.kIn a o hk,hc,hd,by simpa using hs⟩,?_⟩;have e:=r.length;simp only[Qc]at e;omega
theorem Inv.tuple(I:Inv X Ox σ H s)(h:SqT X.K H a xs):∃ OA:List Value,Vals xs OA/\IsTup s.heap a OA.toArray/\xs.length<=sizeLine:=by
 rcases h with h | ⟨o,OA,n,hk,hc,hs,hz,r⟩
 . obtain⟨z,OA,r,p⟩:=h.ok I.hok;exact⟨OA,r,p,z⟩
 . refine⟨OA.toList,r,⟨o,I.kIn a o hk,hc,n,by simpa using hs⟩,?_⟩;have e:=r.length;simp only[Qc]at e;omega
theorem Inv.list_inj(I:Inv X Ox σ H s)(h:SqL X.K H a xs)(h':SqL X.K H a ys):xs=ys:=by
 obtain⟨OA,r,⟨o,n,e,_,_,d⟩,_⟩:=I.list h;obtain⟨its',r',⟨o',n',e',_,_,d'⟩,_⟩:=I.list h';rw[e]at e';cases e';rw[d]at d';injection d' with d1 _;have:OA=its':=by simpa using congrArg Array.toList d1
 subst this;exact r.inj r'
end
abbrev Cx.wish(X:Cx)(E:Value->Shared->Prop):Cx:={X with xe:=E}
abbrev Cx.nox(X:Cx):Cx:=X.wish λ_ _=>False
variable{X:Cx}
theorem Cx.Ok.wish(ok:X.Ok)(E:Value->Shared->Prop):(X.wish E).Ok:=
 ⟨ok.mod,ok.kind,ok.glob,ok.blt,ok.above,ok.inj,ok.has,ok.cab,ok.hd,ok.frames,ok.stk,ok.exf,ok.bs,ok.bsz,ok.noex,ok.exfs,ok.funs,ok.frf⟩
variable{E:Value->Shared->Prop}
theorem Cx.Ok.unwish(ok:(X.wish E).Ok):X.Ok:=
 ⟨ok.mod,ok.kind,ok.glob,ok.blt,ok.above,ok.inj,ok.has,ok.cab,ok.hd,ok.frames,ok.stk,ok.exf,ok.bs,ok.bsz,ok.noex,ok.exfs,ok.funs,ok.frf⟩
section
variable{X:Cx}{Ox:List (Addr × Obj)}{σ:St}{H:Hp}{s:Shared}{E:Value->Shared->Prop}
theorem Inv.wish(I:Inv X Ox σ H s)(E:Value->Shared->Prop):Inv (X.wish E) Ox σ H s:=⟨I.ok.wish E,I.os,I.bare,I.base,I.loc,I.cell,I.free,I.freeC,I.pin,I.hok,I.len⟩
theorem Inv.unwish(I:Inv (X.wish E) Ox σ H s):Inv X Ox σ H s:=⟨I.ok.unwish,I.os,I.bare,I.base,I.loc,I.cell,I.free,I.freeC,I.pin,I.hok,I.len⟩
theorem SP.unwish{D:Ends}{f:Flow}{s':Shared}(h:SP (X.wish E) Ox D f s'):SP X Ox D f s':=by
 cases f with
 | next=>obtain⟨σ',H',I,q⟩:=h;exact⟨σ',H',I.unwish,q⟩
 | brk=>obtain⟨σ',H',I,q⟩:=h;exact⟨σ',H',I.unwish,q⟩
 | cont=>obtain⟨σ',H',I,q⟩:=h;exact⟨σ',H',I.unwish,q⟩
 | ret u=>obtain⟨v,σ',H',I,r,q⟩:=h;exact⟨v,σ',H',I.unwish,r,q⟩
theorem PSs.nox{st:List Stmt}{t:TS}(h:PSs X.nox st t):PSs X st t:=λOx s σ H D I hw=>
 PF (h Ox s σ H D (I.wish _) hw) (λ_ _ q=>q.unwish) λ_ _ z=>False.elim z
end
section
variable{X:Cx}{st:Stmt}{rest:List Stmt}{t u:TS}{e:Expr}{te:TE}{pos:Pos}
def tNext:TS:=λD σ H=>D.nx σ H
def tSeq(t u:TS):TS:=λD σ H=>t {D with nx:=u D} σ H
theorem au:PSs X [] tNext:=λ_ _ σ H _ I h=>Qm ⟨σ,H,I,h⟩
theorem ad(h1:PS X st t)(h2:PSs X rest u):PSs X (st::rest) (tSeq t u):=by
 intro Ox s σ H D I h;refine Rl (thn (h1 Ox s σ H {D with nx:=u D} I h) λf s1 q=>?_)
 cases f with
 | next=>
  obtain⟨σ',H',I',q⟩:=q;exact h2 Ox s1 σ' H' D I' q
 | ret v=>exact q
 | brk=>exact q
 | cont=>exact q
theorem af(h1:PS X st t):PSs X [st] t:=by
 intro Ox s σ H D I h;refine Rl (thn (h1 Ox s σ H D I h) λf s1 q=>?_)
 cases f with
 | next=>exact Qm q
 | ret v=>exact q
 | brk=>exact q
 | cont=>exact q
theorem Inv.quiet{Ox:List (Addr × Obj)}{σ:St}{H:Hp}{s:Shared}(I:Inv X Ox σ H s):interactive X.env=false:=by simp[interactive,I.ok.kind]
def tDrop(te:TE):TS:=λD σ H=>te σ H λ_ H1=>D.nx σ H1
theorem bu(he:PE X e te)(hs:swapsWith e none pos.line X.env=pure false:=by rfl):PS X (.Expr e pos) (tDrop te):=by
 intro Ox s σ H D I h;exact SY (thn (he Ox s σ H _ I h) λv s1 ⟨x,H1,I1,r1,q1⟩=>⟨σ,H1,I1,q1⟩) I.quiet hs
def tRet(te:TE):TS:=λD σ H=>te σ H D.rt
theorem aj(he:PE X e te):PS X (.Return (some e) pos) (tRet te):=by
 intro Ox s σ H D I h;exact wpAny_Return_some (thn (he Ox s σ H _ I h) λv s1 ⟨x,H1,I1,r1,q1⟩=>⟨x,σ,H1,I1,r1,q1⟩)
def tRetN:TS:=λD _ H=>D.rt .non H
def tIfS(c:TT)(t u:TS):TS:=λD σ H=>c σ H λb H1=>if b=true then t D σ H1 else u D σ H1
theorem aA{c:Expr}{a b:List Stmt}{tc:TT}(hc:PT X c tc)(ha:PSs X a t)(hb:PSs X b u):PS X (.If c a b pos) (tIfS tc t u):=by
 intro Ox s σ H D I h;refine wpAny_If (thn (hc Ox s σ H _ I h) λd s1 ⟨H1,I1,q1⟩=>?_)
 cases d with
 | true=>exact ha Ox s1 σ H1 D I1 q1
 | false=>exact hb Ox s1 σ H1 D I1 q1
def cX:TS:=λ_ _ _=>False
theorem bN:PS X st cX:=λ_ _ _ _ _ _ h=>h.elim
end
abbrev TG:=V->St->Hp->(St->Hp->Prop)->Prop
abbrev TGs:=List V->St->Hp->(St->Hp->Prop)->Prop
def PG(X:Cx)(target:Expr)(t:TG):Prop:=
 ∀(Ox:List (Addr × Obj)) (s:Shared) (σ:St) (H:Hp) (v:V) (u:Value) (Q:St->Hp->Prop),Inv X Ox σ H s->RelV v u->t v σ H Q->
  wpAny (model X.prog X.w) X.A (assign target X.env u) (λ_ s'=>∃ σ' H',Inv X Ox σ' H' s'/\Q σ' H') X.xe s
def PGs(X:Cx)(ts:List Expr)(t:TGs):Prop:=
 ∀(Ox:List (Addr × Obj)) (s:Shared) (σ:St) (H:Hp) (vs:List V) (us:List Value) (Q:St->Hp->Prop),Inv X Ox σ H s->Vals vs us->t vs σ H Q->
  wpAny (model X.prog X.w) X.A (assignInOrder ((assignEach ts X.env).map (·.2)) us) (λ_ s'=>∃ σ' H',Inv X Ox σ' H' s'/\Q σ' H') X.xe s
abbrev TSet:=V->V->V->Hp->(Hp->Prop)->Prop
def PSet(X:Cx)(t:TSet):Prop:=
 ∀(Ox:List (Addr × Obj)) (s:Shared) (σ:St) (H:Hp) (o i v:V) (ov iv u:Value) (Q:Hp->Prop),Inv X Ox σ H s->RelV o ov->RelV i iv->RelV v u->t o i v H Q->
  wpAny (model X.prog X.w) X.A (setItem ov iv u) (λ_ s'=>∃ H',Inv X Ox σ H' s'/\Q H') X.xe s
section
variable{X:Cx}{pos:Pos}
def gName(i:Nat):TG:=λv σ H Q=>Q (σ.set i (some v)) H
theorem ax{i:Nat}{x:Str}(hN:X.N.Nodup)(hi:X.N[i]? =some x)(hx:Loc X.env.scope x)(hf:X.fn x=true\/X.env.scope.names.lookup x=some .local:=by first | exact .inl rfl | exact .inr rfl | assumption):PG X (.Name x pos) (gName i):=by
 intro Ox s σ H v u Q I r h;exact wpAny_assign_Name (sW I hN hi hx r (λs' I'=>⟨_,H,I',h⟩) hf)
def gNil:TGs:=λvs σ H Q=>vs=[]/\Q σ H
def gCons(t:TG)(u:TGs):TGs:=λvs σ H Q=>∃ v r,vs=v::r/\t v σ H λσ' H'=>u r σ' H' Q
theorem mF:PGs X [] gNil:=by
 intro Ox s σ H vs us Q I r h;obtain⟨e,h⟩:=h;subst e;cases r;exact assignInOrder_nil ⟨σ,H,I,h⟩
theorem bO {e:Expr} {es:List Expr} {t:TG} {u:TGs} (h1:PG X e t) (h2:PGs X es u)
  (hs:(assignEach (e::es) X.env).map (·.2)=assign e X.env::(assignEach es X.env).map (·.2):=by rfl):PGs X (e::es) (gCons t u):=by
 intro Ox s σ H vs us Q I r h;obtain⟨v,vr,e1,h⟩:=h;subst e1
 cases r with
 | cons r rr=>
  rw[hs];refine assignInOrder_cons (thn (h1 Ox s σ H _ _ _ I r h) λ_ s1 ⟨σ1,H1,I1,q1⟩=>?_);exact h2 Ox s1 σ1 H1 _ _ Q I1 rr q1
def gTup(K:Frag)(n:Nat)(t:TGs):TG:=λv σ H Q=>∃ a xs,v=.ref a/\SqT K H a xs/\xs.length=n/\t xs σ H Q
theorem pi {es:List Expr} {k:Nat} {t:TGs} {n:Nat} (hc:X.calm=true) (h:PGs X es t)
  (hn:(assignEach es X.env).length=n:=by rfl) (hst:(assignEach es X.env).findIdx? (·.1)=none:=by rfl):PG X (.Tuple es k pos) (gTup X.K n t):=by
 intro Ox s σ H v u Q I r hw;obtain⟨a,xs,e1,hq,hl,hw⟩:=hw;subst e1;cases r;obtain⟨OA,rv,ht,hz⟩:=I.tuple hq;refine assign_Tuple_tuple (I.ok.hd hc) ht (by simp[hn,← hl,rv.length]) hst λh' hx=>?_;have I1:Inv X Ox σ H {s with heap:=h'}:=I.kept (t':=s.toks) λb o e=>hx b o (Po (OZ e)) e;exact h Ox _ σ H xs _ Q I1 (by simpa using rv) hw
def gSub(to ti:TE)(t:TSet):TG:=λv σ H Q=>to σ H λo H1=>ti σ H1 λi H2=>t o i v H2 λH3=>Q σ H3
theorem Bc {o i:Expr} {to ti:TE} {t:TSet} (ho:PE X o to) (hi:PE X i ti) (hs:PSet X t)
  (ha:∀ v,assign (.Subscript o i pos) X.env v=(do
   let ov ← holding [v] (eval o X.env);let iv ← holding [v,ov] (eval i X.env)
   standAt pos
   holding [v,ov,iv] (setItem ov iv v)
   release [v,ov,iv] []):=by intro _;rfl):PG X (.Subscript o i pos) (gSub to ti t):=by
 intro Ox s σ H v u Q I r h;rw[ha];refine OO (QZ (thn (ho Ox s σ H _ I h) λov s1 ⟨x,H1,I1,r1,q1⟩=>?_));refine OO (QZ (thn (hi Ox s1 σ H1 _ I1 q1) λiv s2 ⟨y,H2,I2,r2,q2⟩=>?_));refine OO (S7 (OO (QZ (thn (hs Ox s2 σ H2 x y v ov iv u _ I2 r1 r2 r q2) λ_ s3 ⟨H3,I3,q3⟩=>?_))));exact wpAny_release ⟨σ,H3,I3,q3⟩
def tAsg(te:TE)(g:TG):TS:=λD σ H=>te σ H λx H1=>g x σ H1 D.nx
theorem xP {tg e:Expr} {te:TE} {g:TG} (he:PE X e te) (hg:PG X tg g) (hs:swapsWithSole [tg] e pos.line X.env=pure false:=by rfl) (hw:swappedStores [tg] e X.env=pure none:=by rfl)
  (h1:(assignEach [tg] X.env).map (·.2)=[assign tg X.env]:=by rfl):PS X (.Assign [tg] e pos) (tAsg te g):=by
 intro Ox s σ H D I h;refine wpAny_Assign_stores (thn (he Ox s σ H _ I h) λv s1 ⟨x,H1,I1,r1,q1⟩=>?_) hs hw;rw[h1];exact thn (hg Ox s1 σ H1 x v _ I1 r1 q1) λ_ s2 q=>q
theorem cY{i:Nat}{x:Str}{e:Expr}{te:TE}{pos':Pos}(hN:X.N.Nodup)(hi:X.N[i]? =some x)(hx:Loc X.env.scope x)(he:PE X e te)(hs:swapsWith e (some (.Name x pos')) pos.line X.env=pure false:=by rfl)(hf:X.fn x=true\/X.env.scope.names.lookup x=some .local:=by first | exact .inl rfl | exact .inr rfl | assumption):
  PS X (.Assign [.Name x pos'] e pos) (tAsg te (gName i)):=by
 intro Ox s σ H D I h;refine wpAny_Assign_Name (thn (he Ox s σ H _ I h) λv s1 ⟨y,H1,I1,r1,q1⟩=>?_) hs;exact sW I1 hN hi hx r1 (λs2 I2=>⟨_,H1,I2,q1⟩) hf
end
structure It where
 go:Nat->Hp->Prop
 yld:Nat->Hp->V->Hp->Prop
 stop:Nat->Hp->Prop
def FpOk(X:Cx)(Ox:List (Addr × Obj))(H:Hp)(b:Addr):Prop:=
 H b=none/\b≠X.env.locals/\b∉X.fs/\(b∈X.ex\/X.s₀.heap.objs.size<=b)/\(∀ x c,X.env.cells.lookup x=some c->c≠b)/\∀ p∈X.pn++Ox,p.1≠b
variable{s:Shared}
theorem Inv.fpOk{Ox:List (Addr × Obj)}{σ:St}{H H':Hp}{b:Addr}(I:Inv X Ox σ H s)(hb:s.heap.objs.size<=b)(hn:H' b=none):FpOk X Ox H' b:=by
 refine⟨hn,RW (Pe I.lt hb),I.nofs hb,.inr (O7 I.sz hb),λx c e z=>?_,λp hp z=>?_⟩
 . obtain⟨v,q⟩:=I.cell x c e;exact absurd (Pe q.lt (by rw[z];exact hb)) (P3 _)
 . exact absurd (Pe (OZ (I.pin p hp).1) (by rw[z];exact hb)) (P3 _)
structure Turn(P:Program)(w:World)(K:Frag)(tg:Expr)(J:It)(fp:List Addr)(it:Addr)(tn:Nat->Heap->Prop):Prop where
 mem:it∈fp
 obj:∀ i h,tn i h->∀ b∈fp,∃ o,h.get? b=some o/\∀ v,o.data≠.cell v
 keep:∀ i h h',tn i h->(∀ b∈fp,∀ o,h.get? b=some o->h'.get? b=some o)->tn i h'
 item:∀(X:Cx),X.prog=P->X.w=w->X.K=K->X.calm=true->∀(i:Nat) (Ox:List (Addr × Obj)) (s:Shared) (σ:St) (H:Hp) (E:Value->Shared->Prop),Inv X Ox σ H s->(∀ b∈fp,FpOk X Ox H b)->tn i s.heap->J.go i H->
  wpAny (model P w) X.A (pyNext (.ref it)) (λr s1=>∃ u,r=some u/\
   wpAny (model P w) X.A (letOwnedTupleGo tg (.ref it) u) (λ_ s2=>∃ x H',Inv X Ox σ H' s2/\RelV x u/\J.yld i H x H'/\tn (i+1) s2.heap/\∀ b∈fp,H' b=none) E s1) E s
 done:∀(X:Cx),X.prog=P->X.w=w->X.K=K->X.calm=true->∀(i:Nat) (Ox:List (Addr × Obj)) (s:Shared) (σ:St) (H:Hp) (E:Value->Shared->Prop),Inv X Ox σ H s->(∀ b∈fp,FpOk X Ox H b)->tn i s.heap->J.stop i H->
  wpAny (model P w) X.A (pyNext (.ref it)) (λr s1=>r=none/\Inv X Ox σ H s1) E s
 self:∀(A:Around) (i:Nat) (s:Shared) (Q:Value->Shared->Prop) (E:Value->Shared->Prop),tn i s.heap->Q (.ref it) s->wpAny (model P w) A (pyIter (.ref it)) Q E s
abbrev TI:=St->Hp->(It->Hp->Prop)->Prop
def PIE(X:Cx)(Ox:List (Addr × Obj))(σ:St)(tg:Expr)(R:It->Hp->Prop)(itv:Value)(s2:Shared):Prop:=
 ∃(it:Addr) (fp:List Addr) (tn:Nat->Heap->Prop) (J:It) (H':Hp),itv=.ref it/\Inv X Ox σ H' s2/\Turn X.prog X.w X.K tg J fp it tn/\tn 0 s2.heap/\(∀ b∈fp,FpOk X Ox H' b)/\R J H'
def PI(X:Cx)(tg iter:Expr)(wi:TI):Prop:=
 ∀(Ox:List (Addr × Obj)) (s:Shared) (σ:St) (H:Hp) (R:It->Hp->Prop),Inv X Ox σ H s->wi σ H R->
  wpAny (model X.prog X.w) X.A (eval iter X.env) (λv s1=>wpAny (model X.prog X.w) X.A (pyIter v) (PIE X Ox σ tg R) X.xe s1) X.xe s
variable{tg:Expr}
theorem Ar {M:Model} {A:Around} {it:Addr} {o:Obj} {n:String} {vs:Array Value} {Q:Unit->Shared->Prop} (ho:s.heap.get? it=some o) (hc:o.cls=.type n) (hd:o.data=.fields vs)
  (hn:["enumerate","zip","dict_itemiterator","dict_reverseitemiterator","odict_iterator","itertools.zip_longest","itertools.pairwise"].contains n=false) (hQ:Q () s):wpAny M A (letOwnedTupleGo tg (.ref it) u) Q E s:=by
 unfold letOwnedTupleGo
 cases tg <;> first
  | exact Pf hQ
  | (cases u <;> first
    | exact Pf hQ
    | (refine OO (wpAny_load ho ?_)
       rw[hc,hd];show wpAny M A (if (["enumerate","zip","dict_itemiterator","dict_reverseitemiterator","odict_iterator","itertools.zip_longest","itertools.pairwise"].contains n&&vs[0]? ==some (rawInt _))=true then _ else _) Q E s;rw[O0 (by intro h;rw[hn,SZ]at h;cases h)];exact Pf hQ))
def Itl(K:Frag)(a:Addr):It:=
 ⟨λi H=>∃ xs x,SqL K H a xs/\xs[i]? =some x,λi H x H'=>H'=H/\∀ xs,SqL K H a xs->xs[i]? =some x,λi H=>∃ xs,SqL K H a xs/\xs.length<=i⟩
def Itr(lo:Int)(n:Nat):It:=⟨λi _=>i<n,λi H x H'=>H'=H/\x=.int (lo+i),λi _=>n<=i⟩
variable{P:Program}
theorem Bd{w:World}{K:Frag}(a it:Addr):Turn P w K tg (Itl K a) [it] it (λi h=>h.IsListIter it a i) where
 mem:=by simp
 obj:=λi h st b hb=>by
  have e:b=it:=by simpa using hb
  subst e;obtain⟨o,e,c,d⟩:=st;exact⟨o,e,λv z=>by rw[d]at z;cases z⟩
 keep:=λi h h' st k=>st.at λo e=>k it (by simp) o e
 item:=by
  intro X hP hw hK hc i Ox s σ H E I hf st hg;subst hP hw hK;obtain⟨xs,x,hq,hx⟩:=hg;obtain⟨OA,rv,p,hz⟩:=I.list hq;obtain⟨u,hu,ru⟩:=rv.get hx;obtain⟨f0,f1,f2,f3,f4,f5⟩:=hf it (by simp);refine wpAny_pyNext_list_item st p.isList (x:=u) (by simpa using hu) λh' st' sb=>?_;have I1:Inv X Ox σ H {s with heap:=h'}:=I.turned (t':=s.toks) (λb o hb e=>(sb.2 b hb).trans e) f0 f1 f3 f4 f5;obtain⟨o,e,c,d⟩:=id st';exact⟨u,rfl,Ar (s:={s with heap:=h'}) e c d (by decide) ⟨x,H,I1,ru,⟨rfl,λys hy=>by rw[I.list_inj hy hq];exact hx⟩,st',λb hb=>(hf b hb).1⟩⟩
 done:=by
  intro X hP hw hK hc i Ox s σ H E I hf st hg;subst hP hw hK;obtain⟨xs,hq,hx⟩:=hg;obtain⟨OA,rv,p,hz⟩:=I.list hq;obtain⟨f0,f1,f2,f3,f4,f5⟩:=hf it (by simp);have hl:=rv.length;exact wpAny_pyNext_list_end (I.ok.hd hc) st p.isList (by simp;omega) λh' eb=>⟨rfl,I.turned (t':=s.toks) (λb o hb e=>eb b o hb e) f0 f1 f3 f4 f5⟩
 self:=λ_ _ _ _ _ st h=>wpAny_pyIter_listiter st h
theorem As{w:World}{K:Frag}(it:Addr)(lo:Int)(n:Nat):Turn P w K tg (Itr lo n) [it] it (λi h=>IsRangeIter h it (lo+(i:Nat)*1) ((n:Int) - (i:Nat)) 1) where
 mem:=by simp
 obj:=λi h st b hb=>by
  have e:b=it:=by simpa using hb
  subst e
  exact⟨_,st,λv z=>by
   have z':Data.fields _=Data.cell v:=z;cases z'⟩
 keep:=λi h h' st k=>k it (by simp) _ st
 item:=by
  intro X hP hw hK hc i Ox s σ H E I hf st hg;subst hP hw hK;obtain⟨f0,f1,f2,f3,f4,f5⟩:=hf it (by simp);have W:=Walks.range (prog:=X.prog) (w:=X.w) (I.ok.hd hc) it lo 1 n;refine W.item i s _ _ hg st λv h' tk hv st' kk=>?_;obtain⟨t,rfl⟩:=hv;have I1:Inv X Ox σ H {s with heap:=h',toks:=tk}:=I.turned (λb o hb e=>kk b o (by simpa using hb) e) f0 f1 f3 f4 f5;refine⟨_,rfl,Ar (s:={s with heap:=h',toks:=tk}) (n:="range_iterator") st' rfl rfl (by decide) ⟨.int (lo+i),H,I1,⟨t,?_⟩,⟨rfl,rfl⟩,st',λb hb=>(hf b hb).1⟩⟩;rw[Int.mul_one]
 done:=by
  intro X hP hw hK hc i Ox s σ H E I hf st hg;subst hP hw hK;obtain⟨f0,f1,f2,f3,f4,f5⟩:=hf it (by simp);exact wpAny_pyNext_range_end (I.ok.hd hc) st (by have:n<=i:=hg;omega) λh' eb=>⟨rfl,I.turned (t':=s.toks) (λb o hb e=>eb b o hb e) f0 f1 f3 f4 f5⟩
 self:=λ_ _ _ _ _ st h=>wpAny_pyIter_rangeiter st h
section
variable{X:Cx}{tg:Expr}
def iList(K:Frag)(tl:TE):TI:=λσ H R=>tl σ H λx H1=>∃ a,x=.ref a/\(∃ xs,SqL K H1 a xs)/\R (Itl K a) H1
theorem aI{l:Expr}{tl:TE}(hl:PE X l tl):PI X tg l (iList X.K tl):=by
 intro Ox s σ H R I h;refine thn (hl Ox s σ H _ I h) λv s1 ⟨x,H1,I1,r1,q1⟩=>?_;obtain⟨a,e,⟨xs,hq⟩,q⟩:=q1;subst e;cases r1;obtain⟨OA,rv,p,hz⟩:=I1.list hq;refine Q9 p.isList ?_;refine⟨s1.heap.objs.size,[s1.heap.objs.size],_,_,H1,rfl,I1.kept (t':=s1.toks) λb o e=>OS _ e,Bd a _,⟨_,Pk _ rfl,rfl,rfl⟩,λb hb=>?_,q⟩;have e:b=s1.heap.objs.size:=by simpa using hb
 subst e;exact I1.fpOk (OQ _) (I1.hok.fresh (OQ _))
theorem xQ {Ox:List (Addr × Obj)} {σ:St} {H:Hp} {s:Shared} {R:It->Hp->Prop} {E:Value->Shared->Prop} {lo hi:Int} {t u v:Tok} {tk:Nat} (I:Inv X Ox σ H s) (h1: -(2^62)<=lo) (h2:lo<2^62) (h3: -(2^62)<=hi) (h4:hi<2^62)
  (q:R (Itr lo (hi-lo).toNat) H):wpAny (model X.prog X.w) X.A (pyIter (.ref s.heap.objs.size)) (PIE X Ox σ tg R) E {s with heap:=s.heap.push {cls:=.type "range",data:=.fields #[.int lo t,.int hi u,.int 1 v]},toks:=tk}:=by
 refine wpAny_pyIter_range (IsRange.new ..) (small_one h1 h2 h3 h4) ?_;have I1:Inv X Ox σ H {s with heap:=s.heap.push {cls:=.type "range",data:=.fields #[.int lo t,.int hi u,.int 1 v]},toks:=tk}:=I.kept λb o e=>OS _ e
 refine⟨(s.heap.push {cls:=.type "range",data:=.fields #[.int lo t,.int hi u,.int 1 v]}).objs.size,[(s.heap.push {cls:=.type "range",data:=.fields #[.int lo t,.int hi u,.int 1 v]}).objs.size],_,_,H,rfl,
  I1.kept (t':=tk) λb o e=>OS _ e,As _ lo (hi-lo).toNat,?_,λb hb=>?_,q⟩
 . have e1:lo+((0:Nat):Int)*1=lo:=by simp
   have e2:(((hi-lo).toNat:Nat):Int) - ((0:Nat):Int)=Builtin.Range.rangeSize lo hi 1:=by rw[rangeSize_one];split <;> omega
   show IsRangeIter _ _ (lo+((0:Nat):Int)*1) ((((hi-lo).toNat:Nat):Int) - ((0:Nat):Int)) 1;rw[e1,e2];exact Pk _ rfl
 . have e:b=(s.heap.push {cls:=.type "range",data:=.fields #[.int lo t,.int hi u,.int 1 v]}).objs.size:=by simpa using hb
   subst e;exact I1.fpOk (OQ _) (I1.hok.fresh (OQ _))
def dG(ta:TA):TI:=λσ H R=>ta σ H λvs H1=>∃ j:Int,vs=[.int j]/\ -(2^62)<=j/\j<2^62/\R (Itr 0 j.toNat) H1
def rL(ta:TA):TI:=λσ H R=>ta σ H λvs H1=>∃ i j:Int,vs=[.int i,.int j]/\(-(2^62)<=i/\i<2^62/\ -(2^62)<=j/\j<2^62)/\R (Itr i (j-i).toNat) H1
theorem bF{a:Expr}{ta:TA}{p pos:Pos}(hg:Gl X "range")(hm:X.mg "range"=none)(ha:PA X [a] ta)(hs:starEach [a] X.env=[(false,eval a X.env)]:=by rfl):PI X tg (.Call (.Name "range" p) [a] [] pos) (dG ta):=by
 intro Ox s σ H R I h;refine Call_ (cW I hg hm Tb (Pm (thn (ha pos Ox s σ H _ I h) λus s1 ⟨vs,H1,I1,r1,q1⟩=>?_) hs rfl));obtain⟨j,e,q1,q2,q⟩:=q1;subst e
 cases r1 with
 | cons r rr=>
  cases rr;obtain⟨t,rfl⟩:=r;exact call_range_1 (xQ I1 (by omega) (by omega) q1 q2 (by simpa using q))
theorem ww{a b:Expr}{ta:TA}{p pos:Pos}(hg:Gl X "range")(hm:X.mg "range"=none)(ha:PA X [a,b] ta)(hs:starEach [a,b] X.env=[(false,eval a X.env),(false,eval b X.env)]:=by rfl)(hs2:starEach [b] X.env=[(false,eval b X.env)]:=by rfl):
  PI X tg (.Call (.Name "range" p) [a,b] [] pos) (rL ta):=by
 intro Ox s σ H R I h;refine Call_ (cW I hg hm Tb (Pm (thn (ha pos Ox s σ H _ I h) λus s1 ⟨vs,H1,I1,r1,q1⟩=>?_) (by rw[hs,hs2]) (by rw[hs2];rfl)));obtain⟨i,j,e,⟨q1,q2,q3,q4⟩,q⟩:=q1;subst e
 cases r1 with
 | cons r rr=>
  cases rr with
  | cons r' rr=>
   cases rr;obtain⟨t,rfl⟩:=r;obtain⟨t',rfl⟩:=r';exact call_range_2 (xQ I1 q1 q2 q3 q4 q)
def tFor(wi:TI)(g:TG)(tb:TS):TS:=λD σ H=>wi σ H λJ H1=>∃ W:Nat->Nat->St->Hp->Prop,(∃ m,W 0 m σ H1)/\∀ i m σ H,W i m σ H->
 (J.stop i H/\D.nx σ H)\/(J.go i H/\∃ N:St->Hp->Prop,(∀ σ' H',N σ' H'->∃ m',m'<m/\W (i+1) m' σ' H')/\∀ x H',J.yld i H x H'->g x σ H' λσ2 H2=>tb {D with nx:=N,ct:=N,bk:=D.nx} σ2 H2)
def qD(fp:List Addr)(h:Heap):List (Addr × Obj):=fp.filterMap λb=>(h.get? b).map λo=>(b,o)
theorem mh{fp:List Addr}{h:Heap}{b:Addr}{o:Obj}(hb:b∈fp)(e:h.get? b=some o):(b,o)∈qD fp h:=List.mem_filterMap.mpr ⟨b,hb,by rw[e];rfl⟩
theorem Be{fp:List Addr}{h:Heap}{p:Addr × Obj}(hp:p∈qD fp h):p.1∈fp/\h.get? p.1=some p.2:=by
 obtain⟨b,hb,e⟩:=List.mem_filterMap.mp hp
 cases q:h.get? b with
 | none=>rw[q]at e;cases e
 | some o=>
  rw[q]at e;have e':(b,o)=p:=Qk e;subst e';exact⟨hb,q⟩
theorem Inv.pinned{Ox:List (Addr × Obj)}{σ:St}{H:Hp}{s:Shared}{fp:List Addr}(I:Inv X Ox σ H s)(hf:∀ b∈fp,FpOk X Ox H b)(ho:∀ b∈fp,∃ o,s.heap.get? b=some o/\∀ v,o.data≠.cell v):Inv X (Ox++qD fp s.heap) σ H s:=
 I.pins_of λp hp=>(OY.mp hp).elim (λz=>I.pin p (PM _ z)) λz=>by
  obtain⟨hb,e⟩:=Be z;obtain⟨f0,f1,f2,_⟩:=hf p.1 hb;obtain⟨o,e',d⟩:=ho p.1 hb;rw[e]at e';cases e';exact⟨e,f0,f1,f2,d⟩
theorem Inv.unpinned{Ox pl:List (Addr × Obj)}{σ:St}{H:Hp}{s:Shared}(I:Inv X (Ox++pl) σ H s):Inv X Ox σ H s:=I.pins_of λp hp=>I.pin p (PM _ (Qq _ hp))
theorem cq {iter:Expr} {body:List Stmt} {wi:TI} {g:TG} {tb:TS} {pos:Pos} (hp:PassesOwn (model X.prog X.w) X.A X.env X.xe) (hc:X.calm=true) (hi:PI X tg iter wi) (hg:PG X tg g) (hb:PSs X body tb)
  (hs:∀ x,foldedSetIterable iter X.env x=pure x:=by intro _;rfl):PS X (.For tg iter body [] pos) (tFor wi g tb):=by
 intro Ox s σ H D I h;refine wpAny_For (thn (hi Ox s σ H _ I h) λv s1 h1=>thn h1 λitv s2 h2=>?_) hs;obtain⟨it,fp,tn,J,H2,e,I2,T,st2,f2,W,⟨m0,w0⟩,turn⟩:=h2;subst e;have stat:∀{H':Hp},(∀ b∈fp,H' b=none)->∀ b∈fp,FpOk X Ox H' b:=λhn b hb=>⟨hn b hb,(f2 b hb).2⟩;refine codeAny_forLoop_any (λn s'=>∃ i σ' H',Inv X Ox σ' H' s'/\tn i s'.heap/\(∀ b∈fp,H' b=none)/\W i n σ' H') ?_ m0 ⟨0,σ,H2,I2,st2,λb hb=>(f2 b hb).1,w0⟩;rintro n s3 ⟨i,σ3,H3,I3,st3,fr3,w3⟩;rcases turn i n σ3 H3 w3 with ⟨stop,qn⟩ | ⟨go,N,hN,step⟩
 . refine Rq hp (thn (T.done X rfl rfl rfl hc i Ox s3 σ3 H3 X.xe I3 (stat fr3) st3 stop) λr s4 ⟨hr,I4⟩=>?_);subst hr;exact Qm ⟨σ3,H3,I4,qn⟩
 . refine Rq hp (thn (T.item X rfl rfl rfl hc i Ox s3 σ3 H3 X.xe I3 (stat fr3) st3 go) λr s4 ⟨u,hr,h4⟩=>?_);subst hr;refine Rq hp (thn h4 λ_ s5 ⟨x,H5,I5,r5,y5,st5,fr5⟩=>?_);have I5':=I5.pinned (stat fr5) (T.obj _ _ st5);refine Rq hp (thn (hg _ s5 σ3 H5 x u _ I5' r5 (step x H5 y5)) λ_ s6 ⟨σ6,H6,I6,q6⟩=>?_);refine Rq hp (thn (hb _ s6 σ6 H6 _ I6 q6) λf s7 q7=>?_)
   have again:∀{σ7:St} {H7:Hp},Inv X (Ox++qD fp s5.heap) σ7 H7 s7->N σ7 H7->∃ m,m<n/\∃ i σ' H',Inv X Ox σ' H' s7/\tn i s7.heap/\(∀ b∈fp,H' b=none)/\W i m σ' H':=λ{σ7 H7} I7 n7=>by
    obtain⟨m',hm,w7⟩:=hN σ7 H7 n7;refine⟨m',hm,i+1,σ7,H7,I7.unpinned,T.keep _ _ _ st5 λb hb o e=>(I7.pin (b,o) (PM _ (PM _ (mh hb e)))).1,λb hb=>?_,w7⟩;obtain⟨o,e,d⟩:=T.obj _ _ st5 b hb;exact(I7.pin (b,o) (PM _ (PM _ (mh hb e)))).2.1
   cases f with
   | next=>obtain⟨σ7,H7,I7,n7⟩:=q7;exact again I7 n7
   | cont=>obtain⟨σ7,H7,I7,n7⟩:=q7;exact again I7 n7
   | brk=>obtain⟨σ7,H7,I7,q7⟩:=q7;exact⟨σ7,H7,I7.unpinned,q7⟩
   | ret v=>obtain⟨x7,σ7,H7,I7,r7,q7⟩:=q7;exact⟨x7,σ7,H7,I7.unpinned,r7,q7⟩
end
theorem kO {K:Frag} {a:Addr} {xs:List V} {g:TG} {tb:TS} {D:Ends} {σ:St} {H:Hp} (Pv:Nat->St->Hp->Prop) (h0:Pv 0 σ H) (hl:∀ i σ H,i<=xs.length->Pv i σ H->SqL K H a xs)
  (hs:∀ i x σ H,xs[i]? =some x->Pv i σ H->g x σ H λσ2 H2=>tb {D with nx:=Pv (i+1),ct:=Pv (i+1),bk:=D.nx} σ2 H2) (hd:∀ σ H,Pv xs.length σ H->D.nx σ H):
  ∃ W:Nat->Nat->St->Hp->Prop,(∃ m,W 0 m σ H)/\∀ i m σ H,W i m σ H->
   ((Itl K a).stop i H/\D.nx σ H)\/((Itl K a).go i H/\∃ N:St->Hp->Prop,(∀ σ' H',N σ' H'->∃ m',m'<m/\W (i+1) m' σ' H')/\∀ x H',(Itl K a).yld i H x H'->g x σ H' λσ2 H2=>tb {D with nx:=N,ct:=N,bk:=D.nx} σ2 H2):=by
 refine⟨λi m σ H=>m=xs.length-i/\i<=xs.length/\Pv i σ H,⟨xs.length,by simp,Py _,h0⟩,?_⟩;rintro i m σ H ⟨rfl,hi,p⟩;have q:=hl i σ H hi p;by_cases hlt:i<xs.length
 . refine .inr ⟨⟨xs,xs[i],q,by simp[hlt]⟩,Pv (i+1),λσ' H' p'=>⟨xs.length - (i+1),by omega,rfl,hlt,p'⟩,λx H' y=>?_⟩;obtain⟨e,y⟩:=y;subst e;exact hs i x σ _ (y xs q) p
 . have e:i=xs.length:=by omega
   subst e;exact .inl ⟨⟨xs,q,OQ _⟩,hd σ H p⟩
theorem cK {lo:Int} {n:Nat} {g:TG} {tb:TS} {D:Ends} {σ:St} {H:Hp} (Pv:Nat->St->Hp->Prop) (h0:Pv 0 σ H)
  (hs:∀ i σ H,i<n->Pv i σ H->g (.int (lo+i)) σ H λσ2 H2=>tb {D with nx:=Pv (i+1),ct:=Pv (i+1),bk:=D.nx} σ2 H2) (hd:∀ σ H,Pv n σ H->D.nx σ H):
  ∃ W:Nat->Nat->St->Hp->Prop,(∃ m,W 0 m σ H)/\∀ i m σ H,W i m σ H->
   ((Itr lo n).stop i H/\D.nx σ H)\/((Itr lo n).go i H/\∃ N:St->Hp->Prop,(∀ σ' H',N σ' H'->∃ m',m'<m/\W (i+1) m' σ' H')/\∀ x H',(Itr lo n).yld i H x H'->g x σ H' λσ2 H2=>tb {D with nx:=N,ct:=N,bk:=D.nx} σ2 H2):=by
 refine⟨λi m σ H=>m=n-i/\i<=n/\Pv i σ H,⟨n,by simp,Py _,h0⟩,?_⟩;rintro i m σ H ⟨rfl,hi,p⟩;by_cases hlt:i<n
 . refine .inr ⟨hlt,Pv (i+1),λσ' H' p'=>⟨n - (i+1),by omega,rfl,hlt,p'⟩,λx H' y=>?_⟩;obtain⟨e,y⟩:=y;subst e y;exact hs i σ _ hlt p
 . have e:i=n:=by omega
   subst e;exact .inl ⟨OQ _,hd σ H p⟩
abbrev R2:=V->V->Hp->VK->Prop
def OpR(X:Cx)(f:Value->Value->Sem Value)(r:R2):Prop:=
 ∀(Ox:List (Addr × Obj)) (s:Shared) (σ:St) (H:Hp) (x y:V) (v u:Value) (Q:VK),Inv X Ox σ H s->RelV x v->RelV y u->r x y H Q->
  wpAny (model X.prog X.w) X.A (f v u) (EP X Ox σ Q) X.xe s
def CallR(X:Cx)(f:Value)(r:List V->Hp->VK->Prop):Prop:=
 ∀(Ox:List (Addr × Obj)) (s:Shared) (σ:St) (H:Hp) (xs:List V) (us:List Value) (Q:VK),Inv X Ox σ H s->Vals xs us->r xs H Q->
  wpAny (model X.prog X.w) X.A (call f us) (EP X Ox σ Q) X.xe s
def tOp(r:R2)(ta tb:TE):TE:=λσ H Q=>ta σ H λx H1=>tb σ H1 λy H2=>r x y H2 Q
def tUn(r:V->Hp->VK->Prop)(ta:TE):TE:=λσ H Q=>ta σ H λx H1=>r x H1 Q
def rI(C:Int->Int->Prop)(g:Int->Int->V):R2:=λx y H Q=>∃ i j,x=.int i/\y=.int j/\C i j/\Q (g i j) H
def rI0(g:Int->Int->V):R2:=λx y H Q=>∃ i j,x=.int i/\y=.int j/\Q (g i j) H
def rU(g:Int->V):V->Hp->VK->Prop:=λx H Q=>∃ i,x=.int i/\Q (g i) H
section
variable{X:Cx}{a b c:Expr}{ta tb tc:TE}{pos:Pos}
theorem binT (ha:PE X a ta) (hb:PE X b tb) {Ox:List (Addr × Obj)} {s:Shared} {σ:St} {H:Hp} {R:V->V->Hp->Prop} (I:Inv X Ox σ H s)
  (h:ta σ H λx H1=>tb σ H1 λy H2=>R x y H2) {Q:Value->Shared->Prop} {f:Value->Value->Sem Value}
  (hf:∀ v u s2 x y H2,Inv X Ox σ H2 s2->RelV x v->RelV y u->R x y H2->wpAny (model X.prog X.w) X.A (f v u) Q X.xe s2):
  wpAny (model X.prog X.w) X.A (eval a X.env) (λv s₁=>wpAny (model X.prog X.w) X.A (eval b X.env) (λu s₂=>wpAny (model X.prog X.w) X.A (f v u) Q X.xe s₂) X.xe s₁) X.xe s:=by
 refine thn (ha Ox s σ H _ I h) λv s1 ⟨x,H1,I1,r1,q1⟩=>?_;refine thn (hb Ox s1 σ H1 _ I1 q1) λu s2 ⟨y,H2,I2,r2,q2⟩=>?_;exact hf v u s2 x y H2 I2 r1 r2 q2
theorem ao{op:Operator}{r:R2}(ho:OpR X (binaryOp op) r)(ha:PE X a ta)(hb:PE X b tb):PE X (.BinOp a op b pos) (tOp r ta tb):=by
 intro Ox s σ H Q I h;exact wpAny_BinOp (binT ha hb I h λv u s2 x y H2 I2 rx ry q=>ho Ox s2 σ H2 x y v u Q I2 rx ry q)
theorem opI {f:Value->Value->Sem Value} {C:Int->Int->Prop} {g:Int->Int->Int}
  (rule:∀(i j:Int) (t u:Tok) (s:Shared) (Q:Value->Shared->Prop) (E:Value->Shared->Prop),C i j->Q (.int (g i j) s.toks) {s with toks:=s.toks+1}->wpAny (model X.prog X.w) X.A (f (.int i t) (.int j u)) Q E s):
  OpR X f (rI C λi j=>.int (g i j)):=by
 intro Ox s σ H x y v u Q I rx ry h;obtain⟨i,j,rfl,rfl,hc,q⟩:=h;obtain⟨t,rfl⟩:=rx;obtain⟨t',rfl⟩:=ry;exact rule i j t t' s _ _ hc ⟨.int (g i j),H,I.tok _,⟨_,rfl⟩,q⟩
theorem Fb {f:Value->Value->Sem Value} {g:Int->Int->Int}
  (rule:∀(i j:Int) (t u:Tok) (s:Shared) (Q:Value->Shared->Prop) (E:Value->Shared->Prop),Q (.int (g i j) s.toks) {s with toks:=s.toks+1}->wpAny (model X.prog X.w) X.A (f (.int i t) (.int j u)) Q E s):
  OpR X f (rI0 λi j=>.int (g i j)):=by
 intro Ox s σ H x y v u Q I rx ry h;obtain⟨i,j,rfl,rfl,q⟩:=h;obtain⟨t,rfl⟩:=rx;obtain⟨t',rfl⟩:=ry;exact rule i j t t' s _ _ ⟨.int (g i j),H,I.tok _,⟨_,rfl⟩,q⟩
theorem At {f:Value->Value->Sem Value} {g:Int->Int->Bool}
  (rule:∀(i j:Int) (t u:Tok) (s:Shared) (Q:Value->Shared->Prop) (E:Value->Shared->Prop),Q (.bool (g i j)) s->wpAny (model X.prog X.w) X.A (f (.int i t) (.int j u)) Q E s):
  OpR X f (rI0 λi j=>.bl (g i j)):=by
 intro Ox s σ H x y v u Q I rx ry h;obtain⟨i,j,rfl,rfl,q⟩:=h;obtain⟨t,rfl⟩:=rx;obtain⟨t',rfl⟩:=ry;exact rule i j t t' s _ _ ⟨.bl (g i j),H,I,rfl,q⟩
def CDiv(i j:Int):Prop:=0<j/\j<1073741824
def CPow(i j:Int):Prop:=0<=j/\j<=1000000/\i.natAbs<2^64
def CMul(i j:Int):Prop:=(-(2^64)<i/\i<2^64)\/(-(2^64)<j/\j<2^64)
theorem CMul.ok{i j:Int}(h:CMul i j):IntMulOk i j:=by
 rcases h with ⟨h1,h2⟩ | ⟨h1,h2⟩
 . exact .of_left (intBits_le_64 h1 h2)
 . exact .of_right (intBits_le_64 h1 h2)
theorem Fc:OpR X (binaryOp .Add) (rI0 λi j=>.int (i+j)):=Fb λ_ _ _ _ _ _ _ q=>add_int q
theorem Fd:OpR X (binaryOp .Sub) (rI0 λi j=>.int (i-j)):=Fb λ_ _ _ _ _ _ _ q=>sub_int q
theorem Fe:OpR X (binaryOp .Mult) (rI CMul λi j=>.int (i*j)):=opI λ_ _ _ _ _ _ _ hc q=>mul_int q hc.ok
theorem D9:OpR X (binaryOp .FloorDiv) (rI CDiv λi j=>.int (i/j)):=opI λi j _ _ _ _ _ hc q=>by
 have h1:(0:Int)<j:=hc.1;have h2:j<1073741824:=hc.2;exact floordiv_int (by omega) (by rw[Int.fdiv_eq_ediv_of_nonneg i (by omega)];exact q) (.inl (PyProof.noPylong_small (by omega)))
theorem Ff:OpR X (binaryOp .Mod) (rI (λ_ j=>0<j) λi j=>.int (i%j)):=opI λi j _ _ _ _ _ hc q=>by
 have h1:(0:Int)<j:=hc;exact mod_int' (by omega) (by rw[Int.fmod_eq_emod_of_nonneg i (by omega)];exact q)
end
def scal:V->V->Bool
 | .non,.non=>true | .non,.int _=>true | .int _,.non=>true | .non,.bl _=>true | .bl _,.non=>true | .non,.str _=>true | .str _,.non=>true
 | .int _,.int _=>true | .bl _,.bl _=>true | .str _,.str _=>true | .byt _,.byt _=>true
 | .int _,.str _=>true | .str _,.int _=>true | .bl _,.str _=>true | .str _,.bl _=>true
 | _,_=>false
def rEq:R2:=λx y H Q=>scal x y=true/\Q (.bl (decide (x=y))) H
def rNe:R2:=λx y H Q=>scal x y=true/\Q (.bl (!decide (x=y))) H
theorem zU{i j:Int}:decide (V.int i=V.int j)=(i==j):=by
 rw[Pw];simp
theorem Bf{i j:Bool}:decide (V.bl i=V.bl j)=(i==j):=by
 rw[Pw];simp
theorem zV{i j:Str}:decide (V.str i=V.str j)=(i==j):=by
 rw[Pw];simp
theorem zW{i j:Array UInt8}:decide (V.byt i=V.byt j)=(i.toList==j.toList):=by
 rw[Pw];cases i;cases j;simp
section
variable{X:Cx}{a b c:Expr}{ta tb tc:TE}{pos:Pos}
theorem aQ{Ox:List (Addr × Obj)}{σ:St}{H:Hp}{s:Shared}{Q:VK}{k k':Bool}(I:Inv X Ox σ H s)(q:Q (.bl k) H)(e:k=k'):EP X Ox σ Q (.bool k') s:=by
 subst e;exact⟨.bl k,H,I,rfl,q⟩
theorem Au:OpR X (compareOp .Eq) rEq:=by
 intro Ox s σ H x y v u Q I rx ry h;obtain⟨hs,q⟩:=h
 cases x with
 | non=>
  cases rx
  cases y with
  | non=>cases ry;exact PySem.EqNone.eq_none_none (aQ I q (by simp))
  | bl j=>cases ry;exact PySem.EqNone.eq_none_bool (aQ I q (by simp))
  | int j=>obtain⟨t',rfl⟩:=ry;exact PySem.EqNone.eq_none_int (aQ I q (by simp))
  | str j=>obtain⟨t',rfl⟩:=ry;exact PySem.EqNone.eq_none_str (aQ I q (by simp))
  | _=>exact absurd (show false=true from hs) OI
 | bl i=>
  cases rx
  cases y with
  | non=>cases ry;exact PySem.EqNone.eq_bool_none (aQ I q (by simp))
  | bl j=>cases ry;exact eq_bool (aQ I q Bf)
  | str j=>obtain⟨t',rfl⟩:=ry;exact PySem.EqMixed.eq_bool_str (aQ I q (by simp))
  | _=>exact absurd (show false=true from hs) OI
 | int i=>
  obtain⟨t,rfl⟩:=rx
  cases y with
  | non=>cases ry;exact PySem.EqNone.eq_int_none (aQ I q (by simp))
  | int j=>obtain⟨t',rfl⟩:=ry;exact eq_int (aQ I q zU)
  | str j=>obtain⟨t',rfl⟩:=ry;exact PySem.EqMixed.eq_int_str (aQ I q (by simp))
  | _=>exact absurd (show false=true from hs) OI
 | str i=>
  obtain⟨t,rfl⟩:=rx
  cases y with
  | non=>cases ry;exact PySem.EqNone.eq_str_none (aQ I q (by simp))
  | bl j=>cases ry;exact PySem.EqMixed.eq_str_bool (aQ I q (by simp))
  | int j=>obtain⟨t',rfl⟩:=ry;exact PySem.EqMixed.eq_str_int (aQ I q (by simp))
  | str j=>obtain⟨t',rfl⟩:=ry;exact eq_str (aQ I q zV)
  | _=>exact absurd (show false=true from hs) OI
 | byt i=>
  obtain⟨t,rfl⟩:=rx
  cases y with
  | byt j=>obtain⟨t',rfl⟩:=ry;exact PySem.W.eq_bytes (aQ I q zW)
  | _=>exact absurd (show false=true from hs) OI
 | _=>cases y <;> exact absurd (show false=true from hs) OI
theorem Av:OpR X (compareOp .NotEq) rNe:=by
 intro Ox s σ H x y v u Q I rx ry h;obtain⟨hs,q⟩:=h
 cases x with
 | non=>
  cases rx
  cases y with
  | non=>cases ry;exact PySem.EqNone.ne_none_none (aQ I q (by simp))
  | bl j=>cases ry;exact PySem.EqNone.ne_none_bool (aQ I q (by simp))
  | int j=>obtain⟨t',rfl⟩:=ry;exact PySem.EqNone.ne_none_int (aQ I q (by simp))
  | str j=>obtain⟨t',rfl⟩:=ry;exact PySem.EqNone.ne_none_str (aQ I q (by simp))
  | _=>exact absurd (show false=true from hs) OI
 | bl i=>
  cases rx
  cases y with
  | non=>cases ry;exact PySem.EqNone.ne_bool_none (aQ I q (by simp))
  | bl j=>cases ry;exact ne_bool (aQ I q (congrArg not Bf))
  | str j=>obtain⟨t',rfl⟩:=ry;exact PySem.EqMixed.ne_bool_str (aQ I q (by simp))
  | _=>exact absurd (show false=true from hs) OI
 | int i=>
  obtain⟨t,rfl⟩:=rx
  cases y with
  | non=>cases ry;exact PySem.EqNone.ne_int_none (aQ I q (by simp))
  | int j=>obtain⟨t',rfl⟩:=ry;exact ne_int (aQ I q (congrArg not zU))
  | str j=>obtain⟨t',rfl⟩:=ry;exact PySem.EqMixed.ne_int_str (aQ I q (by simp))
  | _=>exact absurd (show false=true from hs) OI
 | str i=>
  obtain⟨t,rfl⟩:=rx
  cases y with
  | non=>cases ry;exact PySem.EqNone.ne_str_none (aQ I q (by simp))
  | bl j=>cases ry;exact PySem.EqMixed.ne_str_bool (aQ I q (by simp))
  | int j=>obtain⟨t',rfl⟩:=ry;exact PySem.EqMixed.ne_str_int (aQ I q (by simp))
  | str j=>obtain⟨t',rfl⟩:=ry;exact ne_str (aQ I q (congrArg not zV))
  | _=>exact absurd (show false=true from hs) OI
 | byt i=>
  obtain⟨t,rfl⟩:=rx
  cases y with
  | byt j=>obtain⟨t',rfl⟩:=ry;exact PySem.W.ne_bytes (aQ I q (congrArg not zW))
  | _=>exact absurd (show false=true from hs) OI
 | _=>cases y <;> exact absurd (show false=true from hs) OI
theorem Gm:OpR X (compareOp .Lt) (rI0 λi j=>.bl (decide (i<j))):=At λ_ _ _ _ _ _ _ q=>lt_int q
theorem Gn:OpR X (compareOp .LtE) (rI0 λi j=>.bl (decide (i<=j))):=At λ_ _ _ _ _ _ _ q=>le_int q
theorem Go:OpR X (compareOp .Gt) (rI0 λi j=>.bl (decide (j<i))):=At λ_ _ _ _ _ _ _ q=>gt_int q
theorem Gp:OpR X (compareOp .GtE) (rI0 λi j=>.bl (decide (j<=i))):=At λ_ _ _ _ _ _ _ q=>ge_int q
theorem Bg:OpR X (compareOp .In) (λx y H Q=>∃ i j,x=.str i/\y=.str j/\Q (.bl (!(Builtin.Str.occurrences j i 0 j.length 1).isEmpty)) H):=by
 intro Ox s σ H x y v u Q I rx ry h;obtain⟨i,j,rfl,rfl,q⟩:=h;obtain⟨t,rfl⟩:=rx;obtain⟨t',rfl⟩:=ry;exact in_str (aQ I q rfl)
theorem Bh:OpR X (compareOp .Is) (λx y H Q=>y=.non/\Q (.bl (decide (x=.non))) H):=by
 intro Ox s σ H x y v u Q I rx ry h;obtain⟨rfl,q⟩:=h;cases ry;refine is_none_gen (aQ I q ?_)
 cases x <;> first
  | (cases rx;rfl)
  | (obtain⟨t,rfl⟩:=rx;rfl)
theorem zX:OpR X (compareOp .IsNot) (λx y H Q=>y=.non/\Q (.bl (!decide (x=.non))) H):=by
 intro Ox s σ H x y v u Q I rx ry h;obtain⟨rfl,q⟩:=h;cases ry;refine isnot_none_gen (aQ I q ?_)
 cases x <;> first
  | (cases rx;rfl)
  | (obtain⟨t,rfl⟩:=rx;rfl)
theorem av(b:Expr){op:CmpOp}(h:op≠.In:=by decide)(h2:op≠.NotIn:=by decide):behindInMarks op b=false:=by
 have e1:(op==CmpOp.In)=false:=by cases op <;> first | rfl | exact absurd rfl h
 have e2:(op==CmpOp.NotIn)=false:=by cases op <;> first | rfl | exact absurd rfl h2
 cases b <;> simp[behindInMarks,e1,e2]
theorem cu{op:CmpOp}{r:R2}(ho:OpR X (compareOp op) r)(ha:PE X a ta)(hb:PE X b tb)(hm:behindInMarks op b=false):PE X (.Compare a [op] [b] pos) (tOp r ta tb):=by
 intro Ox s σ H Q I h;exact wpAny_Compare1 (binT ha hb I h λv u s2 x y H2 I2 rx ry q=>ho Ox s2 σ H2 x y v u Q I2 rx ry q) hm
def tTest(t:TE):TT:=λσ H Q=>t σ H λx H'=>∃ k,x=.bl k/\Q k H'
theorem ap{op:CmpOp}{r:R2}(ho:OpR X (compareOp op) r)(ha:PE X a ta)(hb:PE X b tb)(hm:behindInMarks op b=false):PT X (.Compare a [op] [b] pos) (tTest (tOp r ta tb)):=by
 intro Ox s σ H Q I h
 refine wpAny_isTrue_Compare1 (thn (ha Ox s σ H _ I h) λv s1 ⟨x,H1,I1,r1,q1⟩=>thn (hb Ox s1 σ H1 _ I1 q1) λu s2 ⟨y,H2,I2,r2,q2⟩=>
  thn (ho Ox s2 σ H2 x y v u _ I2 r1 r2 q2) λc s3 ⟨z,H3,I3,r3,k,e,q3⟩=>?_) hm
 subst e;cases r3;exact Qv ⟨H3,I3,q3⟩
theorem qE:(sizeLine:Nat)<2^63:=by rw[S0];decide
theorem Aw:OpR X (binaryOp .Add) (λx y H Q=>∃ i j,x=.str i/\y=.str j/\i.length+j.length<=sizeLine/\Q (.str (i++j)) H):=by
 intro Ox s σ H x y v u Q I rx ry h;obtain⟨i,j,rfl,rfl,hz,q⟩:=h;obtain⟨t,rfl⟩:=rx;obtain⟨t',rfl⟩:=ry;exact add_str (λt' tk=>⟨.str (i++j),H,I.tok _,⟨_,rfl⟩,q⟩) hz
theorem dh{x:V}{us:List Value}(r:Vals [x] us):∃ u,us=[u]/\RelV x u:=by
 cases r with
 | cons r1 r2=>cases r2;exact⟨_,rfl,r1⟩
theorem xJ{x y:V}{us:List Value}(r:Vals [x,y] us):∃ u w',us=[u,w']/\RelV x u/\RelV y w':=by
 cases r with
 | cons r1 r2=>
  cases r2 with
  | cons r3 r4=>cases r4;exact⟨_,_,rfl,r1,r3⟩
theorem Bi(hc:X.calm=true):CallR X (.builtin "max") (λxs H Q=>∃ i j,xs=[.int i,.int j]/\Q (.int (if j>i then j else i)) H):=by
 intro Ox s σ H xs us Q I r h;obtain⟨i,j,rfl,q⟩:=h;obtain⟨u,w',rfl,⟨t,rfl⟩,⟨t',rfl⟩⟩:=xJ r;refine max_two_ints (I.ok.hd hc) λh' tk k=>⟨_,H,I.kept k,?_,q⟩;by_cases hj:j>i
 . rw[O6 hj,O6 hj];exact⟨_,rfl⟩
 . rw[O0 hj,O0 hj];exact⟨_,rfl⟩
theorem wx:CallR X (.type "int") (λxs H Q=>(∃ i,xs=[.int i]/\Q (.int i) H)\/∃ k,xs=[.bl k]/\Q (.int (if k then 1 else 0)) H):=by
 intro Ox s σ H xs us Q I r h;rcases h with ⟨i,rfl,q⟩ | ⟨k,rfl,q⟩
 . obtain⟨u,rfl,t,rfl⟩:=dh r;exact call_int_int ⟨.int i,H,I,⟨_,rfl⟩,q⟩
 . obtain⟨u,rfl,r1⟩:=dh r;cases r1;exact call_int_bool ⟨.int (if k then 1 else 0),H,I.tok _,⟨_,rfl⟩,q⟩
end
structure ObjM(h:Heap)(x dx C:Addr)(mA:Str->Option Value):Prop where
 obj:h.get? x=some (PySem.W.instObj C dx)
 ns:h.Ns1 dx mA
 ne:dx≠x
variable{mA:Str->Option Value}
theorem Bj{h:Heap}{dx:Addr}(n:h.Ns1 dx mA):∃ od,h.get? dx=some od/\∀ name,PySem.W.lookIn name od=some (mA name):=by
 obtain⟨o,es,ep,ho,hd,hk,_,hm⟩:=n;refine⟨o,ho,λname=>?_⟩;have e:=hm name;unfold nsFind findBy at e;rw[← Array.find?_toList]at e;unfold PySem.W.lookIn;rw[hd]
 try dsimp only
 split
 . rename_i y q
   rw[q]at e;exact congrArg some e
 . rename_i q
   rw[q]at e
   have a:es.toList.any (·.refKey)=false:=by
    rw[List.any_eq_false];intro y hy;obtain⟨z,t,hkey⟩:=hk y (Array.mem_toList_iff.mp hy);simp[DictEntry.refKey,hkey]
   have a':¬ es.toList.any (·.refKey)=true:=by rw[a];exact OI
   rw[O0 a'];exact congrArg some e
variable{C:Addr}
theorem ObjM.look{h:Heap}{x dx:Addr}(I:ObjM h x dx C mA):∃ od,PySem.W.InstAt h x (PySem.W.instObj C dx) C (some od)/\∀ name,PySem.W.lookIn name od=some (mA name):=
 let ⟨od,ho,hl⟩:=Bj I.ns
 ⟨od,⟨I.obj,rfl,rfl,ho⟩,hl⟩
section
variable{prog:Program}{w:World}{A:Around}{E:Value->Shared->Prop}{s:Shared}{K:Frag}{x dx C f:Addr}{mA:Str->Option Value}{name:Str}{v:Value}
theorem Ea {expr:Bool} {Q:Value->Shared->Prop} (X:K.In s.heap) (I:ObjM s.heap x dx C mA) (hg:PySem.W.plainGet K C name=true) (hh:PySem.W.hasDictIn K C=true)
  (ha:findIn K (.ref C) name=some none) (hv:mA name=some v) (hv':PySem.W.handedIn v=true) (h:Q v {s with toks:=s.toks+1}):
  wpAny (model prog w) A (getAttr (.ref x) name expr) Q E s:=by
 obtain⟨od,J,hl⟩:=I.look;exact PySem.W.get_value X J (RS hg).1 (PySem.W.findObj_own hh ha rfl (by rw[hl,hv])) hv' h
theorem CQ {pl:Sem Bool} {Q:Value × List Value->Shared->Prop} (X:K.In s.heap) (I:ObjM s.heap x dx C mA) (hg:PySem.W.plainGet K C name=true)
  (hf:findIn K (.ref C) name=some (some (.ref f))) (ht:isFn K (.ref f)=true) (hv:mA name=none) (h:Q (.ref f,[.ref x]) s):
  wpAny (model prog w) A (getMethod (.ref x) name pl) Q E s:=by
 obtain⟨od,J,hl⟩:=I.look;exact PySem.W.method_fn X J (RS hg).1 (RS hg).2 hf (QD.mp ht) (by show(PySem.W.lookIn name od).map (·.isSome)=some false;rw[hl,hv];rfl) h
theorem Eb {ns:List Str} {Q:Unit->Shared->Prop} (X:K.In s.heap) (I:ObjM s.heap x dx C mA)
  (hs:findIn K (.ref C) "__setattr__"=some (some (.builtin "object.__setattr__"))) (hp:PySem.W.plainOver K C=true) (ht:PySem.W.takerIn K C name=some none) (hh:PySem.W.hasDictIn K C=true)
  (hw:PySem.Within mA ns) (hsz:ns.length<=sizeLine)
  (h:∀ h',ObjM h' x dx C (λy=>if y=name then some v else mA y)->Heap.SameBut dx s.heap h'->Q () {s with heap:=h',toks:=s.toks+2}):
  wpAny (model prog w) A (setAttr (.ref x) name v) Q E s:=by
 obtain⟨od,J,hl⟩:=I.look;refine PySem.W.set_plain X J hs (PySem.W.osa_open (s:={s with toks:=s.toks+1}) (r:=none) X J hp ht λb=>?_);obtain⟨cd,hc,hd'⟩:=PySem.W.any_some hh;have hx:s.heap.get? x=some ⟨.ref C,some dx,.plain,#[]⟩:=I.obj;refine OO (Pf (OO (OO (RZ hx (OO (PySem.W.Looks.here (s:={s with toks:=s.toks+1}) (PySem.W.looks_clsIn X hc) ?_))))));rw[hd'];refine Pf (a:=some dx) (OO (Pf (OO ?_)));refine wpAny_nsSet1 (s:={s with toks:=s.toks+1}) I.ns λh' hn2 hs2=>?_;obtain⟨oD,esD,epD,hoD,hdD,hcD⟩:=hn2.count (PySem.Within.cons name v hw);refine OO (wpAny_lookBehind hoD (by rw[hdD];exact pastItsLine_dict (O7 hcD (by rw[Pq];omega))) ?_);exact Pf (h _ ⟨(hs2.2 _ (Rk I.ne)).trans I.obj,hn2,I.ne⟩ hs2)
theorem CS {R:Result->Shared->Prop} {vs:List Value} {kw:List (Str × Value)} (X:K.In s.heap) (hm:PySem.W.makesIn K C=true)
  (hi:findIn K (.ref C) "__init__"=some (some (.ref f))) (hf:PySem.W.typeIn K (.ref f)=some (.type "function"))
  (h:codeAny (model prog w) (A.under (.builtin "type.__call__" ⟨.ref C::vs,kw⟩)) (.call (.ref f) ⟨.ref (s.heap.objs.size+1)::vs,kw⟩) (PySem.W.InitBack (s.heap.objs.size+1) R)
   {s with heap:=(s.heap.push PySem.W.emptyDict).push (PySem.W.instObj C s.heap.objs.size)}):
  codeAny (model prog w) A (.call (.ref C) ⟨vs,kw⟩) R s:=by
 obtain⟨hh,g,d,t,os⟩:=s;exact PySem.W.make_core (PySem.W.makes_of X hm) (Rh X hi) (λself=>PySem.W.bind_fn X self hf) (.inl rfl) h
end
def putF(f:Str)(v:V):List (Str × V)->List (Str × V)
 | []=>[(f,v)]
 | (g,x)::r=>if g=f then(g,v)::r else(g,x)::putF f v r
theorem sI(f g:Str)(v:V):∀ fs:List (Str × V),(putF f v fs).lookup g=if g=f then some v else fs.lookup g
 | []=>by
  show List.lookup g [(f,v)]=_;by_cases h:g=f
  . have hb:(g==f)=true:=QD.mpr h;simp only[List.lookup,hb,O6 h]
  . have hb:(g==f)=false:=QM.mpr h;simp only[List.lookup,hb,O0 h]
 | (k,x)::r=>by
  have ih:=sI f g v r;rw[show putF f v ((k,x)::r)=(if k=f then(k,v)::r else(k,x)::putF f v r) from rfl];by_cases hk:k=f
  . rw[O6 hk];by_cases h:g=k
    . have hb:(g==k)=true:=QD.mpr h;simp only[List.lookup,hb,O6 (h.trans hk)]
    . have hb:(g==k)=false:=QM.mpr h;simp only[List.lookup,hb,O0 (λe:g=f=>h (e.trans hk.symm))]
  . rw[O0 hk];by_cases h:g=k
    . have hb:(g==k)=true:=QD.mpr h;simp only[List.lookup,hb,O0 (λe:g=f=>hk (h.symm.trans e))]
    . have hb:(g==k)=false:=QM.mpr h;simp only[List.lookup,hb];exact ih
theorem qF(f:Str)(v:V):∀ fs:List (Str × V),f∈(putF f v fs).map (·.1)/\∀ g,g∈fs.map (·.1)->g∈(putF f v fs).map (·.1)
 | []=>⟨by simp[putF],λg h=>by simp at h⟩
 | (k,x)::r=>by
  obtain⟨i1,i2⟩:=qF f v r;rw[show putF f v ((k,x)::r)=(if k=f then(k,v)::r else(k,x)::putF f v r) from rfl];by_cases hk:k=f
  . rw[O6 hk];subst hk;exact⟨by simp,λg h=>by simpa using h⟩
  . rw[O0 hk];refine⟨?_,λg h=>?_⟩
    . rw[Pr];exact OT _ i1
    . rw[Pr]at h ⊢;rcases OM.mp h with e | e
      . exact OM.mpr (.inl e)
      . exact OT _ (i2 g e)
theorem sJ(f:Str)(v:V):∀ fs:List (Str × V),(putF f v fs).length<=fs.length+1
 | []=>by simp[putF]
 | (k,x)::r=>by
  have ih:=sJ f v r;rw[show putF f v ((k,x)::r)=(if k=f then(k,v)::r else(k,x)::putF f v r) from rfl];by_cases hk:k=f
  . rw[O6 hk,Pq,Pq];omega
  . rw[O0 hk,Pq,Pq];omega
variable{o:Option Value}
theorem RelO.some_of{v:V}(r:RelO (some v) o):∃ u,o=some u/\RelV v u:=by
 cases o with
 | none=>exact(show False from r).elim
 | some u=>exact⟨u,rfl,r⟩
abbrev Td:=@RelO.some_of
theorem RelO.none_of(r:RelO none o):o=none:=by
 cases o with
 | none=>rfl
 | some u=>exact(show False from r).elim
theorem Bk{v:V}{u:Value}(r:RelV v u):PySem.W.handedIn u=true:=by
 cases v with
 | non=>cases (show u=Value.none from r);rfl
 | bl b=>cases (show u=Value.bool b from r);rfl
 | int i=>obtain⟨t,e⟩:=(show ∃ t,u=Value.int i t from r);cases e;rfl
 | str x=>obtain⟨t,e⟩:=(show ∃ t,u=Value.str x t from r);cases e;rfl
 | byt b=>obtain⟨t,e⟩:=(show ∃ t,u=Value.bytes b t from r);cases e;rfl
 | flt b=>obtain⟨t,e⟩:=(show ∃ t,u=Value.float b t from r);cases e;rfl
 | ref a=>cases (show u=Value.ref a from r);rfl
 | ty n=>cases (show u=Value.type n from r);rfl
section
variable{P:Program}{w:World}{H H':Hp}{h h':Heap}{a C dx:Addr}{fs fs':List (Str × V)}
theorem rM(hok:HOk P w H h)(e:H a=some (.ins C dx fs)):∃ mA,ObjM h a dx C mA/\(∀ f,RelO (fs.lookup f) (mA f))/\PySem.Within mA (fs.map (·.1))/\fs.length<=1000/\H dx=some (.own a):=by
 obtain⟨d,z,ne,ob,mA,n,r,q⟩:=(show ObjOk P w H h a (.ins C dx fs) from hok a _ e);exact⟨mA,⟨ob,n,ne⟩,r,q,z,d⟩
end
structure Cls(K:Frag)(C:Addr):Prop where
 pg:PySem.W.plainGet K C Str.empty=true
 hd:PySem.W.hasDictIn K C=true
 po:PySem.W.plainOver K C=true
 sa:findIn K (.ref C) "__setattr__"=some (some (.builtin "object.__setattr__"))
theorem Cls.get{K:Frag}(c:Cls K C)(f:Str):PySem.W.plainGet K C f=true:=c.pg
def NoAttr(K:Frag)(C:Addr)(f:Str):Prop:=findIn K (.ref C) f=some none
theorem NoAttr.taker{K:Frag}{f:Str}(n:NoAttr K C f):PySem.W.takerIn K C f=some none:=by
 unfold PySem.W.takerIn;rw[show findIn K (.ref C) f=some none from n];rfl
structure Meth(K:Frag)(C:Addr)(m:Str)(f:Addr):Prop where
 at_:findIn K (.ref C) m=some (some (.ref f))
 fn:isFn K (.ref f)=true
 kp:keepIn K (.ref f)=true
section
variable{X:Cx}{Ox:List (Addr × Obj)}{σ:St}{H:Hp}{s:Shared}{a C dx:Addr}{fs:List (Str × V)}{f:Str}{v:V}{A:Around}{E:Value->Shared->Prop}
theorem Ax {b:Bool} {Q:Value->Shared->Prop} (I:Inv X Ox σ H s) (e:H a=some (.ins C dx fs)) (c:Cls X.K C) (n:NoAttr X.K C f) (l:fs.lookup f=some v)
  (h:∀ u s',Inv X Ox σ H s'->RelV v u->Q u s'):wpAny (model X.prog X.w) A (getAttr (.ref a) f b) Q E s:=by
 obtain⟨mA,O,r,_,_,_⟩:=rM I.hok e;obtain⟨u,hu,ru⟩:=Td (v:=v) (o:=mA f) (by rw[← l];exact r f);exact Ea I.kIn O (c.get f) c.hd n hu (Bk ru) (h u _ (I.tok _) ru)
theorem Ay {m:Str} {g:Addr} {pl:Sem Bool} {Q:Value × List Value->Shared->Prop} (I:Inv X Ox σ H s) (e:H a=some (.ins C dx fs)) (c:Cls X.K C) (k:Meth X.K C m g) (l:fs.lookup m=none)
  (h:Q (.ref g,[.ref a]) s):wpAny (model X.prog X.w) A (getMethod (.ref a) m pl) Q E s:=by
 obtain⟨mA,O,r,_,_,_⟩:=rM I.hok e;have hn:mA m=none:=RelO.none_of (by rw[← l];exact r m);exact CQ I.kIn O (c.get m) k.at_ k.fn hn h
theorem Az {y:V} {u:Value} {Q:Unit->Shared->Prop} (I:Inv X Ox σ H s) (e:H a=some (.ins C dx fs)) (c:Cls X.K C) (n:NoAttr X.K C f) (hl:fs.length<1000) (ry:RelV y u)
  (h:∀ s',Inv X Ox σ (upd H a (.ins C dx (putF f y fs))) s'->Q () s'):wpAny (model X.prog X.w) A (setAttr (.ref a) f u) Q E s:=by
 obtain⟨mA,O,r,wi,_,ho⟩:=rM I.hok e;have hz:(fs.map (·.1)).length<=sizeLine:=by rw[OF,S0];omega
 refine Eb I.kIn O c.sa c.po n.taker c.hd wi hz λh' O' sb=>h _ ?_;have hd:∃ o,h'.get? dx=some o:=let ⟨o,_,_,e',_⟩:=O'.ns;⟨o,e'⟩;refine I.write (x:=a) (e:=dx) (by rw[e];exact True.intro) (.inr ho) (λb q hb z=>(sb.2 b hb).trans z) hd ?_;refine⟨by rw[ah O.ne];exact ho,?_,O.ne,O'.obj,_,O'.ns,λg=>?_,λg hg=>?_⟩
 . have:=sJ f y fs;omega
 . show RelO ((putF f y fs).lookup g) (if g=f then some u else mA g);rw[sI];by_cases q:g=f
   . rw[O6 q,O6 q];exact ry
   . rw[O0 q,O0 q];exact r g
 . by_cases q:g=f
   . rw[q];exact(qF f y fs).1
   . refine(qF f y fs).2 g (wi g λz=>hg ?_);show(if g=f then some u else mA g)=none;rw[O0 q];exact z
theorem Inv.made(I:Inv X Ox σ H s):Inv X Ox σ (upd (upd H s.heap.objs.size (.own (s.heap.objs.size+1))) (s.heap.objs.size+1) (.ins C s.heap.objs.size []))
  {s with heap:=(s.heap.push PySem.W.emptyDict).push (PySem.W.instObj C s.heap.objs.size)}:=by
 have e1:(s.heap.push PySem.W.emptyDict).get? s.heap.objs.size=some PySem.W.emptyDict:=Pk s.heap rfl
 have e2:((s.heap.push PySem.W.emptyDict).push (PySem.W.instObj C s.heap.objs.size)).get? (s.heap.objs.size+1)=some (PySem.W.instObj C s.heap.objs.size):=by
  have:=Pk (s.heap.push PySem.W.emptyDict) (o:=PySem.W.instObj C s.heap.objs.size) rfl
  rwa [Qr]at this
 have e3:(s.heap.push PySem.W.emptyDict).Ns s.heap.objs.size (λ_=>none):=⟨PySem.W.emptyDict,#[],_,e1,rfl,(λe he=>absurd he (by simp)),λ_=>rfl⟩;have I1:=I.laid (a:=s.heap.objs.size) (o:=.own (s.heap.objs.size+1)) (h':=s.heap.push PySem.W.emptyDict) (t':=s.toks) (λb u q=>OS _ q) (OQ _) ⟨_,e1⟩;refine I1.laid (a:=s.heap.objs.size+1) (o:=.ins C s.heap.objs.size []) (t':=s.toks) (λb u q=>OS _ q) (Nat.le_of_eq (Qr _ _)) ?_;have ne:s.heap.objs.size≠s.heap.objs.size+1:=Po (QN _);refine⟨by rw[ah ne,ag],Py _,ne,e2,λ_=>none,(Heap.Ns1.of_empty e3).at λo q=>OS _ q,λ_=>True.intro,λy hy=>absurd rfl hy⟩
theorem Ec {prog:Program} {w:World} {env:Env} {e:Expr} {f:Str} {pos:Pos} {s:Shared} {Q:Value->Shared->Prop} (hb:attributeBase e f env (eval e env)=eval e env)
  (h:wpAny (model prog w) A (eval e env) (λo s₁=>wpAny (model prog w) A (getAttr o f true) Q E s₁) E s):wpAny (model prog w) A (eval (.Attribute e f pos) env) Q E s:=
 Attribute_any_ h (by rw[arm_eval_Attribute,hb])
end
section
variable{X:Cx}{o e value:Expr}{f:Str}{pos pos' tpos:Pos}{ta tv:TE}
end
section
variable{X:Cx}{Ox:List (Addr × Obj)}{σ:St}{H:Hp}{s:Shared}{A:Around}{E:Value->Shared->Prop}{Q:Value->Shared->Prop}{c:Value}{b:Bool}
inductive TyOf(K:Frag)(H:Hp):V->Value->Prop where
 | non:TyOf K H .non (.type "NoneType")
 | bl (x:Bool):TyOf K H (.bl x) (.type "bool")
 | int (i:Int):TyOf K H (.int i) (.type "int")
 | str (x:Str):TyOf K H (.str x) (.type "str")
 | flt (x:UInt64):TyOf K H (.flt x) (.type "float")
 | lst {a:Addr} {xs:List V} (e:H a=some (.lst xs)):TyOf K H (.ref a) (.type "list")
 | frz {a:Addr} {o:Obj} {xs:List V} (e:H a=some (.frz o (.lst xs))):TyOf K H (.ref a) (.type "list")
 | tup {a:Addr} {xs:List V} (e:H a=some (.tup xs)):TyOf K H (.ref a) (.type "tuple")
 | dK {a:Addr} {Oz:List (Key × V)} (e:H a=some (.dK Oz)):TyOf K H (.ref a) (.type "dict")
 | dT {a:Addr} {Oz:List (List Key × V)} (e:H a=some (.dT Oz)):TyOf K H (.ref a) (.type "dict")
 | ins {a C dx:Addr} {fs:List (Str × V)} (e:H a=some (.ins C dx fs)) (cl:Cls K C) (ha:findIn K (.ref C) "__class__"=some (some (.builtin "object.__class__")))
   (hn:PySem.W.specialIn K (.builtin "object.__class__") "__get__"=some (some (.builtin "getset_descriptor.__get__"))) (htk:PySem.W.takesIn K (.builtin "object.__class__")=some true)
   (hm:PySem.W.mroIn K C (.type "object")=some true):TyOf K H (.ref a) (.ref C)
theorem Bl{x:V}{u t:Value}(I:Inv X Ox σ H s)(rx:RelV x u)(ty:TyOf X.K H x t)(e:PySem.W.kitOne X.K t c=some b)(h:∀ tk,Q (.bool b) {s with toks:=tk}):
  wpAny (model X.prog X.w) A (call (.builtin "isinstance") [u,c]) Q E s:=by
 cases ty with
 | non=>cases (show u=Value.none from rx);exact PZ PySem.W.kitx_none I.kIn True.intro e (λz=>nomatch z) h
 | bl y=>cases (show u=Value.bool y from rx);exact PZ PySem.W.kitx_bool I.kIn True.intro e (λz=>nomatch z) h
 | int i=>obtain⟨t,q⟩:=(show ∃ t,u=Value.int i t from rx);cases q;exact PZ PySem.W.kitx_int I.kIn True.intro e (λz=>nomatch z) h
 | str y=>obtain⟨t,q⟩:=(show ∃ t,u=Value.str y t from rx);cases q;exact PZ PySem.W.kitx_str I.kIn True.intro e (λz=>nomatch z) h
 | flt y=>obtain⟨t,q⟩:=(show ∃ t,u=Value.float y t from rx);cases q;exact PZ PySem.W.kitx_float I.kIn True.intro e (λz=>nomatch z) h
 | @lst a xs ea=>
  cases (show u=Value.ref a from rx);obtain⟨_,_,n,_,h1⟩:=(show ObjOk X.prog X.w H s.heap a (.lst xs) from I.hok a _ ea);exact PZ PySem.W.kitx_list I.kIn ⟨_,h1,rfl⟩ e (λz=>nomatch z) h
 | @frz a ob xs ea=>
  cases (show u=Value.ref a from rx);obtain⟨_,_,_,n,_,h1⟩:=(show ObjOk X.prog X.w H s.heap a (.frz ob (.lst xs)) from I.hok a _ ea);exact PZ PySem.W.kitx_list I.kIn ⟨_,h1,rfl⟩ e (λz=>nomatch z) h
 | @tup a xs ea=>
  cases (show u=Value.ref a from rx);obtain⟨_,_,_,p⟩:=(show ObjOk X.prog X.w H s.heap a (.tup xs) from I.hok a _ ea);obtain⟨o,h1,h2,_⟩:=p;exact PZ PySem.W.kitx_tuple I.kIn ⟨o,h1,h2⟩ e (λz=>nomatch z) h
 | @dK a Oz ea=>
  cases (show u=Value.ref a from rx);obtain⟨_,_,vs,_,p⟩:=(show ObjOk X.prog X.w H s.heap a (.dK Oz) from I.hok a _ ea);obtain⟨o,es,ep,h1,h2,_⟩:=p;exact PZ PySem.W.kitx_dict I.kIn ⟨o,h1,h2.1⟩ e (λz=>nomatch z) h
 | @dT a Oz ea=>
  cases (show u=Value.ref a from rx);obtain⟨_,_,xs,_,o,es,ep,h1,h2,_⟩:=(show ObjOk X.prog X.w H s.heap a (.dT Oz) from I.hok a _ ea);exact PZ PySem.W.kitx_dict I.kIn ⟨o,h1,h2.1⟩ e (λz=>nomatch z) h
 | @ins a C dx fs ea cl ha hn htk hm=>
  cases (show u=Value.ref a from rx);obtain⟨mA,O,_⟩:=rM I.hok ea;obtain⟨od,J,_⟩:=O.look;exact PZ (PySem.W.kitx_own (cl.get _) cl.hd ha hn htk hm) I.kIn J e (λz=>nomatch z) h
end
structure Room(k:Nat)(A:Around):Prop where
 hd:A.handled=none
 dp:A.depth+3*k+5<recursionLimit
 un:A.units+16*k+200<cLine
variable{A:Around}
theorem Room.mono{j k:Nat}(r:Room k A)(h:j<=k):Room j A:=⟨r.hd,by have:=r.dp;omega,by have:=r.un;omega⟩
theorem Room.deeper{k:Nat}(r:Room (k+1) A)(env:Env):Room k (A.deeper env):=
 ⟨r.hd,by have:=r.dp;show A.depth+1+3*k+5<_;omega,by have:=r.un;show A.units+3+16*k+200<_;omega⟩
variable{us:List Value}{kw:List (Str × Value)}
theorem AA{C:Addr}:(A.under (.builtin "type.__call__" ⟨.ref C::us,kw⟩)).depth=A.depth+1:=by
 first | rfl | simp[Around.under,Code.weight,Code.isCreation,Code.isGuard,Code.isCaller,Code.frames,Code.isFrame,guardIds]
theorem AB{C:Addr}:(A.under (.builtin "type.__call__" ⟨.ref C::us,kw⟩)).units=A.units+1:=by
 first | rfl | simp[Around.under,Code.cUnits,Code.frames,Code.isFrame]
theorem Room.make{k:Nat}(r:Room (k+1) A)(C:Addr)(us:List Value)(kw:List (Str × Value)):Room k (A.under (.builtin "type.__call__" ⟨.ref C::us,kw⟩)):=
 ⟨r.hd,by have:=r.dp;rw[AA];omega,by have:=r.un;rw[AB];omega⟩
theorem Room.depth{k:Nat}(r:Room k A):A.depth<recursionLimit:=by have:=r.dp;omega
theorem Room.units{k:Nat}(r:Room k A):A.units+64<cLine:=by have:=r.un;omega
def tNil:TA:=λ_ H Q=>Q [] H
def tCons(ta:TE)(tr:TA):TA:=λσ H Q=>ta σ H λx H1=>tr σ H1 λxs H2=>Q (x::xs) H2
section
variable{X:Cx}{e:Expr}{es:List Expr}{te:TE}{t:TA}{pos:Pos}
theorem ac:PA X [] tNil:=λ_ _ _ _ H Q I h=>Qh ⟨[],H,I,.nil,h⟩
theorem aa(ha:PE X e te)(hr:PA X es t)(hs:starEach (e::es) X.env=(false,eval e X.env)::starEach es X.env:=by rfl):PA X (e::es) (tCons te t):=by
 intro pos Ox s σ H Q I h;rw[hs];show wpAny _ _ (spliced ((false,eval e X.env)::backTo pos (starEach es X.env))) _ _ s;refine P7 (thn (ha Ox s σ H _ I h) λu s1 ⟨x,H1,I1,r1,q1⟩=>?_);exact thn (hr pos Ox s1 σ H1 _ I1 q1) λus s2 ⟨xs,H2,I2,r2,q2⟩=>⟨x::xs,H2,I2,.cons r1 r2,q2⟩
def tTup(t:TA):TE:=λσ H Q=>t σ H λxs H1=>xs.length<=sizeLine/\∀ p,H1 p=none->Q (.ref p) (upd H1 p (.tup xs))
def tLst(t:TA):TE:=λσ H Q=>t σ H λxs H1=>xs.length<=sizeLine/\∀ p,H1 p=none->Q (.ref p) (upd H1 p (.lst xs))
theorem aO{x1}(h:PA X es t):PE X (.Tuple es x1 pos) (tTup t):=by
 intro Ox s σ H Q I hq;refine wpAny_Tuple_spliced (thn (h pos Ox s σ H _ I hq) λus s1 ⟨xs,H1,I1,r,z,q⟩=>⟨by rw[← r.length];exact z,?_⟩);have hf:H1 s1.heap.objs.size=none:=I1.hok.fresh (OQ _);refine⟨.ref s1.heap.objs.size,upd H1 s1.heap.objs.size (.tup xs),I1.laid (t':=s1.toks) (λb u e=>OS _ e) (OQ _) ?_,rfl,q _ hf⟩;exact⟨z,us,r,⟨_,Pk _ rfl,rfl,_,rfl⟩⟩
theorem aM(h:PA X es t):PE X (.List es pos) (tLst t):=by
 intro Ox s σ H Q I hq;refine wpAny_List_spliced (thn (h pos Ox s σ H _ I hq) λus s1 ⟨xs,H1,I1,r,z,q⟩=>⟨by rw[← r.length];exact z,?_⟩);have hf:H1 s1.heap.objs.size=none:=I1.hok.fresh (OQ _);refine⟨.ref s1.heap.objs.size,upd H1 s1.heap.objs.size (.lst xs),I1.laid (t':=s1.toks) (λb u e=>OS _ e) (OQ _) ?_,rfl,q _ hf⟩;exact⟨z,us,0,r,Pk _ rfl⟩
end
abbrev Sp:=List V->Hp->VK->XK->Prop
abbrev CXT:=List Env->Hp->Shared->XK->Value->Shared->Prop
structure Env0(P:Program)(w:World)(K:Frag)(mg:Str->Option Value)(base:Heap)(A:Around)(outer:List Env)(s:Shared)(H:Hp):Prop where
 frames:A.frames=some outer
 mod:Mod K mg base
 bs:∀ b o,base.get? b=some o->s.heap.get? b=some o/\H b=none
 bsz:base.objs.size<=s.heap.objs.size
 funs:s.heap.FunFrames base outer
 frf:∀ b∈frs outer,H b=none
 hok:HOk P w H s.heap
 bare:AllBare s.gens
def CE(outer:List Env)(P:Program)(w:World)(H:Hp)(s:Shared)(Q:VK)(u:Value)(s':Shared):Prop:=
 ∃ v H',s'.os=s.os/\AllBare s'.gens/\Un (frs outer) [] H H' s.heap s'.heap/\HOk P w H' s'.heap/\RelV v u/\Q v H'
def CR(CX:CXT)(outer:List Env)(P:Program)(w:World)(H:Hp)(s:Shared)(Q:VK)(E:XK)(r:Result)(s':Shared):Prop:=
 match r with
 | .ok (.ret u)=>CE outer P w H s Q u s'
 | .ok _=>False
 | .error e=>CX outer H s E e s'
structure FnOk(P:Program)(w:World)(K:Frag)(mg:Str->Option Value)(base:Heap)(CX:CXT)(k:Nat)(f:Addr)(fd:FuncData)(ps:List Str)(sp:Sp):Prop where
 len:∀ vs H Q E,sp vs H Q E->vs.length=ps.length
 run:∀(A:Around) (outer:List Env) (s:Shared) (H:Hp) (args:Args) (us:List Value) (vs:List V) (Q:VK) (E:XK),Room k A->Env0 P w K mg base A outer s H->BindsTo s fd args (ps.zip us)->Vals vs us->sp vs H Q E->
  codeAny (model P w) A (.call (.ref f) args) (CR CX outer P w H s Q E) s
variable{P:Program}{w:World}{K:Frag}{mg:Str->Option Value}{base:Heap}{CX:CXT}{f:Addr}{fd:FuncData}{ps:List Str}
theorem FnOk.mono{j k:Nat}{sp:Sp}(F:FnOk P w K mg base CX j f fd ps sp)(h:j<=k):
  FnOk P w K mg base CX k f fd ps sp:=⟨F.len,λA outer s H args us vs Q E hr=>F.run A outer s H args us vs Q E (hr.mono h)⟩
theorem FnOk.imp {k:Nat} {sp sp':Sp} (F:FnOk P w K mg base CX k f fd ps sp)
  (h:∀ vs H Q E,sp' vs H Q E->sp vs H Q E):FnOk P w K mg base CX k f fd ps sp':=
 ⟨λvs H Q E q=>F.len vs H Q E (h _ _ _ _ q),λA outer s H args us vs Q E hr he hb hv hs=>F.run A outer s H args us vs Q E hr he hb hv (h _ _ _ _ hs)⟩
variable{outer:List Env}
theorem Env0.make{s:Shared}{H:Hp}(e:Env0 P w K mg base A outer s H)(C:Addr)(us:List Value)(kw:List (Str × Value)):
  Env0 P w K mg base (A.under (.builtin "type.__call__" ⟨.ref C::us,kw⟩)) outer s H:=⟨by first | exact e.frames | (simpa [Around.under,Code.envs,Code.isFrame,pushEnvs] using e.frames),e.mod,e.bs,e.bsz,e.funs,e.frf,e.hok,e.bare⟩
section
variable{X:Cx}{Ox:List (Addr × Obj)}{σ:St}{H:Hp}{s s':Shared}
theorem Inv.env0(I:Inv X Ox σ H s):Env0 X.prog X.w X.K X.mg X.base X.A X.stack s H:=
 ⟨I.ok.frames,I.ok.mod,I.bs,O7 I.ok.bsz I.sz,I.stack,I.stkFree,I.hok,I.bare⟩
theorem Inv.after{Q:VK}{u:Value}(I:Inv X Ox σ H s)(h:CE X.stack X.prog X.w H s Q u s'):EP X Ox σ Q u s':=by
 obtain⟨v,H',os,bare,un,hok,r,q⟩:=h;obtain⟨hh,g,d,t,os'⟩:=s';obtain rfl:os'=s.os:=os;exact⟨v,H',I.call (h':=hh) (g':=g) (d':=d) (t':=t) (ch:=[]) un hok bare (λb z=>absurd z (by simp)),r,q⟩
end
def tCall(sp:Sp)(dvs:List V)(E:XK)(t:TA):TE:=λσ H Q=>t σ H λvs H1=>sp (vs++dvs) H1 Q E
def tMake(C:Addr)(sp:Sp)(dvs:List V)(E:XK)(t:TA):TE:=λσ H Q=>t σ H λvs H1=>∀ x dx,H1 x=none->H1 dx=none->dx≠x->
 sp (.ref x::(vs++dvs)) (upd (upd H1 dx (.own x)) x (.ins C dx [])) (λv H2=>v=.non/\Q (.ref x) H2) E
def Binds(K:Frag)(fd:FuncData)(ps:List Str)(ds:List Value):Prop:=
 ∀(s:Shared) (us:List Value),K.In s.heap->(us++ds).length=ps.length->BindsTo s fd ⟨us,[]⟩ (ps.zip (us++ds))
theorem Binds.all(h:∀ us:List Value,us.length=ps.length->bindArgs fd ⟨us,[]⟩=pure (ps.zip us)):Binds K fd ps []:=λs us _ hl=>by
 rw[Rr]at hl ⊢;exact .of_eq (h us hl)
def j3(CX:CXT)(X:Cx)(E:XK):Prop:=∀(Ox:List (Addr × Obj)) (σ:St) (H:Hp) (s:Shared) (e:Value) (s':Shared),Inv X Ox σ H s->CX X.stack H s E e s'->X.xe e s'
section
variable{X:Cx}{CX:CXT}{k:Nat}{f C:Addr}{fd:FuncData}{ps:List Str}{sp:Sp}{dvs:List V}{ds:List Value}{E:XK}{x m:Str}{p pos apos:Pos}{e o:Expr}{es:List Expr}{ta:TE}{t:TA}
theorem Bm {Ox:List (Addr × Obj)} {σ:St} {H:Hp} {s:Shared} {Q:VK} {us:List Value} {vs:List V} (F:FnOk X.prog X.w X.K X.mg X.base CX k f fd ps sp) (hr:Room k X.A) (hb:Binds X.K fd ps ds) (hd:Vals dvs ds) (hx:j3 CX X E)
  (I:Inv X Ox σ H s) (r:Vals vs us) (h:sp (vs++dvs) H Q E):wpAny (model X.prog X.w) X.A (call (.ref f) us) (EP X Ox σ Q) X.xe s:=by
 have r2:Vals (vs++dvs) (us++ds):=r.append hd;have hl:(us++ds).length=ps.length:=by rw[← r2.length];exact F.len _ _ _ _ h
 refine wpAny_call (Sy (F.run X.A X.stack s H ⟨us,[]⟩ (us++ds) (vs++dvs) Q E hr I.env0 (hb s us I.kIn hl) r2 h) λr s' hq=>?_)
 cases r with
 | error e=>exact hx Ox σ H s e s' I hq
 | ok fl=>
  cases fl with
  | ret u=>exact I.after hq
  | next=>exact False.elim hq
  | brk=>exact False.elim hq
  | cont=>exact False.elim hq
theorem zY (F:FnOk X.prog X.w X.K X.mg X.base CX k f fd ps sp) (hr:Room k X.A) (hg:Gl X x) (hm:X.mg x=some (.ref f)) (hk:keepIn X.K (.ref f)=true) (hb:Binds X.K fd ps ds) (hd:Vals dvs ds) (hx:j3 CX X E)
  (ha:PA X (e::es) t) (hdb:(x==("__debug__":Str))=false:=by decide) (he:starEach (e::es) X.env=(false,eval e X.env)::starEach es X.env:=by rfl) (hpl:(backTo pos (starEach es X.env)).any (·.1)=false:=by rfl):
  PE X (.Call (.Name x p) (e::es) [] pos) (tCall sp dvs E t):=by
 intro Ox s σ H Q I h;refine PU (mC I hg hm ?_ hdb);refine R0 (h₀:=X.base) I.ok.mod.kin hk (thn (ha pos Ox s σ H _ I h) λus s1 ⟨vs,H1,I1,r,q⟩=>⟨I1.kIn,?_⟩) he hpl;exact Bm F hr hb hd hx I1 r q
structure Mk(K:Frag)(C f:Addr):Prop where
 makes:PySem.W.makesIn K C=true
 init:findIn K (.ref C) "__init__"=some (some (.ref f))
 fn:isFn K (.ref f)=true
 kp:keepIn K (.ref C)=true
theorem CU {Ox:List (Addr × Obj)} {σ:St} {H:Hp} {s:Shared} {Q:VK} {us:List Value} {vs:List V} (M:Mk X.K C f) (F:FnOk X.prog X.w X.K X.mg X.base CX k f fd ps sp) (hr:Room (k+1) X.A) (hb:Binds X.K fd ps ds) (hd:Vals dvs ds)
  (hx:j3 CX X E) (I:Inv X Ox σ H s) (r:Vals vs us)
  (h:∀ x dx,H x=none->H dx=none->dx≠x->sp (.ref x::(vs++dvs)) (upd (upd H dx (.own x)) x (.ins C dx [])) (λv H2=>v=.non/\Q (.ref x) H2) E):
  wpAny (model X.prog X.w) X.A (call (.ref C) us) (EP X Ox σ Q) X.xe s:=by
 have hq:=h (s.heap.objs.size+1) s.heap.objs.size (I.hok.fresh (Qz _)) (I.hok.fresh (OQ _)) (Po (QN _));have I2:=Inv.made (C:=C) I;have r2:Vals (V.ref (s.heap.objs.size+1)::(vs++dvs)) (Value.ref (s.heap.objs.size+1)::(us++ds)):=.cons rfl (r.append hd)
 have hl:(Value.ref (s.heap.objs.size+1)::us++ds).length=ps.length:=by
  have e:=r2.length;rw[F.len _ _ _ _ hq]at e;exact e.symm
 refine wpAny_call (CS (f:=f) I.kIn M.makes M.init (QD.mp M.fn) (Sy (F.run _ X.stack _ _ ⟨Value.ref (s.heap.objs.size+1)::us,[]⟩ (Value.ref (s.heap.objs.size+1)::(us++ds)) _ _ E (hr.make C us [])
  (I2.env0.make C us []) (hb _ (Value.ref (s.heap.objs.size+1)::us) I2.kIn hl) r2 hq) λr s' hq'=>?_))
 cases r with
 | error e=>exact hx Ox σ _ _ e s' I2 hq'
 | ok fl=>
  cases fl with
  | ret u=>
   obtain⟨v,H',I3,rv,ev,q3⟩:=I2.after hq';subst ev;exact⟨rv,⟨V.ref (s.heap.objs.size+1),H',I3,rfl,q3⟩⟩
  | next=>exact False.elim hq'
  | brk=>exact False.elim hq'
  | cont=>exact False.elim hq'
theorem Ed (M:Mk X.K C f) (F:FnOk X.prog X.w X.K X.mg X.base CX k f fd ps sp) (hr:Room (k+1) X.A) (hg:Gl X x) (hm:X.mg x=some (.ref C)) (hb:Binds X.K fd ps ds) (hd:Vals dvs ds) (hx:j3 CX X E)
  (ha:PA X (e::es) t) (hdb:(x==("__debug__":Str))=false:=by decide) (he:starEach (e::es) X.env=(false,eval e X.env)::starEach es X.env:=by rfl) (hpl:(backTo pos (starEach es X.env)).any (·.1)=false:=by rfl):
  PE X (.Call (.Name x p) (e::es) [] pos) (tMake C sp dvs E t):=by
 intro Ox s σ H Q I h;refine PU (mC I hg hm ?_ hdb);refine R0 (h₀:=X.base) I.ok.mod.kin M.kp (thn (ha pos Ox s σ H _ I h) λus s1 ⟨vs,H1,I1,r,q⟩=>⟨I1.kIn,?_⟩) he hpl;exact CU M F hr hb hd hx I1 r q
end
section
variable{X:Cx}{CX:CXT}{k:Nat}{f C:Addr}{fd:FuncData}{ps ks:List Str}{sp:Sp}{E:XK}{x m:Str}{p pos apos kpos:Pos}{e o:Expr}{es:List Expr}{kws:List Keyword}{te ta:TE}{t tk:TA}{nm:Option Str}
variable{g:List Value->List Value->List Value}{gV:List V->List V->List V}
end
structure am(N P:List Str)(sc:Scope):Prop where
 kind:sc.kind=.function
 co:sc.isCoroutine=false
 gen:sc.isGenerator=false
 nd:N.Nodup
 pre:N.take P.length=P
 par:∀ x∈P,sc.names.lookup x=some .local\/sc.names.lookup x=some .cell
 nofree:∀ y∈sc.names,y.2≠.free
theorem wy{kindOf:Str->Option NameKind}{x:Str}:∀{binds:List (Str × Value)} {m:Str->Option Value},(∀ v,(x,v)∉binds)->bindL kindOf binds m x=m x
 | [],_,_=>rfl
 | (n,v)::r,m,h=>by
  unfold bindL;rw[wy λw hw=>h w (OT _ hw)]
  split
  . have:x≠n:=by rintro rfl;exact h v OV
    simp[this]
  . rfl
theorem wz{kindOf:Str->Option NameKind}{x:Str}:∀{binds:List (Str × Value)} {m:Str->Option Value},(∀ v,(x,v)∉binds)->bindC kindOf binds m x=m x
 | [],_,_=>rfl
 | (n,v)::r,m,h=>by
  unfold bindC;rw[wz λw hw=>h w (OT _ hw)]
  split
  . rfl
  . have:x≠n:=by rintro rfl;exact h v OV
    simp[this]
theorem wA{kindOf:Str->Option NameKind}{x:Str}{v:Value}:∀{P:List Str} {vs:List Value} {i:Nat} {m:Str->Option Value},P.Nodup->P[i]? =some x->vs[i]? =some v->kindOf x=some .local->
  bindL kindOf (P.zip vs) m x=some v
 | [],_,_,_,_,h,_,_=>by simp at h
 | _::_,[],_,_,_,_,h,_=>by simp at h
 | p::P,w::vs,0,m,nd,h1,h2,hk=>by
  simp at h1 h2;subst h1;subst h2;show bindL kindOf ((p,w)::P.zip vs) m p=_;unfold bindL;rw[wy λv hv=>(P0.mp nd).1 (SM hv).1,O6 hk];simp
 | p::P,w::vs,i+1,m,nd,h1,h2,hk=>by
  show bindL kindOf ((p,w)::P.zip vs) m x=_;unfold bindL;exact wA (i:=i) (P0.mp nd).2 (by simpa using h1) (by simpa using h2) hk
theorem wB{kindOf:Str->Option NameKind}{x:Str}{v:Value}:∀{P:List Str} {vs:List Value} {i:Nat} {m:Str->Option Value},P.Nodup->P[i]? =some x->vs[i]? =some v->kindOf x≠some .local->
  bindC kindOf (P.zip vs) m x=some v
 | [],_,_,_,_,h,_,_=>by simp at h
 | _::_,[],_,_,_,_,h,_=>by simp at h
 | p::P,w::vs,0,m,nd,h1,h2,hk=>by
  simp at h1 h2;subst h1;subst h2;show bindC kindOf ((p,w)::P.zip vs) m p=_;unfold bindC;rw[wz λv hv=>(P0.mp nd).1 (SM hv).1,O0 hk];simp
 | p::P,w::vs,i+1,m,nd,h1,h2,hk=>by
  show bindC kindOf ((p,w)::P.zip vs) m x=_;unfold bindC;exact wB (i:=i) (P0.mp nd).2 (by simpa using h1) (by simpa using h2) hk
def start(N:List Str)(vs:List V):St:=vs.map some++List.replicate (N.length-vs.length) none
def cxOf(CX:CXT)(P:Program)(w:World)(K:Frag)(mg:Str->Option Value)(base:Heap)(N:List Str)(qual:Str)(scope:Scope)(f:Addr)(cd:Value)(A:Around)(outer:List Env)(s:Shared)(H:Hp)(E:XK):Cx where
 prog:=P
 w:=w
 K:=K
 mg:=mg
 base:=base
 A:=A.deeper (envOfC qual scope s.heap.objs.size f cd)
 N:=N
 s₀:=s
 H₀:=H
 env:=envOfC qual scope s.heap.objs.size f cd
 outer:=outer
 stack:=envOfC qual scope s.heap.objs.size f cd::outer
 ex:=[]
 calm:=true
 fn:=λ_=>true
 pn:=[]
 xe:=λe s'=>wpAny (model P w) (A.deeper (envOfC qual scope s.heap.objs.size f cd)) (leaving (envOfC qual scope s.heap.objs.size f cd) e) (λ_ s''=>CX outer H s E e s'') (λe' s''=>CX outer H s E e' s'') s'
theorem pO{sc:Scope}{n:Nat}{x:Str}(h:sc.names.lookup x=some .cell):∃ c,(cellsFrom n sc.names []).lookup x=some c:=by
 have q:=Sz sc.names n [] (.inl h);exact Option.isSome_iff_exists.mp q
variable{scope:Scope}
theorem Bn {N:List Str} {qual:Str} {cd:Value} {s s1:Shared} {H:Hp} {E:XK} {vs:List V}
  (S:am N ps scope) (hd:A.handled=none) (e0:Env0 P w K mg base A outer s H) (hl:vs.length=ps.length) (r:Vals vs us)
  (x:InCallC s s.heap.objs.size (bindL (envOfC qual scope s.heap.objs.size f cd).kindOf (ps.zip us) λ_=>none) (cellsFrom (s.heap.objs.size+1) scope.names []) (bindC (envOfC qual scope s.heap.objs.size f cd).kindOf (ps.zip us) λ_=>none) s1):
  Inv (cxOf CX P w K mg base N qual scope f cd A outer s H E) [] (start N vs) H s1:=by
 have hpl:ps.length<=N.length:=by have:=congrArg List.length S.pre;rw[PV]at this;omega
 obtain⟨h1,tk,rfl,hk⟩:=x.done;have noA:∀ b:Addr,b∉(cxOf CX P w K mg base N qual scope f cd A outer s H E).ex:=λb z=>absurd (show b∈([]:List Addr) from z) (by simp)
 refine⟨⟨e0.mod,S.kind,rfl,rfl,OQ _,λy z c h1 h2=>?_,λy hy=>?_,λy c _ h=>?_,λ_=>hd,Around.frames_deeper e0.frames,.inr ⟨rfl,rfl⟩,λb z=>absurd z (noA b),e0.bs,e0.bsz,λb _ _=>noA b,λb z=>absurd z (noA b),e0.funs,e0.frf⟩,
  rfl,e0.bare,Un.kept hk,⟨_,x.toInCall.ns,λi y v h1 h2 h3=>?_⟩,λy c h=>⟨_,x.cell y c h⟩,e0.hok.fresh (OQ _),λy c h=>?_,λp hp=>absurd (show p∈([]:List (Addr × Obj)) from hp) (by simp),e0.hok.kept hk,?_⟩
 . exact name_of_addr x.apart (P6 h1) (P6 h2)
 . have hy:scope.names.lookup y=some .cell\/scope.names.lookup y=some .free:=hy;rcases hy with hy | hy
   . exact pO hy
   . exact absurd rfl (S.nofree _ (P6 hy))
 . exact PD (x.above y c (P6 h))
 . have hi:i<vs.length:=by
    unfold start at h2;by_cases hi:i<vs.length
    . exact hi
    . rw[O8 (by simpa using hi)]at h2;rw[Rt]at h2
      split at h2 <;> cases h2
   have ha:vs[i]? =some v:=by
    unfold start at h2;rw[O9 (by simpa using hi),OH]at h2
    cases e:vs[i]? with
    | none=>rw[e]at h2;cases h2
    | some a=>rw[e]at h2;cases h2;rfl
   obtain⟨u,hu,rv⟩:=r.get ha
   have hp:ps[i]? =some y:=by
    rw[← S.pre,List.getElem?_take_of_lt (by omega)];exact h1
   have ndP:ps.Nodup:=by rw[← S.pre];exact S.nd.sublist (Sa _ _)
   refine⟨u,rv,?_⟩;rcases S.par y (ON hp) with k | k
   . exact .inl ⟨k,wA ndP hp hu k⟩
   . obtain⟨c,e⟩:=pO (n:=s.heap.objs.size+1) k;refine .inr ⟨.inl k,c,e,?_⟩;have q:=x.cell y c e;rw[wB ndP hp hu (by show scope.names.lookup y≠_;rw[k];decide)]at q;exact q
 . exact e0.hok.fresh (PD (x.above y c (P6 h)))
 . unfold start;show _=N.length;rw[OU,OF,PN];omega
theorem AC {k:Nat} {name qual:Str} {params:Arguments} {body:List Stmt} {dV kV doc pm Oy ct oc:Value} {an od:Option Addr}
  {osl:Array (Option Value)} {N ps:List Str} {sp:Sp} (lk:K.lookup f=some ⟨oc,od,.func (fnOf name qual params body scope dV kV doc pm an Oy ct),osl⟩) (hcd:codeIn K Oy qual=true) (S:am N ps scope)
  (len:∀ vs H Q E,sp vs H Q E->vs.length=ps.length)
  (hbody:∀(A:Around) (outer:List Env) (s:Shared) (H:Hp) (vs:List V) (Q:VK) (E:XK),Room k (A.deeper (envOfC qual scope s.heap.objs.size f Oy))->sp vs H Q E->
   ∃ t,PSs (cxOf CX P w K mg base N qual scope f Oy A outer s H E) body t/\t {nx:=λ_ H'=>Q .non H',rt:=Q} (start N vs) H):
  FnOk P w K mg base CX (k+1) f (fnOf name qual params body scope dV kV doc pm an Oy ct) ps sp:=by
 refine⟨len,λA outer s H args us vs Q E hr e0 hb r hsp=>?_⟩;have hl:=len _ _ _ _ hsp;have KX:K.In s.heap:=e0.mod.kin.keeps λb o e=>(e0.bs b o e).1;have lim:s.heap.NoLimit:=e0.mod.nolimit.keeps λb o e=>(e0.bs b o e).1
 have hkind:∀ y∈ps.zip us,scope.names.lookup y.1=some .local\/(scope.names.lookup y.1=some .cell/\((cellsFrom (s.heap.objs.size+1) scope.names []).lookup y.1).isSome=true):=λ⟨n,v⟩ hy=>by
  rcases S.par n (SM hy).1 with q | q
  . exact .inl q
  . exact .inr ⟨q,Sz _ _ _ (.inl q)⟩
 refine codeAny_call_function hr.depth (KX _ _ lk) rfl S.co S.gen rfl (PySem.W.codeRec_of KX hcd) (hb _ _ _ _ ?_);refine wpAny_newFunctionEnv_cells S.kind hkind λenv he s1 x=>?_;subst he;refine⟨lim.keeps x.toInCall.keep,codeAny_func ?_⟩;obtain⟨t,ht,hq⟩:=hbody A outer s H vs Q E (hr.deeper _) hsp;have I:Inv (cxOf CX P w K mg base N qual scope f Oy A outer s H E) [] (start N vs) H s1:=Bn S hr.hd e0 hl r x;refine PF (ht [] s1 (start N vs) H _ I hq) (λfl s' hs=>?_) λe s' hs=>hs
 have fin:∀{σ':St} {H':Hp} {v:V} {u:Value},Inv (cxOf CX P w K mg base N qual scope f Oy A outer s H E) [] σ' H' s'->RelV v u->Q v H'->CE outer P w H s Q u s':=
  λ{σ' H' v u} J rv q=>⟨v,H',J.os,J.bare,J.base,J.hok,rv,q⟩
 cases fl with
 | ret u=>
  obtain⟨v,σ',H',J,rv,q⟩:=hs;exact fin J rv q
 | next=>
  obtain⟨σ',H',J,q⟩:=hs;exact fin (v:=V.non) (u:=Value.none) J rfl q
 | brk=>
  obtain⟨_,_,_,q⟩:=hs;exact False.elim q
 | cont=>
  obtain⟨_,_,_,q⟩:=hs;exact False.elim q
section
variable{X:Cx}{x:Str}{p pos:Pos}{e:Expr}{es:List Expr}{t:TA}{id T:String}{r:List V->Hp->VK->Prop}
def tCB(r:List V->Hp->VK->Prop)(t:TA):TE:=λσ H Q=>t σ H λvs H1=>r vs H1 Q
theorem ay (hc:CallR X (.builtin id) r) (hg:Gl X x) (hm:X.mg x=none) (hv:bootBuiltins x=some (.builtin id)) (ha:PA X (e::es) t) (hn:x≠"__name__":=by decide) (hdb:(x==("__debug__":Str))=false:=by decide)
  (he:starEach (e::es) X.env=(false,eval e X.env)::starEach es X.env:=by rfl) (hpl:(backTo pos (starEach es X.env)).any (·.1)=false:=by rfl):PE X (.Call (.Name x p) (e::es) [] pos) (tCB r t):=by
 intro Ox s σ H Q I h;refine PU (cW I hg hm hv ?_ hn hdb);exact RF (thn (ha pos Ox s σ H _ I h) λus s1 ⟨vs,H1,I1,r1,q1⟩=>hc Ox s1 σ H1 vs us Q I1 r1 q1) he hpl
theorem bb (hc:CallR X (.type T) r) (hg:Gl X x) (hm:X.mg x=none) (hv:bootBuiltins x=some (.type T)) (ha:PA X (e::es) t) (hn:x≠"__name__":=by decide) (hdb:(x==("__debug__":Str))=false:=by decide)
  (he:starEach (e::es) X.env=(false,eval e X.env)::starEach es X.env:=by rfl) (hpl:(backTo pos (starEach es X.env)).any (·.1)=false:=by rfl):PE X (.Call (.Name x p) (e::es) [] pos) (tCB r t):=by
 intro Ox s σ H Q I h;refine PU (cW I hg hm hv ?_ hn hdb);exact Pm (thn (ha pos Ox s σ H _ I h) λus s1 ⟨vs,H1,I1,r1,q1⟩=>hc Ox s1 σ H1 vs us Q I1 r1 q1) he hpl
end
end L2
namespace HT
open PySem PyProof.Rows
section
open PySem.SeqAt
open PySem.AutoSeq1 (wpAny_loadPart')
open PySem.MeetsSeq PySem.MeetsSeq2 PySem.MeetsSeq3
end
section
variable{prog:Program}{w:World}{A:Around}{E:Value->Shared->Prop}{s:Shared}
def sIx(n d:Nat):Option Int->Nat
 | none=>d
 | some v=>if v<0 then(v+(n:Int)).toNat else min v.toNat n
theorem sIx_nat(n d k:Nat):sIx n d (some (k:Int))=min k n:=by
 show(if (k:Int)<0 then((k:Int)+(n:Int)).toNat else min (k:Int).toNat n)=min k n;rw[if_neg (by omega),Int.toNat_natCast]
end
end HT
namespace L2
open PySem PySem.Spec PyProof.Rows
abbrev TO:=St->Hp->(Option Int->Hp->Prop)->Prop
def PO(X:Cx)(e:Option Expr)(t:TO):Prop:=
 ∀(Ox:List (Addr × Obj)) (s:Shared) (σ:St) (H:Hp) (Q:Option Int->Hp->Prop),Inv X Ox σ H s->t σ H Q->
  wpAny (model X.prog X.w) X.A (evalPart e X.env) (λu s'=>∃ o H',Inv X Ox σ H' s'/\IsPart u o/\Q o H') X.xe s
def bW:TO:=λ_ H Q=>Q none H
def tPart(t:TE):TO:=λσ H Q=>t σ H λx H1=>∃ i,x=.int i/\Q (some i) H1
theorem uc{ns:List Int}:∀{us:List Value},Vals (ns.map V.int) us->IntsAre us ns:=by
 induction ns with
 | nil=>intro us r;rw[SA]at r;cases r;exact .nil
 | cons n ns ih=>
  intro us r;rw[Pr]at r
  cases r with
  | cons r1 r2=>
   obtain⟨t,e⟩:=r1;subst e;exact .cons n t (ih r2)
section
variable{X:Cx}{e:Expr}{te:TE}{lo hi:Option Expr}{tl th:TO}{pos p2:Pos}
theorem dn:PO X none bW:=by
 intro Ox s σ H Q I h;rw[evalPart_none];exact Pf ⟨none,H,I,.none,h⟩
theorem dq(h:PE X e te):PO X (some e) (tPart te):=by
 intro Ox s σ H Q I hw;rw[evalPart_some];refine thn (h Ox s σ H _ I hw) λu s1 ⟨x,H1,I1,r1,q1⟩=>?_;obtain⟨i,rfl,q⟩:=q1;obtain⟨t,rfl⟩:=r1;exact⟨some i,H1,I1,.int i t,q⟩
def SlR(X:Cx)(r:V->Option Int->Option Int->Hp->VK->Prop):Prop:=
 ∀(Ox:List (Addr × Obj)) (s:Shared) (σ:St) (H:Hp) (x:V) (v vl vu:Value) (lo hi:Option Int) (sl:Addr) (Q:VK),Inv X Ox σ H s->RelV x v->s.heap.IsSliceOf sl vl vu .none->IsPart vl lo->IsPart vu hi->r x lo hi H Q->
  ∃ T id,typeLookup (.type T) "__getitem__"=pure (some (.builtin id))/\s.TypeIs v T/\wpAny (model X.prog X.w) X.A (getItem v (.ref sl)) (EP X Ox σ Q) X.xe s
def tSl(r:V->Option Int->Option Int->Hp->VK->Prop)(te:TE)(tl th:TO):TE:=λσ H Q=>te σ H λx H1=>tl σ H1 λl H2=>th σ H2 λu H3=>r x l u H3 Q
theorem cD{r:V->Option Int->Option Int->Hp->VK->Prop}(hr:SlR X r)(he:PE X e te)(hl:PO X lo tl)(hu:PO X hi th):PE X (.Subscript e (.Slice lo hi none p2) pos) (tSl r te tl th):=by
 intro Ox s σ H Q I h;refine Subscript_ (thn (he Ox s σ H _ I h) λv s1 ⟨x,H1,I1,r1,q1⟩=>?_);refine wpAny_Slice (thn (hl Ox s1 σ H1 _ I1 q1) λvl s2 ⟨l,H2,I2,pl,q2⟩=>thn (hu Ox s2 σ H2 _ I2 q2) λvu s3 ⟨u,H3,I3,pu,q3⟩=>?_);rw[evalPart_none];refine Pf ?_;have I4:Inv X Ox σ H3 {s3 with heap:=s3.heap.push {cls:=.type "slice",data:=.fields #[vl,vu,.none]}}:=I3.kept (t':=s3.toks) λb ob q=>OS _ q;obtain⟨T,id,hT,ht,hg⟩:=hr Ox {s3 with heap:=s3.heap.push {cls:=.type "slice",data:=.fields #[vl,vu,.none]}} σ H3 x v vl vu l u s3.heap.objs.size Q I4 r1 (Heap.IsSliceOf.new ..) pl pu q3;show wpAny (model X.prog X.w) X.A (subscriptTail e (.Slice lo hi none p2) v (.ref s3.heap.objs.size)) (EP X Ox σ Q) X.xe {s3 with heap:=s3.heap.push {cls:=.type "slice",data:=.fields #[vl,vu,.none]}};exact tail_any (ops:=[.ref s3.heap.objs.size,v]) ht hT hg (by with_unfolding_all rfl)
def cutV(xs:List V)(lo hi:Option Int):List V:=(xs.drop (HT.sIx xs.length 0 lo)).take (HT.sIx xs.length xs.length hi-HT.sIx xs.length 0 lo)
theorem zv(xs:List V)(lo hi:Option Int):(cutV xs lo hi).length<=xs.length:=by
 unfold cutV;rw[PV,RG];omega
end
def ixN(n:Nat)(i:Int):Option Nat:=if 0<=i then(if i<n then some i.toNat else none) else if -(n:Int)<=i then some (i+n).toNat else none
def atI{α:Type}(xs:List α)(i:Int):Option α:=(ixN xs.length i).bind λj=>xs[j]?
theorem Ee{n:Nat}{i:Int}{j:Nat}(h:ixN n i=some j):seqIndex? i n=some j/\j<n/\ -(n:Int)<=i/\i<n:=by
 unfold ixN at h;by_cases h0:0<=i
 . rw[O6 h0]at h;by_cases h1:i<n
   . rw[O6 h1]at h;have e:i.toNat=j:=Qk h;exact⟨by rw[seqIndex_of h0 h1,e],by omega,by omega,h1⟩
   . rw[O0 h1]at h;cases h
 . rw[O0 h0]at h;by_cases h1: -(n:Int)<=i
   . rw[O6 h1]at h;have e:(i+n).toNat=j:=Qk h;exact⟨by rw[seqIndex_neg (by omega) h1,e],by omega,h1,by omega⟩
   . rw[O0 h1]at h;cases h
theorem vm{α:Type}{xs:List α}{i:Int}{v:α}(h:atI xs i=some v):∃ j,seqIndex? i xs.length=some j/\xs[j]? =some v/\j<xs.length/\ -(xs.length:Int)<=i/\i<xs.length:=by
 unfold atI at h
 cases e:ixN xs.length i with
 | none=>rw[e]at h;cases h
 | some j=>
  rw[e]at h;obtain⟨h1,h2,h3,h4⟩:=Ee e;exact⟨j,h1,h,h2,h3,h4⟩
theorem dr{α:Type}{xs:List α}{j:Nat}{v:α}(h:xs[j]? =some v):atI xs (j:Int)=some v:=by
 have hj:j<xs.length:=(OK.mp h).1
 have e:ixN xs.length (j:Int)=some j:=by
  unfold ixN;rw[O6 (by omega),O6 (by omega)];simp
 unfold atI;rw[e];exact h
def zZ(b:Expr):Prop:=∀ o i,subscripted b false o i=operate [o,i] (getItem o i)
def IxR(X:Cx)(r:R2):Prop:=
 ∀(value slice:Expr) (Ox:List (Addr × Obj)) (s:Shared) (σ:St) (H:Hp) (x y:V) (v u:Value) (Q:VK),Inv X Ox σ H s->RelV x v->RelV y u->r x y H Q->
  subscripted slice false v u=operate [v,u] (getItem v u)->wpAny (model X.prog X.w) X.A (subscriptTail value slice v u) (EP X Ox σ Q) X.xe s
def MtR(X:Cx)(id:String)(r:V->List V->Hp->VK->Prop):Prop:=
 ∀(Ox:List (Addr × Obj)) (s:Shared) (σ:St) (H:Hp) (x:V) (xs:List V) (v:Value) (us:List Value) (Q:VK),Inv X Ox σ H s->RelV x v->Vals xs us->r x xs H Q->
  wpAny (model X.prog X.w) X.A (call (.builtin id) (v::us)) (EP X Ox σ Q) X.xe s
section
variable{X:Cx}{a b:Expr}{ta tb:TE}{pos:Pos}
theorem xK{r:R2}(hr:IxR X r)(ha:PE X a ta)(hb:PE X b tb)(hs:zZ b):PE X (.Subscript a b pos) (tOp r ta tb):=by
 intro Ox s σ H Q I h;exact Subscript_ (binT ha hb I h λv u s2 x y H2 I2 rx ry q=>hr a b Ox s2 σ H2 x y v u Q I2 rx ry q (hs _ _))
def rIxL(K:Frag):R2:=λx y H Q=>∃ p xs i v,x=.ref p/\y=.int i/\SqL K H p xs/\atI xs i=some v/\Q v H
def rIxT(K:Frag):R2:=λx y H Q=>∃ p xs i v,x=.ref p/\y=.int i/\SqT K H p xs/\atI xs i=some v/\Q v H
def rIxS:R2:=λx y H Q=>∃ z i c,x=.str z/\y=.int i/\z.length<=sizeLine/\atI z.cps.toList i=some c/\Q (.str ⟨#[c]⟩) H
theorem vn:IxR X (rIxL X.K):=by
 intro value slice Ox s σ H x y v u Q I rx ry h hs;obtain⟨p,xs,i,z,rfl,rfl,hq,he,q⟩:=h;cases rx;obtain⟨t,rfl⟩:=ry;obtain⟨OA,r,pl,hz⟩:=I.list hq;obtain⟨j,h1,h2,h3,h4,h5⟩:=vm he;obtain⟨w,ew,rw'⟩:=r.get h2;have hl:=r.length;have hn:=qE;have fin:EP X Ox σ Q w s:=⟨z,H,I,rw',q⟩;by_cases h0:0<=i
 . have hj:i.toNat=j:=by
    rw[seqIndex_of h0 h5]at h1;exact Qk h1
   exact item_listR pl.isList h0 (by omega) (by rw[hj];simpa using ew) fin hs
 . have hj:(i+(OA.toArray.size:Int)).toNat=j:=by
    rw[seqIndex_neg (by omega) h4]at h1;rw[OX,← hl];exact Qk h1
   exact SB (x:=w) pl.isList.typeIs slot_list_getitem.lookup
    (wpAny_getItem_list_neg (Q:=λr s'=>r=w/\EP X Ox σ Q r s') pl.isList (by omega) (by rw[OX] <;> omega) (by omega) (by rw[hj];simpa using ew) ⟨rfl,fin⟩) hs
theorem Fg:IxR X (rIxT X.K):=by
 intro value slice Ox s σ H x y v u Q I rx ry h hs;obtain⟨p,xs,i,z,rfl,rfl,hq,he,q⟩:=h;cases rx;obtain⟨t,rfl⟩:=ry;obtain⟨OA,r,pl,hz⟩:=I.tuple hq;obtain⟨j,h1,h2,h3,h4,h5⟩:=vm he;obtain⟨w,ew,rw'⟩:=r.get h2;have hl:=r.length;have hn:=qE;have fin:EP X Ox σ Q w s:=⟨z,H,I,rw',q⟩
 exact SB (x:=w) pl.typeIs slot_tuple_getitem.lookup
  (getItem_tuple (j:=j) (Q:=λr s'=>r=w/\EP X Ox σ Q r s') pl (by omega) (by omega) (by rw[OX,← hl];exact h1) (by simpa using ew) ⟨rfl,fin⟩) hs
theorem Fh:IxR X rIxS:=by
 intro value slice Ox s σ H x y v u Q I rx ry h hs;obtain⟨z,i,c,rfl,rfl,hz,he,q⟩:=h;obtain⟨t,rfl⟩:=rx;obtain⟨t',rfl⟩:=ry;obtain⟨j,h1,h2,h3,h4,h5⟩:=vm he;have hl:z.cps.toList.length=z.length:=by simp[Str.length]
 rw[hl]at h1 h4 h5;have hn:=qE
 exact tail_any (RH s z t) slot_str_getitem.lookup (getItem_str (c:=c) (by
  have e1:decide (i < -(2^63:Int))=false:=OW (by omega);have e2:decide (i ≥ 2^63)=false:=OW (by omega);rw[e1,e2,Bool.or_false]) (by rw[h1];simpa using h2) ⟨.str ⟨#[c]⟩,H,I.tok _,⟨_,rfl⟩,q⟩) hs
theorem Inv.lst{Ox:List (Addr × Obj)}{σ:St}{H:Hp}{s:Shared}{p:Addr}{xs:List V}(I:Inv X Ox σ H s)(h:H p=some (.lst xs)):
  ∃(OA:List Value) (n:Nat),Vals xs OA/\s.heap.get? p=some {cls:=.type "list",data:=.seq OA.toArray n}/\xs.length<=sizeLine:=by
 obtain⟨z,OA,n,r,e⟩:=I.hok p _ h;exact⟨OA,n,r,e,z⟩
theorem xR(lo hi:Option Int)(n:Nat):(sliceBounds lo hi none n).1=((HT.sIx n 0 lo:Nat):Int)/\(sliceBounds lo hi none n).2.1=((HT.sIx n n hi:Nat):Int)/\(sliceBounds lo hi none n).2.2=1:=by
 refine⟨?_,?_,rfl⟩
 . cases lo with
   | none=>simp[sliceBounds,HT.sIx]
   | some i=>
    simp only[sliceBounds,HT.sIx,Option.getD_none,show(1:Int)>0 by decide,Ti];by_cases h:i<0
    . simp only[h,Ti] <;> omega
    . simp only[h,if_false] <;> omega
 . cases hi with
   | none=>simp[sliceBounds,HT.sIx]
   | some i=>
    simp only[sliceBounds,HT.sIx,Option.getD_none,show(1:Int)>0 by decide,Ti];by_cases h:i<0
    . simp only[h,Ti] <;> omega
    . simp only[h,if_false] <;> omega
theorem wV(OA:List Value)(lo hi:Option Int):slicePick OA.toArray lo hi none=((OA.drop (HT.sIx OA.length 0 lo)).take (HT.sIx OA.length OA.length hi-HT.sIx OA.length 0 lo)).toArray:=by
 obtain⟨h1,h2,h3⟩:=xR lo hi OA.toArray.size;unfold slicePick;rw[h1,h2,h3];simp only[sliceRange_one,pick_run,OX] <;> rfl
def rSlL(K:Frag):V->Option Int->Option Int->Hp->VK->Prop:=λx lo hi H Q=>∃ a xs,x=.ref a/\SqL K H a xs/\∀ p,H p=none->Q (.ref p) (upd H p (.lst (cutV xs lo hi)))
theorem Ef:SlR X (rSlL X.K):=by
 intro Ox s σ H x v vl vu lo hi sl Q I rx hs pl pu h;obtain⟨a,xs,rfl,hx,q⟩:=h;cases rx;obtain⟨OA,r,ht,hz⟩:=I.list hx;have OC:=r.length;refine⟨"list",_,slot_list_getitem.lookup,ht.isList.typeIs,?_⟩;refine wpAny_getItem_list_slice ht.isList hs pl pu .none (by simp) ?_ (by rw[OX] <;> omega);rw[wV,← OC];refine⟨.ref s.heap.objs.size,_,I.laid (t':=s.toks) (o:=.lst (cutV xs lo hi)) (λb ob q=>OS _ q) (OQ _) ?_,rfl,q _ (I.hok.fresh (OQ _))⟩;exact⟨O7 (zv xs lo hi) hz,_,0,(r.drop (HT.sIx xs.length 0 lo)).take (HT.sIx xs.length xs.length hi-HT.sIx xs.length 0 lo),Pk _ rfl⟩
def flatV:V->Bool
 | .non=>true
 | .bl _=>true
 | .int _=>true
 | .str _=>true
 | _=>false
def eqV:V->V->Bool
 | .non,.non=>true
 | .bl a,.bl b=>a==b
 | .bl a,.int b=>(if a then 1 else 0)==b
 | .int a,.bl b=>a==(if b then 1 else 0)
 | .int a,.int b=>a==b
 | .str a,.str b=>a==b
 | _,_=>false
theorem Fi{A:Around}{s:Shared}{y x:V}{u v:Value}(ry:RelV y u)(rx:RelV x v)(fy:flatV y=true)(fx:flatV x=true):SeqAt.EqAt A s u v (eqV y x):=by
 cases y with
 | non=>
  cases ry
  cases x with
  | non=>cases rx;exact SeqAt.EqAt.same _
  | bl b=>cases rx;exact SeqAt.EqAt.none_bool b
  | int b=>obtain⟨t,rfl⟩:=rx;exact SeqAt.EqAt.none_int b t
  | str b=>obtain⟨t,rfl⟩:=rx;exact SeqAt.EqAt.none_str b t
  | _=>exact absurd (show false=true from fx) OI
 | bl a=>
  cases ry
  cases x with
  | non=>cases rx;exact SeqAt.EqAt.bool_none a
  | bl b=>cases rx;exact SeqAt.EqAt.bool_bool a b
  | int b=>obtain⟨t,rfl⟩:=rx;exact SeqAt.EqAt.bool_int a b t
  | str b=>obtain⟨t,rfl⟩:=rx;exact SeqAt.EqAt.bool_str a b t
  | _=>exact absurd (show false=true from fx) OI
 | int a=>
  obtain⟨t',rfl⟩:=ry
  cases x with
  | non=>cases rx;exact SeqAt.EqAt.int_none a t'
  | bl b=>cases rx;exact SeqAt.EqAt.int_bool a t' b
  | int b=>obtain⟨t,rfl⟩:=rx;exact SeqAt.EqAt.int_int a t' b t
  | str b=>obtain⟨t,rfl⟩:=rx;exact SeqAt.EqAt.int_str a t' b t
  | _=>exact absurd (show false=true from fx) OI
 | str a=>
  obtain⟨t',rfl⟩:=ry
  cases x with
  | non=>cases rx;exact SeqAt.EqAt.str_none a t'
  | bl b=>cases rx;exact SeqAt.EqAt.str_bool a t' b
  | int b=>obtain⟨t,rfl⟩:=rx;exact SeqAt.EqAt.str_int a t' b t
  | str b=>obtain⟨t,rfl⟩:=rx;exact SeqAt.EqAt.str_str a t' b t
  | _=>exact absurd (show false=true from fx) OI
 | _=>exact absurd (show false=true from fy) OI
def eqU(x:V)(u:Value):Bool:=match u with
 | .none=>eqV .non x
 | .bool b=>eqV (.bl b) x
 | .int i _=>eqV (.int i) x
 | .str z _=>eqV (.str z) x
 | _=>false
theorem Bo{x y:V}{u:Value}(r:RelV y u)(f:flatV y=true):eqU x u=eqV y x:=by
 cases y with
 | non=>cases r;rfl
 | bl b=>cases r;rfl
 | int i=>obtain⟨t,rfl⟩:=r;rfl
 | str z=>obtain⟨t,rfl⟩:=r;rfl
 | _=>exact absurd (show false=true from f) OI
theorem pj{x:V}:∀{xs:List V} {us:List Value},Vals xs us->xs.all flatV=true->us.any (eqU x)=xs.any λy=>eqV y x
 | _,_,.nil,_=>rfl
 | y::xs,u::us,.cons r t,f=>by
  rw[Sk,QB]at f;rw[QJ,QJ,Bo r f.1,pj t f.2]
theorem mP{A:Around}{s:Shared}{x:V}{v:Value}(rx:RelV x v)(fx:flatV x=true):∀{xs:List V} {us:List Value},Vals xs us->xs.all flatV=true->∀ u∈us,SeqAt.EqAt A s u v (eqU x u)
 | _,_,.nil,_=>λu hu=>by cases hu
 | y::xs,u::us,.cons r t,f=>λu' hu=>by
  rw[Sk,QB]at f;rcases OM.mp hu with rfl | hu
  . rw[Bo r f.1];exact Fi r rx f.1 fx
  . exact mP rx fx t f.2 u' hu
def inV(x:V)(xs:List V):Bool:=xs.any λy=>eqV y x
def rIn(K:Frag)(neg:Bool):R2:=λx y H Q=>∃ p xs,y=.ref p/\(SqL K H p xs\/SqT K H p xs)/\flatV x=true/\xs.all flatV=true/\Q (.bl (if neg then !inV x xs else inV x xs)) H
theorem wC:OpR X (compareOp .In) (rIn X.K false):=by
 intro Ox s σ H x y v u Q I rx ry h;obtain⟨p,xs,rfl,hq,fx,fs,q⟩:=h;cases ry;rcases hq with hq | hq
 . obtain⟨OA,r,pl,hz⟩:=I.list hq;refine SeqAt.in_listAt (eqU x) pl.isList (λw hw=>mP rx fx r fs w (by simpa using hw)) ⟨.bl _,H,I,rfl,?_⟩;rw[show OA.toArray.any (eqU x)=OA.any (eqU x) by simp,pj r fs];exact q
 . obtain⟨OA,r,pl,hz⟩:=I.tuple hq;refine SeqAt.in_tupleAt (eqU x) pl (λw hw=>mP rx fx r fs w (by simpa using hw)) ⟨.bl _,H,I,rfl,?_⟩;rw[show OA.toArray.any (eqU x)=OA.any (eqU x) by simp,pj r fs];exact q
theorem qG:OpR X (compareOp .NotIn) (rIn X.K true):=by
 intro Ox s σ H x y v u Q I rx ry h;obtain⟨p,xs,rfl,hq,fx,fs,q⟩:=h;cases ry;rcases hq with hq | hq
 . obtain⟨OA,r,pl,hz⟩:=I.list hq;refine SeqAt.notIn_listAt (eqU x) pl.isList (λw hw=>mP rx fx r fs w (by simpa using hw)) ⟨.bl _,H,I,rfl,?_⟩;rw[show OA.toArray.any (eqU x)=OA.any (eqU x) by simp,pj r fs];exact q
 . obtain⟨OA,r,pl,hz⟩:=I.tuple hq;refine SeqAt.notIn_tupleAt (eqU x) pl (λw hw=>mP rx fx r fs w (by simpa using hw)) ⟨.bl _,H,I,rfl,?_⟩;rw[show OA.toArray.any (eqU x)=OA.any (eqU x) by simp,pj r fs];exact q
theorem xS:OpR X (compareOp .NotIn) (λx y H Q=>∃ i j,x=.str i/\y=.str j/\Q (.bl (!(!(Builtin.Str.occurrences j i 0 j.length 1).isEmpty))) H):=by
 intro Ox s σ H x y v u Q I rx ry h;obtain⟨i,j,rfl,rfl,q⟩:=h;obtain⟨t,rfl⟩:=rx;obtain⟨t',rfl⟩:=ry;exact notIn_str ⟨.bl _,H,I,rfl,q⟩
theorem j4:CallR X (.builtin "len") (λxs H Q=>∃ p ys,xs=[.ref p]/\(SqL X.K H p ys\/SqT X.K H p ys)/\Q (.int ys.length) H):=by
 intro Ox s σ H xs us Q I r h;obtain⟨p,ys,rfl,hq,q⟩:=h;obtain⟨u,rfl,rx⟩:=dh r;cases rx;have hn:=qE;rcases hq with hq | hq
 . obtain⟨OA,r',pl,hz⟩:=I.list hq;have OC:=r'.length;exact Calls.call_len_list pl.isList (by simp only[OX] <;> omega) ⟨.int ys.length,H,I.tok _,⟨s.toks+1,by rw[OX,OC]⟩,q⟩
 . obtain⟨OA,r',pl,hz⟩:=I.tuple hq;have OC:=r'.length;exact len_tuple pl (by simp only[OX] <;> omega) ⟨.int ys.length,H,I.tok _,⟨s.toks+1,by rw[OX,OC]⟩,q⟩
theorem xT:CallR X (.builtin "len") (λxs H Q=>∃ z,xs=[.str z]/\z.length<=sizeLine/\Q (.int z.length) H):=by
 intro Ox s σ H xs us Q I r h;obtain⟨z,rfl,hz,q⟩:=h;obtain⟨u,rfl,t,rfl⟩:=dh r;have hn:=qE;exact len_str (by omega) ⟨.int z.length,H,I.tok _,⟨_,rfl⟩,q⟩
theorem xU:CallR X (.type "list") (λxs H Q=>∃ p ys,xs=[.ref p]/\(SqL X.K H p ys\/SqT X.K H p ys)/\∀ l,H l=none->Q (.ref l) (upd H l (.lst ys))):=by
 intro Ox s σ H xs us Q I r h;obtain⟨p,ys,rfl,hq,q⟩:=h;obtain⟨u,rfl,rx⟩:=dh r;cases rx
 have fin:∀(OA:List Value),Vals ys OA->ys.length<=sizeLine->∀(h':Heap) (c':Nat),(∀ b o',s.heap.get? b=some o'->h'.get? b=some o')->
   h'.get? s.heap.objs.size=some {cls:=.type "list",dict:=none,data:=.seq OA.toArray c',slots:=#[]}->EP X Ox σ Q (.ref s.heap.objs.size) {s with heap:=h'}:=λOA r' hz h' c' kp e=>
  ⟨.ref s.heap.objs.size,_,I.laid (t':=s.toks) kp (OQ _) (show ObjOk X.prog X.w _ h' _ (.lst ys) from⟨hz,OA,c',r',e⟩),rfl,q _ (I.hok.fresh (OQ _))⟩
 rcases hq with hq | hq
 . obtain⟨OA,r',pl,hz⟩:=I.list hq;have OC:=r'.length;obtain⟨o,ho,hc,n,hd⟩:=pl.isList;exact call_list_seq p (.inl rfl) ho hc hd (λh' c' kp e=>fin OA r' hz h' c' kp e) (by simp only[OX] <;> omega)
 . obtain⟨OA,r',pl,hz⟩:=I.tuple hq;have OC:=r'.length;obtain⟨o,ho,hc,n,hd⟩:=pl;exact call_list_seq p (.inr rfl) ho hc hd (λh' c' kp e=>fin OA r' hz h' c' kp e) (by simp only[OX] <;> omega)
theorem wW:CallR X (.type "tuple") (λxs H Q=>∃ p ys,xs=[.ref p]/\((SqL X.K H p ys/\∀ l,H l=none->Q (.ref l) (upd H l (.tup ys)))\/(SqT X.K H p ys/\Q (.ref p) H))):=by
 intro Ox s σ H xs us Q I r h;obtain⟨p,ys,rfl,h⟩:=h;obtain⟨u,rfl,rx⟩:=dh r;cases rx;rcases h with ⟨hq,q⟩ | ⟨hq,q⟩
 . obtain⟨OA,r',pl,hz⟩:=I.list hq;have OC:=r'.length;refine call_tuple_list pl.isList (λh' kp=>?_) (by simp only[OX] <;> omega);have I1:Inv X Ox σ H {s with heap:=h'}:=I.kept (t':=s.toks) kp
   have I2:Inv X Ox σ (upd H h'.objs.size (.tup ys)) {s with heap:=h'.push {cls:=.type "tuple",data:=.seq OA.toArray}}:=
    I1.laid (t':=s.toks) (λb o e=>OS _ e) (OQ _) (show ObjOk X.prog X.w _ _ _ (.tup ys) from⟨hz,OA,r',IsTup.new _ _⟩)
   exact⟨.ref h'.objs.size,_,I2,rfl,q _ (I1.hok.fresh (OQ _))⟩
 . obtain⟨OA,r',pl,hz⟩:=I.tuple hq;exact call_tuple_same pl ⟨.ref p,H,I,rfl,q⟩
def tyV(K:Frag)(T:String)(x:V)(H:Hp):Prop:=match x with
 | .str _=>T="str"
 | .int _=>T="int"
 | .ref p=>(T="list"/\∃ xs,SqL K H p xs)\/(T="tuple"/\∃ o,K.lookup p=some o/\o.cls=.type "tuple"/\o.dict=none)\/
   (T="dict"/\((∃ Oz,H p=some (.dK Oz))\/∃ Oz,H p=some (.dT Oz)))\/(T="set"/\∃ S n,H p=some (.set S n))
 | _=>False
theorem Bp{Ox:List (Addr × Obj)}{σ:St}{H:Hp}{s:Shared}{T:String}{x:V}{v:Value}(I:Inv X Ox σ H s)(r:RelV x v)(ty:tyV X.K T x H):
  s.TypeIs v T/\∀ a,v=.ref a->∃ ob,s.heap.get? a=some ob/\ob.dict=none:=by
 cases x with
 | str z=>
  obtain⟨t,rfl⟩:=r;cases (show T="str" from ty);exact⟨RH s z t,λ_ e=>nomatch e⟩
 | int i=>
  obtain⟨t,rfl⟩:=r;cases (show T="int" from ty);exact⟨typeIs_int s i t,λ_ e=>nomatch e⟩
 | ref p=>
  cases r;rcases ty with ⟨rfl,xs,hq⟩ | ⟨rfl,o,hk,hc,hd⟩ | ⟨rfl,hk⟩ | ⟨rfl,S,n,hk⟩
  . obtain⟨OA,_,pl,_⟩:=I.list hq;refine⟨pl.isList.typeIs,λa e=>?_⟩;cases e;obtain⟨o,n,e,c,hd,_⟩:=pl;exact⟨o,e,hd⟩
  . refine⟨⟨o,I.kIn p o hk,hc⟩,λa e=>?_⟩;cases e;exact⟨o,I.kIn _ o hk,hd⟩
  . have z:∃ o,s.heap.get? p=some o/\o.ExactDict:=by
     rcases hk with ⟨Oz,hk⟩ | ⟨Oz,hk⟩
     . obtain⟨_,_,_,_,o,_,_,e,ex,_⟩:=I.hok p _ hk;exact⟨o,e,ex⟩
     . obtain⟨_,_,_,_,o,_,_,e,ex,_⟩:=I.hok p _ hk;exact⟨o,e,ex⟩
    obtain⟨o,e,ex⟩:=z;refine⟨⟨o,e,ex.1⟩,λa e2=>?_⟩;cases e2;exact⟨o,e,ex.2.1⟩
  . obtain⟨o,_,_,_,e,ex,_⟩:=I.hok p _ hk;refine⟨⟨o,e,ex.1⟩,λa e2=>?_⟩;cases e2;exact⟨o,e,ex.2.1⟩
 | _=>exact False.elim ty
def xV(K:Frag)(T:String)(r:V->List V->Hp->VK->Prop)(to:TE):TE:=λσ H Q=>to σ H λx H1=>tyV K T x H1/\r x [] H1 Q
def tBM(K:Frag)(T:String)(r:V->List V->Hp->VK->Prop)(to:TE)(t:TA):TE:=λσ H Q=>to σ H λx H1=>tyV K T x H1/\t σ H1 λxs H2=>r x xs H2 Q
variable{o e:Expr}{es:List Expr}{to:TE}{t:TA}{name:Str}{apos cpos:Pos}{T id:String}{r:V->List V->Hp->VK->Prop}
theorem xW (pa:PlainAttrs T) (slot:Slot T name id) (hty:typeOf (.builtin id)=pure (.type "method_descriptor")) (hm:MtR X id r) (ho:PE X o to)
  (hbase:attributeBase o name X.env (eval o X.env)=eval o X.env:=by rfl) (hline:(apos.endLine==cpos.line)=true:=by rfl):PE X (.Call (.Attribute o name apos) [] [] cpos) (xV X.K T r to):=by
 intro Ox s σ H Q I h;refine wpAny_Call_method0_late hbase hline (thn (ho Ox s σ H _ I h) λv s1 ⟨x,H1,I1,r1,ty,q1⟩=>?_);obtain⟨h1,h2⟩:=Bp I1 r1 ty;exact⟨T,id,pa,slot,hty,h1,h2,Rw rfl (PySem.evalArgs_none (hm Ox s1 σ H1 x [] v [] Q I1 r1 .nil q1))⟩
theorem cw (pa:PlainAttrs T) (slot:Slot T name id) (hty:typeOf (.builtin id)=pure (.type "method_descriptor")) (hm:MtR X id r) (ho:PE X o to) (ha:PA X (e::es) t)
  (hbase:attributeBase o name X.env (eval o X.env)=eval o X.env:=by rfl)
  (hfew:((backTo cpos (starEach (e::es) X.env)).all (λx=>!x.1)&&(backToKw cpos (keywordEach [] X.env)).all (λx=>x.1.isSome)
   &&decide ((e::es).length+([]:List Keyword).length+(if ([]:List Keyword).isEmpty then 0 else 1)<30))=true:=by rfl)
  (hline:(apos.endLine==cpos.line)=true:=by rfl) (hs:starEach (e::es) X.env=(false,eval e X.env)::starEach es X.env:=by rfl) (hplain:(backTo cpos (starEach es X.env)).any (·.1)=false:=by rfl):
  PE X (.Call (.Attribute o name apos) (e::es) [] cpos) (tBM X.K T r to t):=by
 intro Ox s σ H Q I h;refine wpAny_Call_method_late hbase hfew hline rfl (thn (ho Ox s σ H _ I h) λv s1 ⟨x,H1,I1,r1,ty,q1⟩=>?_);obtain⟨h1,h2⟩:=Bp I1 r1 ty;refine⟨T,id,pa,slot,hty,h1,h2,?_⟩;have hA:=ha cpos Ox s1 σ H1 _ I1 q1;rw[hs]at hA ⊢;refine Rw (by show(false||(backTo cpos (starEach es X.env)).any (·.1))=false;rw[hplain] <;> rfl) (RL ?_);exact thn hA λus s2 ⟨vs,H2,I2,r2,q2⟩=>hm Ox s2 σ H2 x vs v us Q I2 r1 r2 q2
end
def MtM(X:Cx)(id:String)(r:V->List V->Hp->VK->Prop):Prop:=
 ∀(Ox:List (Addr × Obj)) (s:Shared) (σ:St) (H:Hp) (x:V) (xs:List V) (v:Value) (us:List Value) (Q:VK),Inv X Ox σ H s->RelV x v->Vals xs us->r x xs H Q->
  wpAny (model X.prog X.w) X.A (call (.builtin id) (v::us)) (EP X Ox σ Q) X.xe s
theorem Vals.one:∀{x:V} {us:List Value},Vals [x] us->∃ u,us=[u]/\RelV x u
 | _,_,.cons r .nil=>⟨_,rfl,r⟩
theorem Vals.zero:∀{us:List Value},Vals [] us->us=[]
 | _,.nil=>rfl
theorem Vals.eraseIdx:∀{xs:List V} {us:List Value} (i:Nat),Vals xs us->Vals (xs.eraseIdx i) (us.eraseIdx i)
 | _,_,_,.nil=>.nil
 | _,_,0,.cons _ t=>t
 | _,_,i+1,.cons r t=>.cons r (Vals.eraseIdx i t)
theorem Vals.reverse{xs:List V}{us:List Value}(h:Vals xs us):Vals xs.reverse us.reverse:=by
 induction h with
 | nil=>exact .nil
 | cons r t ih=>rw[List.reverse_cons,List.reverse_cons];exact Vals.append ih (.cons r .nil)
theorem Vals.rep{xs:List V}{us:List Value}(h:Vals xs us):∀ k:Nat,Vals (List.replicate k xs).flatten (List.replicate k us).flatten
 | 0=>.nil
 | k+1=>by
  rw[Qj,Qj,Ra,Ra];exact Vals.append h (Vals.rep h k)
theorem wD{α:Type}:∀(l:List α) (i:Nat),(l.eraseIdx i).length<=l.length
 | [],_=>OQ _
 | _::_,0=>Qz _
 | _::r,i+1=>Nat.succ_le_succ (wD r i)
theorem wE(OA:List Value):∀(k:Nat) (acc:List Value),
  List.foldl (λx1 x2=>x1++x2) acc.toArray (List.replicate k OA.toArray)=(acc++(List.replicate k OA).flatten).toArray
 | 0,acc=>by simp
 | k+1,acc=>by
  have e:acc.toArray++OA.toArray=(acc++OA).toArray:=by simp
  have e2:(acc++OA)++(List.replicate k OA).flatten=acc++(List.replicate (k+1) OA).flatten:=by
   rw[Qj,Ra,Rb]
  rw[← e2,← wE OA k (acc++OA),← e,Qj,QF]
section
variable{X:Cx}{Ox:List (Addr × Obj)}{σ:St}{H:Hp}{s:Shared}{l b:Addr}{xs ys zs:List V}
theorem Inv.lset {OA its':List Value} {n:Nat} {f:Array Value->Array Value} {t':Nat} (I:Inv X Ox σ H s) (hH:H l=some (.lst xs))
  (e:s.heap.get? l=some {cls:=.type "list",data:=.seq OA.toArray n}) (hf:f OA.toArray=its'.toArray) (hv:Vals ys its') (hz:ys.length<=sizeLine):
  Inv X Ox σ (upd H l (.lst ys)) {s with heap:=s.heap.update l (Obj.mapSeq f),toks:=t'}:=by
 have q:=PySem.IsL.update e f;rw[hf]at q;refine I.write (x:=l) (e:=l) (by rw[hH];exact trivial) (.inl rfl) (λb' u hb hu=>(PH s.heap (Obj.mapSeq f) (Rk hb)).trans hu) ⟨_,q⟩ ?_;exact⟨hz,its',_,hv,q⟩
theorem Inv.lnew{OA:List Value}{t':Nat}(I:Inv X Ox σ H s)(hv:Vals ys OA)(hz:ys.length<=sizeLine):
  Inv X Ox σ (upd H s.heap.objs.size (.lst ys)) {s with heap:=s.heap.push {cls:=.type "list",data:=.seq OA.toArray},toks:=t'}:=
 I.laid (λ_ _ q=>OS _ q) (OQ _) ⟨hz,OA,0,hv,Pk _ rfl⟩
theorem Inv.fresh(I:Inv X Ox σ H s):H s.heap.objs.size=none:=I.hok.fresh (OQ _)
theorem Inv.lstM(I:Inv X Ox σ H s)(hH:H l=some (.lst xs)):xs.length<=sizeLine/\∃(OA:List Value) (n:Nat),Vals xs OA/\xs.length=OA.length/\s.heap.get? l=some {cls:=.type "list",data:=.seq OA.toArray n}:=by
 obtain⟨z,OA,n,r,e⟩:=I.hok l _ hH;exact⟨z,OA,n,r,r.length,e⟩
theorem xX{n:Nat}(h:n<=sizeLine):Builtin.List.listTooLong n=false:=by
 unfold Builtin.List.listTooLong;exact OW (by omega)
end
section
variable{X:Cx}
def Eg:V->List V->Hp->VK->Prop:=λx vs H Q=>∃ l xs y,x=.ref l/\vs=[y]/\H l=some (.lst xs)/\xs.length<sizeLine/\Q .non (upd H l (.lst (xs++[y])))
theorem wF:MtM X "list.append" Eg:=by
 intro Ox s σ H x vs v us Q I rx rv h;obtain⟨l,xs,y,rfl,rfl,hH,hz,q⟩:=h;cases rx;obtain⟨u,rfl,ru⟩:=rv.one;obtain⟨z,OA,n,r,hl,e⟩:=I.lstM hH;refine QV F.slot_list_append ⟨_,e,rfl⟩ F.entry_list_append (F.args_list_append_2 _ _) (PySem.list_append l OA.toArray n u (by rw[OX];omega)) ⟨e,?_⟩;refine⟨.non,_,I.lset (its':=OA++[u]) hH e (by simp) (r.append (.cons ru .nil)) ?_,rfl,q⟩;rw[OU,ST];omega
def Eh:V->List V->Hp->VK->Prop:=λx vs H Q=>∃ l b xs zs,x=.ref l/\vs=[.ref b]/\H l=some (.lst xs)/\H b=some (.lst zs)/\xs.length+zs.length<=sizeLine/\Q .non (upd H l (.lst (xs++zs)))
theorem Bq:MtM X "list.extend" Eh:=by
 intro Ox s σ H x vs v us Q I rx rv h;obtain⟨l,b,xs,zs,rfl,rfl,hH,hB,hz,q⟩:=h;cases rx;obtain⟨u,rfl,ru⟩:=rv.one;cases ru;obtain⟨z,OA,n,r,hl,e⟩:=I.lstM hH;obtain⟨z2,its2,n2,r2,hl2,e2⟩:=I.lstM hB;have hsz:OA.toArray.size+its2.toArray.size<=sizeLine:=by rw[OX,OX];omega
 have hlong:¬ (!OA.toArray.isEmpty&&Builtin.List.listTooLong (OA.toArray.size+its2.toArray.size))=true:=by
  rw[xX hsz,Bool.and_false];exact OI
 refine QV F.slot_list_extend ⟨_,e,rfl⟩ F.entry_list_extend (F.args_list_extend_2 _ _)
  (AutoSeq1.list_extend_list_list_0 l OA.toArray n b its2.toArray n2 hlong (by rw[OX];omega) (by omega)) ⟨e,e2,?_⟩
 refine⟨.non,_,I.lset (its':=OA++its2) hH e (by simp) (r.append r2) ?_,rfl,q⟩;rw[OU];omega
def Fj:V->List V->Hp->VK->Prop:=λx vs H Q=>∃ l xs i k y,x=.ref l/\vs=[.int i]/\H l=some (.lst xs)/\ -(2^63)<=i/\i<2^63/\seqIndex? i xs.length=some k/\xs[k]? =some y/\Q y (upd H l (.lst (xs.eraseIdx k)))
theorem CV:MtM X "list.pop" Fj:=by
 intro Ox s σ H x vs v us Q I rx rv h;obtain⟨l,xs,i,k,y,rfl,rfl,hH,h1,h2,hk,hy,q⟩:=h;cases rx;obtain⟨u,rfl,ru⟩:=rv.one;obtain⟨t,rfl⟩:=ru;obtain⟨z,OA,n,r,hl,e⟩:=I.lstM hH;obtain⟨w,hw,rw'⟩:=r.get hy
 refine QV F.slot_list_pop ⟨_,e,rfl⟩ F.entry_list_pop (F.args_list_pop_2 _ _)
  (MeetsSeq.list_pop_at l OA.toArray n i t k w (fitsIndex_both h1 h2) (by rw[OX,← hl];exact hk) (by rw[← RC];exact hw) (by rw[OX];omega)) ⟨e,?_⟩
 refine⟨y,_,I.lset (its':=OA.eraseIdx k) hH e ?_ (r.eraseIdx k) ?_,rw',q⟩
 . show OA.toArray.eraseIdxIfInBounds k=(OA.eraseIdx k).toArray;rw[List.eraseIdxIfInBounds_toArray]
 . have:=wD xs k;omega
def Fk:V->List V->Hp->VK->Prop:=λx vs H Q=>∃ l xs,x=.ref l/\vs=[]/\H l=some (.lst xs)/\Q .non (upd H l (.lst []))
theorem CW:MtM X "list.clear" Fk:=by
 intro Ox s σ H x vs v us Q I rx rv h;obtain⟨l,xs,rfl,rfl,hH,q⟩:=h;cases rx;have hus:=rv.zero;subst hus;obtain⟨z,OA,n,r,hl,e⟩:=I.lstM hH;refine QV F.slot_list_clear ⟨_,e,rfl⟩ F.entry_list_clear (F.args_list_clear_1 _) (AutoSeq1.list_clear_list_0 l OA.toArray n (by rw[OX];omega)) ⟨e,?_⟩;exact⟨.non,_,I.lset (its':=[]) (ys:=[]) hH e rfl .nil (Py _),rfl,q⟩
def rCat:R2:=λx y H Q=>∃ l b xs zs,x=.ref l/\y=.ref b/\H l=some (.lst xs)/\H b=some (.lst zs)/\xs.length+zs.length<=sizeLine/\∀ p,H p=none->Q (.ref p) (upd H p (.lst (xs++zs)))
theorem Fl:OpR X (binaryOp .Add) rCat:=by
 intro Ox s σ H x y v u Q I rx ry h;obtain⟨l,b,xs,zs,rfl,rfl,hH,hB,hz,q⟩:=h;cases rx;cases ry;obtain⟨z,OA,n,r,hl,e⟩:=I.lstM hH;obtain⟨z2,its2,n2,r2,hl2,e2⟩:=I.lstM hB;refine PySem.P.add_list e e2 ?_ (by rw[OX,OX];omega);have ea:OA.toArray++its2.toArray=(OA++its2).toArray:=by simp
 rw[ea];exact⟨.ref _,_,I.lnew (t':=s.toks) (r.append r2) (by rw[OU];omega),rfl,q _ I.fresh⟩
def rRep:R2:=λx y H Q=>∃ l k xs,x=.ref l/\y=.int k/\H l=some (.lst xs)/\ -(2^63)<=k/\k<2^63/\xs.length*k.toNat<=sizeLine/\
 ∀ p,H p=none->Q (.ref p) (upd H p (.lst (List.replicate k.toNat xs).flatten))
theorem Ei{α:Type}(xs:List α)(k:Nat):(List.replicate k xs).flatten.length=k*xs.length:=by
 induction k with
 | zero=>simp
 | succ k ih=>rw[Qj,Ra,OU,ih,Rx,Nat.add_comm]
theorem Fm:OpR X (binaryOp .Mult) rRep:=by
 intro Ox s σ H x y v u Q I rx ry h;obtain⟨l,k,xs,rfl,rfl,hH,h1,h2,hz,q⟩:=h;cases rx;obtain⟨t,rfl⟩:=ry;obtain⟨z,OA,n,r,hl,e⟩:=I.lstM hH;have OC:OA.toArray.size*k.toNat<=sizeLine:=by rw[OX,← hl];exact hz
 have hcap:¬ OA.toArray.size*k.toNat > (2^63-1)/8:=by
  have:(sizeLine:Nat)<=(2^63-1)/8:=by decide
  omega
 have hfit:¬ (!Builtin.List.listFitsIndex k)=true:=by
  rw[fitsIndex_both h1 h2];exact OI
 have hlong:¬ Builtin.List.listTooLong (OA.toArray.size*k.toNat)=true:=by
  rw[xX OC];exact OI
 have hnew:List.foldl (λx1 x2=>x1++x2) #[] (List.replicate (if OA.toArray.isEmpty=true then 0 else k.toNat) OA.toArray)=(List.replicate k.toNat OA).flatten.toArray:=by
  have f0:∀ m:Nat,List.foldl (λx1 x2=>x1++x2) #[] (List.replicate m OA.toArray)=(List.replicate m OA).flatten.toArray:=λm=>by
   have:=wE OA m [];rw[List.nil_append]at this;exact this
  rw[f0]
  cases OA with
  | nil=>simp
  | cons a r'=>rw[O0 (by simp)]
 refine wpAny_binaryOp_repeat_ref (T:="list") (U:="int") (by decide) ⟨_,e,rfl⟩ (λs'=>typeIs_int s' k t) noFill_list_mul F.fills_int_mul F.slot_int_rmul repeat_list F.slot_int_index.lookup
  (QV F.slot_int_rmul (typeIs_int s k t) F.entry_int_rmul (F.args_int_rmul_2 _ _) (int___rmul___int_list k t l OA.toArray n)
   ⟨e,rfl,⟨_,e,rfl⟩,QV F.slot_list_mul ⟨_,e,rfl⟩ F.entry_list_mul (F.args_list_mul_2 _ _) (AutoListH.list___mul___list_int_3 l OA.toArray n k t hfit hcap hlong) ⟨e,?_⟩⟩)
 rw[hnew];exact⟨.ref _,_,I.lnew (t':=s.toks) (r.rep k.toNat) (by rw[Ei,Nat.mul_comm];exact hz),rfl,q _ I.fresh⟩
end
end L2
namespace Att
open PySem PySem.W PySem.Calls PyProof.Rows
theorem ints_of_wellAll{P:Params}{h:Heap}:∀(ns:List Int) (vs:List Value),WellAll P h vs (ns.map WData.int)->IntsAre vs ns:=by
 intro ns
 induction ns with
 | nil=>
  intro vs w;rw[List.map_nil]at w;cases w;exact .nil
 | cons n ns ih=>
  intro vs w;rw[List.map_cons]at w
  cases w with
  | cons a b=>
   cases a;exact .cons _ _ (ih _ b)
theorem script_of {l:OpenLaw} {n:Nat} (hn:l.most=some n) {P:Params} {h:Heap} {args:List WData} {vals:List Value}
  (hpre:l.row.toRowW.claim.pre args=true) (hwl:WellAll P h vals args):
  ∃ a vs ns,vals=[Value.ref a]/\args=[WData.list (ns.map WData.int)]/\h.get? a=some {cls:=.type "list",data:=.seq vs.toArray}/\IntsAre vs ns/\ns.length<=n:=by
 have hsh:WShape.hasAll [] args [.list .int]=true:=(pre_splitW hpre).1;have hc:l.pre.holds [] {args:=args}=true:=(pre_splitW hpre).2;obtain⟨d,r,rfl,h1,h2⟩:=hasAllW_cons hsh;obtain rfl:=hasAllW_nil h2;obtain⟨xs,rfl,h3⟩:=hasW_list h1;obtain⟨ns,rfl⟩:=items_int h3
 have OC:ns.length<=n:=by
  unfold OpenLaw.pre at hc
  have h4:(WTm.not (.lt (.lit (.int (n:Int))) (.len (.arg 0)))).holds [] {args:=[.list (ns.map .int)]}=true:=by
   have h4:=(holds_andW hc).1;rw[hn]at h4;exact h4
  have h5:=condW_of h4 (w_not (w_lt w_lit (w_len_list (w_arg rfl))));rw[List.length_map]at h5;refine Nat.le_of_not_lt λq=>?_;have q':(n:Int) < ((ns.length:Nat):Int):=by omega
  first
   | (rw[decide_eq_true q']at h5;exact absurd h5 (by decide))
   | (simp at h5;omega)
 cases hwl with
 | cons w1 w2=>
  cases w2
  cases w1 with
  | list ho hall=>exact⟨_,_,ns,rfl,rfl,ho,ints_of_wellAll ns _ hall,OC⟩
theorem post_true(l:OpenLaw)(args:List WData):l.row.toRowW.claim.post args (.bool true) args=true:=
 postW_of (r:=l.row.toRowW) (X:=(true==true))
  (show WShape.has [] (.bool true) .bool=true by first | rfl | decide | simp[WShape.has,WShape.arms,WShape.armsAll])
  (show(WTm.eq .res (.lit (.bool true))).value [] {args:=args,res:=some (.bool true),after:=args}=some (.bool (true==true)) from w_eq_bool (w_res rfl) w_lit) rfl
theorem attach_call {l:OpenLaw} {n:Nat} {q:Program} {loose:List Str} {XP:(Str->Option Value)->Heap->Prop} {YP:World->Heap->Prop} {d:DefRec}
  (hn:l.most=some n) (hdf:d.params.defaults=[])
  (call:∀(w:World) (s₀ s₁:Shared) (mg mb:Str->Option Value) (fa:Addr) (o:Obj) (pm cd doc:Value) (a:Addr) (vs:List Value) (ns:List Int),
   Ground q loose [] XP w s₀ mg mb s₁.heap->YP w s₁.heap->
   s₁.heap.get? fa=some o->o.data=.func (docDef d.name d.params d.body d.scope pm cd doc)->s₁.heap.CodeRec cd d.name->mg d.name=some (.ref fa)->
   s₁.heap.get? a=some {cls:=.type "list",data:=.seq vs.toArray}->IntsAre vs ns->ns.length<=n->s₁.gens=#[]->
   codeAny (model l.prog w) callerA (.call (.ref fa) ⟨[.ref a],[]⟩) (λr s'=>r=.ok (.ret (.bool true))/\OldK s₁.heap s'.heap/\s'.os=s₁.os/\AllBare s'.gens) s₁):
  WalkO q loose XP YP l.row.toRowW d [] (λf vs=>PySem.call f vs):=by
 intro w s₀ s₁ mg mb G Y fa o pm cd doc dV kV ho hd hcd hD hmg hg args vals as hpre hlay hrd hwl hlo;obtain rfl:dV=.none:=Dflts.none hD hdf;obtain rfl:kV=.none:=Dflts.noKw hD;obtain⟨a,vs,ns,rfl,rfl,hobj,hints,OC⟩:=script_of hn hpre hwl;refine enter_call (codeAny_mono (call w s₀ s₁ mg mb fa o pm cd doc a vs ns G Y ho (fd_plain hd) hcd hmg hobj hints OC hg) λr s' hq=>?_);obtain⟨rfl,h2,h3,h4⟩:=hq;exact⟨.inl ⟨.bool true,.bool true,[],rfl,λ_=>rfl,.bool true,post_true l _,λ_=>⟨List.Pairwise.nil,λ_ hm=>(nomatch hm)⟩⟩,h2,h3,h4⟩
section
variable{prog:Program}{w:World}{A:Around}{E:Value->Shared->Prop}{s:Shared}{K:Frag}
end
end Att
namespace L2
open PySem PySem.Spec PyProof.Rows
theorem qH:∀{vs:List Value} {ns:List Int},IntsAre vs ns->Vals (ns.map V.int) vs
 | _,_,.nil=>.nil
 | _,_,.cons n t h=>.cons ⟨t,rfl⟩ (qH h)
def Only(H:Hp):Prop:=∀ b,H b=none\/∃ o xs,H b=some (.frz o (.lst xs))
theorem CY {P:Program} {w:World} {K:Frag} {mg mb:Str->Option Value} {CX:CXT} {k:Nat} {fa a:Addr} {fd:FuncData} {x:Str} {sp:Sp} {s₁:Shared} {vs:List Value} {ns:List Int}
  (KX:K.In s₁.heap) (hns:s₁.heap.Ns mainGlobals mg) (hb:s₁.heap.Ns builtinsNs mb) (hbb:∀ x:Str,x≠"__name__"->mb x=bootBuiltins x) (hlim:s₁.heap.NoLimit) (hg:s₁.gens=#[])
  (ha:s₁.heap.get? a=some {cls:=.type "list",data:=.seq vs.toArray}) (hi:IntsAre vs ns) (hl:ns.length<=sizeLine) (hr:Room k callerA)
  (F:∀ base:Heap,K.In base->base.Ns mainGlobals mg->FnOk P w K mg base CX k fa fd [x] sp) (hbind:∀(s:Shared) (u:Value),BindsTo s fd ⟨[u],[]⟩ [(x,u)])
  (hsp:∀ H:Hp,Only H->SqL K H a (ns.map V.int)->sp [.ref a] H (λv _=>v=.bl true) λ_ _ _=>False)
  (hCX:∀ H e s',CX [] H s₁ (λ_ _ _=>False) e s'->False):
  codeAny (model P w) callerA (.call (.ref fa) ⟨[.ref a],[]⟩) (λr s'=>r=.ok (.ret (.bool true))/\OldK s₁.heap s'.heap/\s'.os=s₁.os/\AllBare s'.gens) s₁:=by
 have rv:=qH hi;have lenV:=hi.length
 have core:∀ H:Hp,Only H->SqL K H a (ns.map V.int)->HOk P w H s₁.heap->(∀ b,H b≠none->b=a)->(H a≠none->K.lookup a=none)->
   codeAny (model P w) callerA (.call (.ref fa) ⟨[.ref a],[]⟩) (λr s'=>r=.ok (.ret (.bool true))/\OldK s₁.heap s'.heap/\s'.os=s₁.os/\AllBare s'.gens) s₁:=by
  intro H hO hS hok hA hK;have base_of:∀{b:Addr} {o:Obj},s₁.heap.get? b=some o->H b=none->(hidT s₁.heap H).get? b=some o:=λe n=>CP e n
  have noA:∀{b:Addr} {o:Obj} {es:Array DictEntry} {ep:Nat},s₁.heap.get? b=some o->o.data=.dict es ep->H b=none:=λ{b o es ep} e d=>by
   cases q:H b with
   | none=>rfl
   | some u=>
    have e':b=a:=hA b (by rw[q];simp);subst e';rw[ha]at e;cases e;have d':Data.seq vs.toArray _=Data.dict es ep:=d;cases d'
  have nsK:∀{b:Addr} {m:Str->Option Value},s₁.heap.Ns b m->(hidT s₁.heap H).Ns b m:=λ{b m} ⟨o,es,ep,e,d,r⟩=>⟨o,es,ep,base_of e (noA e d),d,r⟩
  have hKb:K.In (hidT s₁.heap H):=λb o e=>base_of (KX b o e) (by
   cases q:H b with
   | none=>rfl
   | some u=>
    have e':b=a:=hA b (by rw[q];simp);subst e';rw[hK (by rw[q];simp)]at e;cases e)
  have hM:Mod K mg (hidT s₁.heap H):=⟨hKb,nsK hns,⟨mb,nsK hb,hbb⟩,let ⟨mc,h1,h2⟩:=hlim;⟨mc,nsK h1,h2⟩⟩;have e0:Env0 P w K mg (hidT s₁.heap H) callerA [] s₁ H:=⟨rfl,hM,λb o e=>D8 e,Nat.le_of_eq (Bb _ _),trivial,λb hb=>absurd (show b∈([]:List Addr) from hb) (by simp),hok,.of_eq hg⟩;refine Sy ((F _ hKb (nsK hns)).run callerA [] s₁ H ⟨[.ref a],[]⟩ [.ref a] [.ref a] _ _ hr e0 (hbind s₁ (.ref a)) (.cons rfl .nil) (hsp H hO hS)) λr s' h=>?_
  cases r with
  | error e=>exact(hCX H e s' h).elim
  | ok fl=>
   cases fl with
   | next=>exact False.elim h
   | brk=>exact False.elim h
   | cont=>exact False.elim h
   | ret u=>
    obtain⟨v,H',os,bare,un,hok',r',q⟩:=h;have q':v=.bl true:=q;subst q';obtain rfl:u=Value.bool true:=r';refine⟨rfl,OldK.of_keep λb o e=>?_,os,bare⟩
    cases q:H b with
    | none=>exact un.keep b o e q (by intro z;exact absurd (show b∈([]:List Addr) from z) (by simp)) (by simp)
    | some u=>
     rcases hO b with z | ⟨ob,xs,z⟩
     . rw[q]at z;cases z
     . have z2:=un.frzs b ob _ z;obtain⟨e1,_⟩:=hok b _ z;obtain⟨e2,_⟩:=hok' b _ z2;rw[e]at e1;cases e1;exact e2
 cases hk:K.lookup a with
 | some o=>
  have e:=KX a o hk;rw[ha]at e;cases e;refine core (λ_=>none) (λ_=>.inl rfl) (.inr ⟨_,vs.toArray,_,hk,rfl,rfl,rfl,by rw[OX,lenV];exact hl,by simpa using rv⟩) (λb u z=>by have z':(none:Option HO)=some u:=z;cases z') (λb z=>absurd rfl z) λz=>absurd rfl z
 | none=>
  refine core (λb=>if b=a then some (.frz {cls:=.type "list",data:=.seq vs.toArray} (.lst (ns.map V.int))) else none) (λb=>?_) (.inl (.inr ⟨{cls:=.type "list",data:=.seq vs.toArray},O6 rfl⟩)) (λb u z=>?_) (λb z=>?_) λ_=>hk
  . by_cases hb:b=a
    . exact .inr ⟨_,_,O6 hb⟩
    . exact .inl (O0 hb)
  . by_cases hb:b=a
    . have z':=(O6 hb).symm.trans z;cases z';subst hb;exact⟨ha,by rw[OF];exact hl,vs,_,rv,ha⟩
    . have z':=(O0 hb).symm.trans z;cases z'
  . by_cases hb:b=a
    . exact hb
    . exact absurd (O0 hb) z
theorem Ej {l:PySem.W.OpenLaw} {n k:Nat} {q:Program} {loose:List Str} {XP:(Str->Option Value)->Heap->Prop} {YP:World->Heap->Prop} {d:DefRec} {K:Params->Frag} {CX:World->CXT} {sp:World->Sp} {x:Str}
  (hn:l.most=some n) (hn2:n<=sizeLine) (hdf:d.params.defaults=[]) (hr:Room k callerA)
  (hY:∀(w:World) (h:Heap),YP w h->(K w.params).In h)
  (F:∀(w:World) (mg:Str->Option Value) (fa:Addr) (h:Heap),(K w.params).In h->h.Ns mainGlobals mg->mg d.name=some (.ref fa)->
   ∃ fd:FuncData,(∀(s:Shared) (u:Value),BindsTo s fd ⟨[u],[]⟩ [(x,u)])/\
    ∀ base:Heap,(K w.params).In base->base.Ns mainGlobals mg->FnOk l.prog w (K w.params) mg base (CX w) k fa fd [x] (sp w))
  (hsp:∀(w:World) (H:Hp) (a:Addr) (ns:List Int),ns.length<=n->Only H->SqL (K w.params) H a (ns.map V.int)->sp w [.ref a] H (λv _=>v=.bl true) λ_ _ _=>False)
  (hCX:∀(w:World) (H:Hp) (s:Shared) (e:Value) (s':Shared),CX w [] H s (λ_ _ _=>False) e s'->False):
  PySem.W.WalkO q loose XP YP l.row.toRowW d [] (λf vs=>PySem.call f vs):=by
 refine Att.attach_call hn hdf λw s₀ s₁ mg mb fa o pm cd doc a vs ns G Y ho hd hcd hmg hobj hints OC hg=>?_;have KX:=hY w _ Y;obtain⟨fd,hb,hF⟩:=F w mg fa _ KX G.T.g hmg;exact CY KX G.T.g G.T.b G.T.builtins G.T.nolimit hg hobj hints (O7 OC hn2) hr hF hb (λH hO hS=>hsp w H a ns OC hO hS) λH e s'=>hCX w H s₁ e s'
def be(s:Stmt):Arguments:=match s with
 | .FunctionDef _ a _ _ _ _ _ _ _ _=>a
 | _=>{posonlyargs:=[],args:=[],vararg:=none,kwonlyargs:=[],kw_defaults:=[],kwarg:=none,defaults:=[]}
def aV(s:Stmt):List Stmt:=match s with
 | .FunctionDef _ _ b _ _ _ _ _ _ _=>b
 | _=>[]
def ai(s:Stmt):Scope:=match s with
 | .FunctionDef _ _ _ _ _ _ sc _ _ _=>sc
 | _=>{kind:=.function,names:=[],isGenerator:=false,isCoroutine:=false}
abbrev CX0:CXT:=λ_ _ _ _ _ _=>False
abbrev E0:XK:=λ_ _ _=>False
theorem AD{X:Cx}:j3 CX0 X E0:=λ_ _ _ _ _ _ _ h=>h.elim
structure Fun(K:Frag)(x qual:Str)(st:Stmt)(f:Addr)(fd:FuncData):Prop where
 ex:∃(oc:Value) (od:Option Addr) (kV doc pm:Value) (an:Option Addr) (Oy ct:Value) (osl:Array (Option Value)),
  fd=fnOf x qual (be st) (aV st) (ai st) .none kV doc pm an Oy ct/\K.lookup f=some ⟨oc,od,.func fd,osl⟩/\codeIn K Oy qual=true
 kp:keepIn K (.ref f)=true
section
variable{P:Program}{w:World}{K:Frag}{mg:Str->Option Value}{base:Heap}
theorem Fun.ok {x qual:Str} {st:Stmt} {f:Addr} {fd:FuncData} {N ps:List Str} {k:Nat} {sp:Sp} (F:Fun K x qual st f fd) (S:am N ps (ai st)) (len:∀ vs H Q E,sp vs H Q E->vs.length=ps.length)
  (hbody:∀(Oy:Value) (A:Around) (outer:List Env) (s:Shared) (H:Hp) (vs:List V) (Q:VK) (E:XK),Room k (A.deeper (envOfC qual (ai st) s.heap.objs.size f Oy))->sp vs H Q E->
   ∃ t,PSs (cxOf CX0 P w K mg base N qual (ai st) f Oy A outer s H E).nox (aV st) t/\t {nx:=λ_ H'=>Q .non H',rt:=Q} (start N vs) H):FnOk P w K mg base CX0 (k+1) f fd ps sp:=by
 obtain⟨oc,od,kV,doc,pm,an,Oy,ct,osl,rfl,lk,hcd⟩:=F.ex;refine AC lk hcd S len λA outer s H vs Q E hr hsp=>?_;obtain⟨t,h,q⟩:=hbody Oy A outer s H vs Q E hr hsp;exact⟨t,h.nox,q⟩
theorem Fun.binds {x qual:Str} {st:Stmt} {f:Addr} {fd:FuncData} {ps:List Str} (F:Fun K x qual st f fd)
  (h:∀(kV doc pm:Value) (an:Option Addr) (Oy ct:Value) (us:List Value),us.length=ps.length->bindArgs (fnOf x qual (be st) (aV st) (ai st) .none kV doc pm an Oy ct) ⟨us,[]⟩=pure (ps.zip us)):Binds K fd ps []:=by
 obtain⟨oc,od,kV,doc,pm,an,Oy,ct,osl,rfl,lk,hcd⟩:=F.ex;exact .all (h kV doc pm an Oy ct)
theorem aw {x qual:Str} {st:Stmt} {f:Addr} {oc:Value} {od an:Option Addr} {osl:Array (Option Value)} {kV doc pm Oy ct:Value} (l:K.lookup f=some ⟨oc,od,.func (fnOf x qual (be st) (aV st) (ai st) .none kV doc pm an Oy ct),osl⟩)
  (c:codeIn K Oy qual=true) (k:keepIn K (.ref f)=true):Fun K x qual st f (fnOf x qual (be st) (aV st) (ai st) .none kV doc pm an Oy ct):=⟨⟨oc,od,kV,doc,pm,an,Oy,ct,osl,rfl,l,c⟩,k⟩
end
theorem aE{n:Nat}(h:n<=1000):n<sizeLine:=PK h (by decide)
section
variable{X:Cx}
theorem pv (i:Nat) {x:Str} {pos:Pos} (hN:X.N[i]? =some x:=by rfl) (hv:Vis X.env.scope x:=by first | exact Or.inl rfl | exact Or.inr (Or.inl rfl) | exact Or.inr (Or.inr rfl)) (hd:(x==("__debug__":Str))=false:=by decide)
  (hcd:(x==("__classdict__":Str))=false:=by decide):PE X (.Name x pos) (tVar i):=Fa hN hv hd hcd
end
theorem iteF{A B:Prop}(h:B):if false=true then A else B:=by
 rw[O0 OI];exact h
theorem iteT{A B:Prop}(h:A):if true=true then A else B:=by
 rw[O6 rfl];exact h
def Same(H H':Hp):Prop:=∀ b o,H b=some o->H' b=some o
theorem Same.refl(H:Hp):Same H H:=λ_ _ h=>h
abbrev OL:=@Same.refl
theorem Same.trans{H H1 H2:Hp}(a:Same H H1)(b:Same H1 H2):Same H H2:=λc o h=>b c o (a c o h)
theorem Same.free{H H':Hp}(e:Same H H'){l:Addr}(h:H' l=Option.none):H l=Option.none:=by
 cases q:H l with
 | none=>rfl
 | some o=>
  rw[e l o q]at h;cases h
theorem Same.seq{K:Frag}{H H':Hp}{a:Addr}{xs:List V}(e:Same H H')(h:SqL K H a xs):SqL K H' a xs:=by
 rcases h with (h | ⟨o,h⟩) | h
 . exact .inl (.inl (e _ _ h))
 . exact .inl (.inr ⟨o,e _ _ h⟩)
 . exact .inr h
section
variable{κ:Type}[DecidableEq κ]
def valV(Oz:List (κ × V))(k:κ):Option V:=(Oz.find? λkv=>decide (kv.1=k)).map (·.2)
def putK(Oz:List (κ × V))(k:κ)(v:V):List (κ × V):=
 if (Oz.any λkv=>decide (kv.1=k))=true then Oz.map (λkv=>if kv.1=k then(kv.1,v) else kv) else Oz++[(k,v)]
theorem sX{p:κ × V}{r:List (κ × V)}{k:κ}(e:p.1=k):valV (p::r) k=some p.2:=by simp[valV,Qx,e]
theorem sY{p:κ × V}{r:List (κ × V)}{k:κ}(e:¬ p.1=k):valV (p::r) k=valV r k:=by simp[valV,Qx,e]
theorem xY(k:κ):∀ Oz:List (κ × V),(Oz.any λkv=>decide (kv.1=k))=(valV Oz k).isSome
 | []=>rfl
 | p::r=>by
  rw[QJ];by_cases e:p.1=k
  . simp only[sX e,O3 e,Bool.true_or,Option.isSome_some]
  . rw[sY e,OW e,Bool.false_or];exact xY k r
theorem oK(Oz:List (κ × V))(k:κ)(v:V):(putK Oz k v).length<=Oz.length+1:=by
 unfold putK
 split
 . rw[OF];omega
 . rw[OU,Pq,SN];omega
theorem RelO.isSome_eq{o:Option V}{u:Option Value}(r:RelO o u):o.isSome=u.isSome:=by
 cases o with
 | none=>cases u with
  | none=>rfl
  | some _=>exact(show False from r).elim
 | some _=>cases u with
  | none=>exact(show False from r).elim
  | some _=>rfl
theorem RelO.getD{o:Option V}{u:Option Value}{d:V}{d':Value}(r:RelO o u)(rd:RelV d d'):RelV (o.getD d) (u.getD d'):=by
 cases o with
 | none=>cases u with
  | none=>exact rd
  | some _=>exact(show False from r).elim
 | some _=>cases u with
  | none=>exact(show False from r).elim
  | some _=>exact r
theorem KV.val{Oz:List (κ × V)}{vs:List (κ × Value)}(r:KV Oz vs)(k:κ):RelO (valV Oz k) (valueAt vs k):=by
 unfold KV at r
 induction r with
 | nil=>exact True.intro
 | @cons p q ps qs h t ih=>
  obtain⟨h1,h2⟩:=h;by_cases e:p.1=k
  . have e':q.1=k:=h1.symm.trans e;have b:valueAt (q::qs) k=some q.2:=by simp[valueAt,Qx,e']
    rw[sX e,b];exact h2
  . have e':¬ q.1=k:=λz=>e (h1.trans z);have b:valueAt (q::qs) k=valueAt qs k:=by simp[valueAt,Qx,e']
    rw[sY e,b];exact ih
theorem KV.any{Oz:List (κ × V)}{vs:List (κ × Value)}(r:KV Oz vs)(k:κ):(Oz.any λkv=>decide (kv.1=k))=vs.any λkv=>decide (kv.1=k):=by
 unfold KV at r
 induction r with
 | nil=>rfl
 | cons h t ih=>rw[QJ,QJ,ih,h.1]
theorem KV.repl{Oz:List (κ × V)}{vs:List (κ × Value)}(r:KV Oz vs)(k:κ){y:V}{u:Value}(ry:RelV y u):
  KV (Oz.map λkv=>if kv.1=k then(kv.1,y) else kv) (vs.map λkv=>if kv.1=k then(kv.1,u) else kv):=by
 unfold KV at r ⊢
 induction r with
 | nil=>exact .nil
 | @cons p q ps qs h t ih=>
  rw[Pr,Pr];refine .cons ?_ ih;obtain⟨h1,h2⟩:=h;by_cases e:p.1=k
  . rw[O6 e,O6 (h1.symm.trans e)];exact⟨h1,ry⟩
  . rw[O0 e,O0 (λz=>e (h1.trans z))];exact⟨h1,h2⟩
theorem KV.put{Oz:List (κ × V)}{vs:List (κ × Value)}(r:KV Oz vs)(k:κ){y:V}{u:Value}(ry:RelV y u):KV (putK Oz k y) (stored vs k u):=by
 unfold putK stored;rw[r.any k];by_cases e:(vs.any λkv=>decide (kv.1=k))=true
 . rw[O6 e,O6 e];exact r.repl k ry
 . rw[O0 e,O0 e];exact Paired.snoc r ⟨rfl,ry⟩
theorem KV.length{Oz:List (κ × V)}{vs:List (κ × Value)}(r:KV Oz vs):Oz.length=vs.length:=S6 r
end
variable{P:Program}
theorem pP{w:World}{k:Key}{u:Value}(r:RelV (kV k) u):(bE P w).is k u=true:=by
 cases k with
 | inl i=>obtain⟨t,e⟩:=(show ∃ t,u=Value.int i t from r);subst e;exact zt P w i t
 | inr x=>obtain⟨t,e⟩:=(show ∃ t,u=Value.str x t from r);subst e;exact zu P w x t
theorem wG{P:Program}{w:World}:∀{ks:List Key} {us:List Value},Vals (ks.map kV) us->ItemsAre (bE P w) ks us
 | [],_,r=>by rw[SA]at r;cases r;exact .nil
 | k::ks,_,r=>by
  rw[Pr]at r
  cases r with
  | cons h t=>exact .cons (pP h) (wG t)
abbrev KT(H:Hp):List (List Key × V)->List (List Key × Addr × Value)->Prop:=Paired λp q=>p.1=q.1/\H q.2.1=some (.tup (p.1.map kV))/\RelV p.2 q.2.2
variable{H:Hp}{Oz:List (List Key × V)}{xs:List (List Key × Addr × Value)}
theorem KT.val(r:KT H Oz xs)(k:List Key):RelO (valV Oz k) ((atKey xs k).map (·.2)):=by
 induction r with
 | nil=>exact True.intro
 | @cons p q ps qs h t ih=>
  obtain⟨h1,_,h2⟩:=h;by_cases e:p.1=k
  . have e':q.1=k:=h1.symm.trans e;have b:atKey (q::qs) k=some q.2:=by simp[atKey,Qx,e']
    rw[sX e,b];exact h2
  . have e':¬ q.1=k:=λz=>e (h1.trans z);have b:atKey (q::qs) k=atKey qs k:=by simp[atKey,Qx,e']
    rw[sY e,b];exact ih
theorem KT.repl(r:KT H Oz xs)(k:List Key){y:V}{u:Value}(ry:RelV y u):
  KT H (Oz.map λkv=>if kv.1=k then(kv.1,y) else kv) (xs.map (putAt k u)):=by
 induction r with
 | nil=>exact .nil
 | @cons p q ps qs h t ih=>
  rw[Pr,Pr];refine .cons ?_ ih;obtain⟨h1,h2,h3⟩:=h;unfold putAt;by_cases e:p.1=k
  . rw[O6 e,O6 (h1.symm.trans e)];exact⟨h1,h2,ry⟩
  . rw[O0 e,O0 (λz=>e (h1.trans z))];exact⟨h1,h2,h3⟩
theorem KT.put(r:KT H Oz xs)(k:List Key){b:Addr}{y:V}{u:Value}(hb:H b=some (.tup (k.map kV)))(ry:RelV y u):
  KT H (putK Oz k y) (storedH xs k b u):=by
 have e:(Oz.any λkv=>decide (kv.1=k))=(atKey xs k).isSome:=by
  rw[xY,(r.val k).isSome_eq,Sb]
 unfold putK storedH;rw[e];by_cases q:(atKey xs k).isSome=true
 . rw[O6 q,O6 q];exact r.repl k ry
 . rw[O0 q,O0 q];exact Paired.snoc r ⟨rfl,hb,ry⟩
theorem KT.keeps{H':Hp}(r:KT H Oz xs)(ht:∀ b ys,H b=some (.tup ys)->H' b=some (.tup ys)):KT H' Oz xs:=
 Paired.mapP r λ_ _ z=>⟨z.1,ht _ _ z.2.1,z.2.2⟩
section
variable{P:Program}{w:World}{H:Hp}{h:Heap}{a:Addr}
theorem DN{u:HO}(ok:HOk P w H h)(e:Rd H a u):ObjOk P w H h a u:=e.ok ok
theorem ot{Oz:List (Key × V)}(ok:HOk P w H h)(e:Rd H a (.dK Oz)):Oz.length<=sizeLine/\(a==sysModules)=false/\∃ vs,KV Oz vs/\h.DictOf (bE P w) a vs:=
 show ObjOk P w H h a (.dK Oz) from DN ok e
theorem DO{Oz:List (Key × V)}(ok:HOk P w H h)(e:H a=some (.dK Oz)):Oz.length<=sizeLine/\(a==sysModules)=false/\∃ vs,KV Oz vs/\h.DictOf (bE P w) a vs:=ot ok (.inl e)
theorem pk{ks:List Key}(ok:HOk P w H h)(e:H a=some (.tup (ks.map kV))):(tupleKind (bE P w)).is h ks a:=by
 obtain⟨_,OA,r,o,h1,h2,n,h3⟩:=(show ObjOk P w H h a (.tup (ks.map kV)) from ok a _ e);exact⟨o,OA.toArray,n,h1,h2,h3,by simpa using wG r⟩
theorem pQ{Oz:List (List Key × V)}(ok:HOk P w H h)(e:Rd H a (.dT Oz)):Oz.length<=sizeLine/\(a==sysModules)=false/\
  ∃ xs,KT H Oz xs/\h.DictOfH (tupleKind (bE P w)) a xs:=by
 obtain⟨z,y,xs,r,o,es,ep,h1,h2,h3,h4,h5⟩:=(show ObjOk P w H h a (.dT Oz) from DN ok e);refine⟨z,y,xs,r,o,es,ep,h1,h2,h3,h4,λx hx=>?_,h5⟩
 have all:∀{l:List (List Key × V)} {m:List (List Key × Addr × Value)},KT H l m->∀ x∈m,(tupleKind (bE P w)).is h x.1 x.2.1:=by
  intro l m q
  induction q with
  | nil=>intro x hx;exact nomatch hx
  | @cons p q ps qs hq t ih=>
   intro x hx;rcases OM.mp hx with e | hx
   . subst e;exact pk ok (by rw[← hq.1];exact hq.2.1)
   . exact ih x hx
 exact all r x hx
theorem Gq{Oz:List (List Key × V)}(ok:HOk P w H h)(e:H a=some (.dT Oz)):Oz.length<=sizeLine/\(a==sysModules)=false/\
  ∃ xs,KT H Oz xs/\h.DictOfH (tupleKind (bE P w)) a xs:=pQ ok (.inl e)
end
def DGet(H:Hp)(a:Addr)(y:V)(r:Option V):Prop:=
 (∃ Oz k,Rd H a (.dK Oz)/\y=kV k/\r=valV Oz k)\/∃ Oz k b,Rd H a (.dT Oz)/\y=.ref b/\H b=some (.tup (k.map kV))/\r=valV Oz k
def DPut(H:Hp)(a:Addr)(y v:V)(H':Hp):Prop:=
 (∃ Oz k,H a=some (.dK Oz)/\y=kV k/\Oz.length<sizeLine/\H'=upd H a (.dK (putK Oz k v)))\/
 ∃ Oz k b,H a=some (.dT Oz)/\y=.ref b/\H b=some (.tup (k.map kV))/\Oz.length<sizeLine/\H'=upd H a (.dT (putK Oz k v))
variable{a:Addr}
theorem DGet.k{Oz:List (Key × V)}{k:Key}(e:H a=some (.dK Oz)):DGet H a (kV k) (valV Oz k):=.inl ⟨Oz,k,.inl e,rfl,rfl⟩
section
variable{X:Cx}{Ox:List (Addr × Obj)}{σ:St}{H:Hp}{s:Shared}{a:Addr}{y v:V}{u r:Value}{o:Option V}{A:Around}{E:Value->Shared->Prop}
theorem Inv.big(I:Inv X Ox σ H s):sysModules<s.heap.objs.size:=by
 have h:mainGlobals<s.heap.objs.size:=(I.mod.glob.keeps I.bk).lt;exact Te (by decide) h
theorem Br{Q:Value->Shared->Prop}(hu:A.units+1<cLine)(I:Inv X Ox σ H s)(g:DGet H a y (some v))(ry:RelV y u)(h:∀ w' s',Inv X Ox σ H s'->RelV v w'->Q w' s'):
  wpAny (model X.prog X.w) A (getItem (.ref a) u) Q E s:=by
 rcases g with ⟨Oz,k,e,ey,l⟩ | ⟨Oz,k,b,e,ey,eb,l⟩
 . subst ey;obtain⟨z,hd,vs,rel,dd⟩:=ot I.hok e;obtain⟨w',hw,rw'⟩:=Td (v:=v) (o:=valueAt vs k) (by rw[l];exact rel.val k);exact wpAny_getItem_of (pP ry) dd.mapOf hw (h w' _ (I.tok _) rw')
 . subst ey;cases (show u=Value.ref b from ry);obtain⟨z,hd,xs,rel,dd⟩:=pQ I.hok e;obtain⟨w',hw,rw'⟩:=Td (v:=v) (o:=(atKey xs k).map (·.2)) (by rw[l];exact rel.val k);obtain⟨p,hp,hp2⟩:=P9.mp hw;refine wpAny_getItem_heap (QW hu) (pk I.hok eb) dd hp ?_;rw[hp2];exact h w' _ (I.tok _) rw'
theorem GP{Q:Value->Shared->Prop}(hu:A.units+1<cLine)(I:Inv X Ox σ H s)(g:DGet H a y o)(ry:RelV y u)(h:∀ s',Inv X Ox σ H s'->Q (.bool o.isSome) s'):
  wpAny (model X.prog X.w) A (compareOp .In u (.ref a)) Q E s:=by
 rcases g with ⟨Oz,k,e,ey,l⟩ | ⟨Oz,k,b,e,ey,eb,l⟩
 . subst ey;obtain⟨z,hd,vs,rel,dd⟩:=ot I.hok e;refine wpAny_in_of (pP ry) hd dd.mapOf ?_;rw[← (rel.val k).isSome_eq,← l];exact h _ (I.tok _)
 . subst ey;cases (show u=Value.ref b from ry);obtain⟨z,hd,xs,rel,dd⟩:=pQ I.hok e;refine wpAny_in_heap (QW hu) (pk I.hok eb) hd dd ?_;have q:=(rel.val k).isSome_eq;rw[Sb]at q;rw[← q,← l];exact h _ (I.tok _)
theorem Ek{Q:Value->Shared->Prop}(hu:A.units+1<cLine)(I:Inv X Ox σ H s)(g:DGet H a y o)(ry:RelV y u)(h:∀ s',Inv X Ox σ H s'->Q (.bool (!o.isSome)) s'):
  wpAny (model X.prog X.w) A (compareOp .NotIn u (.ref a)) Q E s:=by
 rcases g with ⟨Oz,k,e,ey,l⟩ | ⟨Oz,k,b,e,ey,eb,l⟩
 . subst ey;obtain⟨z,hd,vs,rel,dd⟩:=ot I.hok e;refine wpAny_notIn_of (pP ry) hd dd.mapOf ?_;rw[← (rel.val k).isSome_eq,← l];exact h _ (I.tok _)
 . subst ey;cases (show u=Value.ref b from ry);obtain⟨z,hd,xs,rel,dd⟩:=pQ I.hok e;refine wpAny_notIn_heap (QW hu) (pk I.hok eb) hd dd ?_;have q:=(rel.val k).isSome_eq;rw[Sb]at q;rw[← q,← l];exact h _ (I.tok _)
theorem vo{h':Heap}{t':Nat}{ob:HO}(I:Inv X Ox σ H s)(mu:Mut (H a))(hs:Heap.SameBut a s.heap h')(he:∃ q,h'.get? a=some q)(new:ObjOk X.prog X.w (upd H a ob) h' a ob):
  Inv X Ox σ (upd H a ob) {s with heap:=h',toks:=t'}:=
 I.write (x:=a) (e:=a) mu (.inl rfl) (λb q hb z=>(hs.2 b hb).trans z) he new
theorem Bs{P:Program}{w:World}{H':Hp}{h':Heap}{Oz:List (Key × V)}{vs:List (Key × Value)}(z:Oz.length<=sizeLine)(hd:(a==sysModules)=false)(rel:KV Oz vs)(dd:h'.DictOf (bE P w) a vs):
  ObjOk P w H' h' a (.dK Oz):=⟨z,hd,vs,rel,dd⟩
theorem Bu{H':Hp}{Q:Unit->Shared->Prop}(hu:A.units+1<cLine)(I:Inv X Ox σ H s)(g:DPut H a y v H')(ry:RelV y u)(rv:RelV v r)(h:∀ s',Inv X Ox σ H' s'->Q () s'):
  wpAny (model X.prog X.w) A (setItem (.ref a) u r) Q E s:=by
 rcases g with ⟨Oz,k,e,ey,l,eH⟩ | ⟨Oz,k,b,e,ey,eb,l,eH⟩
 . subst ey eH;obtain⟨z,hd,vs,rel,dd⟩:=DO I.hok e;have hz:vs.length<=sizeLine:=by rw[← rel.length];exact z
   have hl:(putK Oz k v).length<=sizeLine:=by have:=oK Oz k v;omega
   refine wpAny_setItem_pairs (hsz:=hz) (pP ry) dd λh' dd' hs=>h _ ?_;have he:∃ q,h'.get? a=some q:=let ⟨q,_,_,hq,_⟩:=dd';⟨q,hq⟩;exact vo I (by rw[e];exact True.intro) hs he (Bs hl hd (rel.put k rv) dd')
 . subst ey eH;cases (show u=Value.ref b from ry);obtain⟨z,hd,xs,rel,dd⟩:=Gq I.hok e;have hz:xs.length<=sizeLine:=by rw[← S6 rel];exact z
   have hl:(putK Oz k v).length<=sizeLine:=by have:=oK Oz k v;omega
   refine wpAny_setItem_heap (hsz:=hz) (QW hu) (pk I.hok eb) dd λh' dd' hs=>h _ ?_;obtain⟨q,es,ep,hq,h2,h3,h4,_,h5⟩:=dd';refine vo I (by rw[e];exact True.intro) hs ⟨q,hq⟩ ⟨hl,hd,_,(rel.put k eb rv).keeps λc ys ec=>?_,q,es,ep,hq,h2,h3,h4,h5⟩;rw[ah (Gk ec e (λz=>nomatch z))];exact ec
end
section
variable{X:Cx}{Ox:List (Addr × Obj)}{σ:St}{H:Hp}{s:Shared}{a:Addr}{Oz:List (Key × V)}{k:Key}{u:Value}{A:Around}{E:Value->Shared->Prop}
theorem Gr{Q:Value->Shared->Prop}(I:Inv X Ox σ H s)(e:Rd H a (.dK Oz))(h:∀ t s',Inv X Ox σ H s'->Q (.int Oz.length t) s'):wpAny (model X.prog X.w) A (call (.builtin "len") [.ref a]) Q E s:=by
 obtain⟨z,hd,vs,rel,dd⟩:=ot I.hok e;refine call_len_dict hd dd (by rw[← rel.length];rw[S0]at z;omega) ?_;rw[← rel.length];exact h _ _ (I.tok _)
end
variable{X:Cx}{Ox:List (Addr × Obj)}{s:Shared}
theorem zw{σ:St}{y:V}{o:Option V}(I:Inv X Ox σ H s)(g:DGet H a y o):s.TypeIs (.ref a) "dict":=by
 rcases g with ⟨Oz,k,e,_,_⟩ | ⟨Oz,k,b,e,_,_,_⟩
 . obtain⟨_,_,vs,_,dd⟩:=ot I.hok e;exact dd.typeIs
 . obtain⟨_,_,xs,_,dd⟩:=pQ I.hok e;exact dd.typeIs
def sDPut(td ty tv:TE):TS:=λD σ H=>tv σ H λv H1=>td σ H1 λx H2=>ty σ H2 λy H3=>∃ a H4,x=.ref a/\DPut H3 a y v H4/\D.nx σ H4
theorem CZ{w:World}(h:Heap)(hb:sysModules<h.objs.size):ObjOk P w H (h.push {cls:=.type "dict",data:=.dict #[]}) h.objs.size (.dK []):=
 ⟨Py _,QM.mpr (Rk (Po hb)),[],.nil,Heap.DictOf.new h⟩
def Fn:TE:=λ_ H Q=>∀ p,H p=none->Q (.ref p) (upd H p (.dK []))
def mQ:List (TE × TE)->St->Hp->(List (V × V)->Hp->Prop)->Prop
 | [],_,H,Q=>Q [] H
 | (tk,tv)::r,σ,H,Q=>tk σ H λx H1=>tv σ H1 λy H2=>mQ r σ H2 λps H3=>Q ((x,y)::ps) H3
abbrev VV:List (V × V)->List (Value × Value)->Prop:=Paired λp q=>RelV p.1 q.1/\RelV p.2 q.2
def PPs(X:Cx)(pos:Pos)(keys:List (Option Expr))(values:List Expr)(trs:List (TE × TE)):Prop:=
 ∀(Ox:List (Addr × Obj)) (s:Shared) (σ:St) (H:Hp) (Q:List (V × V)->Hp->Prop),Inv X Ox σ H s->mQ trs σ H Q->
  wpAny (model X.prog X.w) X.A (evalPairs (pairTrees keys values X.env pos)) (λvs s'=>∃ ps H',Inv X Ox σ H' s'/\VV ps vs/\Q ps H') X.xe s
variable{pos:Pos}
theorem El:PPs X pos [] [] []:=λOx s σ H Q I h=>pairTrees_nil_walk ⟨[],H,I,.nil,h⟩
variable{trs:List (TE × TE)}
theorem sZ{k v:Expr}{ks:List (Option Expr)}{vs:List Expr}{tk tv:TE}(hk:PE X k tk)(hv:PE X v tv)(hr:PPs X pos ks vs trs):
  PPs X pos (some k::ks) (v::vs) ((tk,tv)::trs):=λOx s σ H Q I h=>
 pairTrees_cons_walk (thn (hk Ox s σ H _ I h) λu s1 ⟨x,H1,I1,rx,q1⟩=>thn (hv Ox s1 σ H1 _ I1 q1) λw2 s2 ⟨y,H2,I2,ry,q2⟩=>
  thn (hr Ox s2 σ H2 _ I2 q2) λws s3 ⟨ps,H3,I3,rel,q3⟩=>⟨(x,y)::ps,H3,I3,.cons ⟨rx,ry⟩ rel,q3⟩)
def i7(Oz more:List (Key × V)):List (Key × V):=more.foldl (λacc kv=>putK acc kv.1 kv.2) Oz
theorem KV.merge:∀{more:List (Key × V)} {rs:List (Key × Value)} {Oz:List (Key × V)} {vs:List (Key × Value)},KV more rs->KV Oz vs->KV (i7 Oz more) (merged vs rs):=by
 intro more rs Oz vs r;unfold KV at r
 induction r generalizing Oz vs with
 | nil=>intro q;exact q
 | @cons p q ps qs h t ih=>
  intro r0
  have e:KV (putK Oz p.1 p.2) (stored vs q.1 q.2):=by
   have:=r0.put p.1 h.2;rw[← h.1];exact this
  exact ih e
theorem qx:∀(more Oz:List (Key × V)),(i7 Oz more).length<=Oz.length+more.length
 | [],Oz=>by show Oz.length<=Oz.length+0;omega
 | p::r,Oz=>by
  have h1:=qx r (putK Oz p.1 p.2);have h2:=oK Oz p.1 p.2;show(i7 (putK Oz p.1 p.2) r).length<=_;rw[Pq];omega
theorem ud{P:Program}{w:World}:∀{Oz:List (Key × V)} {ws:List (Value × Value)},VV (Oz.map λkv=>(kV kv.1,kv.2)) ws->∃ rs,Carries (bE P w) ws rs/\KV Oz rs
 | [],_,r=>by rw[SA]at r;cases r;exact⟨[],True.intro,.nil⟩
 | p::Oz,_,r=>by
  rw[Pr]at r
  cases r with
  | @cons a b as bs h t=>
   obtain⟨rs,c,q⟩:=ud (P:=P) (w:=w) t;obtain⟨b1,b2⟩:=b;exact⟨(p.1,b2)::rs,⟨pP h.1,rfl,c⟩,.cons ⟨rfl,h.2⟩ q⟩
def tDisp(trs:List (TE × TE)):TE:=λσ H Q=>∀ p,H p=none->mQ trs σ (upd H p (.dK [])) λps H2=>H2 p=some (.dK [])/\∃ Oz:List (Key × V),ps=Oz.map (λkv=>(kV kv.1,kv.2))/\Oz.length<=15/\Q (.ref p) (upd H2 p (.dK (i7 [] Oz)))
theorem Em {keys:List (Option Expr)} {values:List Expr} (h:PPs X pos keys values trs) (hall:keys.all (·.isSome)=true) (hl:keys.length=values.length) (h0:keys≠[])
  (h15:keys.length<=15):PE X (.Dict keys values pos) (tDisp trs):=by
 intro Ox s σ H Q I q;have hn:=I.hok.fresh (OQ s.heap.objs.size);have I1:=I.laid (a:=s.heap.objs.size) (o:=.dK []) (h':=s.heap.push {cls:=.type "dict",data:=.dict #[]}) (t':=s.toks) (λ_ _ q=>OS _ q) (OQ _) (CZ s.heap I.big);refine wpAny_Dict_walk (knd:=bE X.prog X.w) hall hl h0 h15 (thn (h Ox _ σ _ _ I1 (q _ hn)) λws s2 ⟨ps,H2,I2,rel,e,Oz,ep,lk,q2⟩=>?_);subst ep;obtain⟨rs,c,rk⟩:=ud (P:=X.prog) (w:=X.w) rel;obtain⟨z,hd,vs0,r0,dd⟩:=DO I2.hok e;cases r0;refine⟨rs,c,dd,λh' dd' hs=>⟨.ref s.heap.objs.size,_,?_,rfl,q2⟩⟩
 have hz:(i7 [] Oz).length<=sizeLine:=by
  have h1:=qx Oz [];rw[SN]at h1;rw[S0];omega
 have he:∃ q,h'.get? s.heap.objs.size=some q:=let ⟨q,_,_,hq,_⟩:=dd';⟨q,hq⟩;exact vo I2 (by rw[e];exact True.intro) hs he (Bs hz hd (rk.merge .nil) dd')
structure M2(X:Cx)(o:Expr)(m:Str)(apos:Pos)(e f:Expr)(cpos:Pos):Prop where
 base:attributeBase o m X.env (eval o X.env)=eval o X.env
 few:((backTo cpos (starEach [e,f] X.env)).all (λx=>!x.1)&&(backToKw cpos (keywordEach [] X.env)).all (λx=>x.1.isSome)
  &&decide (([e,f]:List Expr).length+([]:List Keyword).length+(if ([]:List Keyword).isEmpty then 0 else 1)<30))=true
 line:(apos.endLine==cpos.line)=true
 trees:backTo cpos (starEach [e,f] X.env)=[(false,eval e X.env),(false,eval f X.env)]
def IsD(H:Hp)(a:Addr):Prop:=(∃ Oz,Rd H a (.dK Oz))\/∃ Oz,Rd H a (.dT Oz)
theorem Fo{σ:St}(I:Inv X Ox σ H s)(d:IsD H a):
  s.TypeIs (.ref a) "dict"/\(∀ b,Value.ref a=.ref b->∃ ob,s.heap.get? b=some ob/\ob.dict=none)/\(a==sysModules)=false:=by
 rcases d with ⟨Oz,e⟩ | ⟨Oz,e⟩
 . obtain⟨_,hd,vs,_,dd⟩:=ot I.hok e;refine⟨dd.typeIs,λb q=>?_,hd⟩;cases q;obtain⟨ob,_,_,h1,h2,_⟩:=dd;exact⟨ob,h1,h2.2.1⟩
 . obtain⟨_,hd,xs,_,dd⟩:=pQ I.hok e;refine⟨dd.typeIs,λb q=>?_,hd⟩;cases q;obtain⟨ob,_,_,h1,h2,_⟩:=dd;exact⟨ob,h1,h2.2.1⟩
section
variable{X:Cx}{Ox:List (Addr × Obj)}{σ:St}{H:Hp}{s:Shared}{a:Addr}{y d:V}{u r:Value}{o:Option V}{A:Around}{E:Value->Shared->Prop}
theorem Fp{Q:Value->Shared->Prop}(hu:A.units+1<cLine)(I:Inv X Ox σ H s)(g:DGet H a y o)(ry:RelV y u)(rd:RelV d r)(h:∀ w' s',Inv X Ox σ H s'->RelV (o.getD d) w'->Q w' s'):
  wpAny (model X.prog X.w) A (call (.builtin "dict.get") [.ref a,u,r]) Q E s:=by
 rcases g with ⟨Oz,k,e,ey,l⟩ | ⟨Oz,k,b,e,ey,eb,l⟩
 . subst ey;obtain⟨z,hd,vs,rel,dd⟩:=ot I.hok e;refine call_meetsIn RD dd.typeIs SD (Sn _ _ _) (meets_dict_get_default (bE X.prog X.w) a (pP ry) hd r) ⟨_,dd.mapOf,h _ _ (I.tok _) ?_⟩;rw[l];exact(rel.val k).getD rd
 . subst ey;cases (show u=Value.ref b from ry);obtain⟨z,hd,xs,rel,dd⟩:=pQ I.hok e;refine call_meetsIn RD dd.typeIs SD (Sn _ _ _) (meetsH_dict_get_default (tupleKind (bE X.prog X.w)) a b hd r) ⟨QW hu,k,xs,pk I.hok eb,dd,h _ _ (I.tok _) ?_⟩;rw[l];exact(rel.val k).getD rd
end
def xZ(td ty tx:TE):TE:=λσ H Q=>td σ H λx H1=>∃ a,x=.ref a/\IsD H1 a/\ty σ H1 λy H2=>tx σ H2 λz H3=>∃ o,DGet H3 a y o/\Q (o.getD z) H3
section
variable{X:Cx}{o e f:Expr}{apos cpos:Pos}{td ty tx:TE}
theorem C0(hu:X.A.units+1<cLine)(ho:PE X o td)(he:PE X e ty)(hf:PE X f tx)(m:M2 X o "get" apos e f cpos):PE X (.Call (.Attribute o "get" apos) [e,f] [] cpos) (xZ td ty tx):=by
 intro Ox s σ H Q I h;refine wpAny_Call_method m.base m.few m.line PySem.F.plainAttrs_dict RD PySem.F.type_dict_get (thn (ho Ox s σ H _ I h) λu s1 ⟨x,H1,I1,rx,a,ex,d,q1⟩=>?_);subst ex;obtain rfl:u=Value.ref a:=rx;obtain⟨t1,t2,_⟩:=Fo I1 d;refine⟨t1,t2,?_⟩;rw[m.trees]
 refine Rw rfl (RL (P7 (thn (he Ox s1 σ H1 _ I1 q1) λiv s2 ⟨y,H2,I2,ry,q2⟩=>
  P7 (thn (hf Ox s2 σ H2 _ I2 q2) λfv s3 ⟨z,H3,I3,rz,ov,g,q3⟩=>Qh ?_))))
 exact Fp hu I3 g ry rz λw' s4 I4 rw'=>⟨_,H3,I4,rw',q3⟩
end
section
variable{X:Cx}
theorem Bv:CallR X (.builtin "len") (λxs H Q=>∃ a Oz,xs=[V.ref a]/\H a=some (.dK Oz)/\Q (.int Oz.length) H):=by
 intro Ox s σ H xs us Q I r h;obtain⟨a,Oz,rfl,ha,q⟩:=h;obtain⟨u,rfl,ru⟩:=dh r;cases ru;exact Gr I (.inl ha) λt s' I'=>⟨.int Oz.length,H,I',⟨t,rfl⟩,q⟩
end
theorem cO{α:Type}(x:Str):∀(a b:List (Str × α)),(a++b).lookup x=match a.lookup x with | some c=>some c | none=>b.lookup x
 | [],b=>rfl
 | (k,v)::r,b=>by
  rw[List.cons_append,PX,PX]
  cases x==k with
  | true=>rfl
  | false=>exact cO x r b
theorem lM:∀(names:List (Str × NameKind)) (n:Nat) (acc cl:List (Str × Addr)),cellsFrom n names (acc++cl)=cellsFrom n names acc++cl
 | [],_,_,_=>rfl
 | (y,k)::r,n,acc,cl=>by
  unfold cellsFrom
  split
  . rw[← List.cons_append];exact lM r _ _ cl
  . exact lM r _ _ cl
theorem js{x:Str}{c:Addr}:∀(names:List (Str × NameKind)) (n:Nat) (acc:List (Str × Addr)),(x,c)∈cellsFrom n names acc->(x,NameKind.cell)∈names\/(x,c)∈acc
 | [],_,_,h=>.inr h
 | (y,k)::r,n,acc,h=>by
  unfold cellsFrom at h
  split at h
  . rename_i hk
    have hk:k=.cell:=by simpa using hk
    subst hk;rcases js r _ _ h with z | z
    . exact .inl (OT _ z)
    . rcases OM.mp z with z | z
      . cases z;exact .inl OV
      . exact .inr z
  . rcases js r _ _ h with z | z
    . exact .inl (OT _ z)
    . exact .inr z
theorem pR {env:Env} (f:Str × NameKind->List (Str × Addr)->Sem (ForInStep (List (Str × Addr))))
  (hf:∀ name kind cs,f (name,kind) cs=if kind==.free then(do let a ← cellOf env name;pure (.yield ((name,a)::cs))) else pure (.yield cs)):
  ∀(names:List (Str × NameKind)) (acc:List (Str × Addr)),(∀ x,(x,NameKind.free)∈names->∃ c,env.cells.lookup x=some c)->(∀ x c,acc.lookup x=some c->env.cells.lookup x=some c)->
   ∃ cl,forIn names acc f=(pure cl:Sem _)/\(∀ x c,cl.lookup x=some c->env.cells.lookup x=some c)/\(∀ x,((x,NameKind.free)∈names\/∃ c,acc.lookup x=some c)->∃ c,cl.lookup x=some c)
 | [],acc,_,h2=>⟨acc,rfl,h2,λx h=>h.elim (λz=>nomatch z) id⟩
 | (y,k)::r,acc,h1,h2=>by
  rw[List.forIn_cons,hf];by_cases hk:(k==NameKind.free)=true
  . rw[O6 hk];have hk':k=.free:=by simpa using hk
    subst hk';obtain⟨c,hc⟩:=h1 y OV;have e:(cellOf env y:Sem Addr)=pure c:=by unfold cellOf;rw[hc]
    rw[e]
    obtain⟨cl,e1,e2,e3⟩:=pR f hf r ((y,c)::acc) (λx hx=>h1 x (OT _ hx)) (λx c' hx=>by
     rw[PX]at hx
     cases hb:x==y with
     | true=>rw[hb]at hx;cases hx;rw[QD.mp hb];exact hc
     | false=>rw[hb]at hx;exact h2 x c' hx)
    refine⟨cl,?_,e2,λx hx=>e3 x ?_⟩
    . exact e1
    . rcases hx with hx | ⟨c',hx⟩
      . rcases OM.mp hx with z | z
        . cases z;exact .inr ⟨c,by rw[PX];simp⟩
        . exact .inl z
      . cases hb:x==y with
        | true=>exact .inr ⟨c,by rw[PX,hb]⟩
        | false=>exact .inr ⟨c',by rw[PX,hb];exact hx⟩
  . rw[O0 hk];obtain⟨cl,e1,e2,e3⟩:=pR f hf r acc (λx hx=>h1 x (OT _ hx)) h2;refine⟨cl,e1,e2,λx hx=>e3 x ?_⟩;rcases hx with hx | hx
    . rcases OM.mp hx with z | z
      . cases z;exact absurd rfl hk
      . exact .inl z
    . exact .inr hx
variable{scope:Scope}
theorem AE{env:Env}(h:∀ x,(x,NameKind.free)∈scope.names->∃ c,env.cells.lookup x=some c):
  ∃ cl,closureFor scope env=pure cl/\(∀ x c,cl.lookup x=some c->env.cells.lookup x=some c)/\∀ x,(x,NameKind.free)∈scope.names->∃ c,cl.lookup x=some c:=by
 obtain⟨cl,e1,e2,e3⟩:=pR (env:=env) (λx cs=>match x with | (name,kind)=>if kind==.free then(do let a ← cellOf env name;pure (.yield ((name,a)::cs))) else pure (.yield cs)) (λ_ _ _=>rfl) scope.names [] h (λx c hx=>nomatch hx);refine⟨cl,?_,e2,λx hx=>e3 x (.inl hx)⟩
 have:closureFor scope env=(forIn scope.names [] (λx cs=>match x with | (name,kind)=>if kind==.free then(do let a ← cellOf env name;pure (.yield ((name,a)::cs))) else pure (.yield cs)) >>= λcs=>pure cs):=by
  simp only[closureFor]
 rw[this,e1];rfl
def ue(scope:Scope)(cl:List (Str × Addr))(C:Addr)(env:Env):Env:=
 {newEnv scope C env.globals (cellsFrom (C+1) scope.names cl) env.qual none .none (some env) builtinsNs with scope:=relabel scope env}
theorem C4 {M:Model} {A:Around} {E:Value->Shared->Prop} {s:Shared} {cl:List (Str × Addr)} {env:Env} {Q:Env->Shared->Prop}
  (hQ:Q (newEnv scope s.heap.objs.size env.globals (cellsFrom (s.heap.objs.size+1) scope.names cl) env.qual none .none (some env) builtinsNs) {s with heap:=pushCells (s.heap.push {cls:=.type "dict",data:=.dict #[]}) scope.names}):
  wpAny M A (newFunctionEnv scope env.globals cl [] env.qual none .none (some env)) Q E s:=by
 simp only[newFunctionEnv,Option.isSome_some,Ti];refine OO (wpAny_alloc ?_);refine OO (wpAny_layCells _ (λname kind cells=>by cases hkc:kind==NameKind.cell <;> simp[hkc]) _ _ _ _ ?_);rw[show({s with heap:=s.heap.push {cls:=.type "dict",data:=.dict #[]}}:Shared).heap.objs.size=s.heap.objs.size+1 from Qr ..];refine OO ?_;rw[List.forIn_nil];exact Pf (Pf hQ)
section
variable{prog:Program}{w:World}{A:Around}{E:Value->Shared->Prop}{R:Result->Shared->Prop}{s:Shared}
theorem Bw {elt target iter:Expr} {ifs:List Expr} {scope:Scope} {pos:Pos} {it acc:Value} {env:Env} (I:Nat->Shared->Prop)
  (turn:∀ n s,I n s->wpAny (model prog w) A (pyNext it) (λr s₁=>match r with
   | none=>R (.ok .next) s₁
   | some v=>wpAny (model prog w) A (letOwnedTupleGo target it v) (λ_ s₁'=>wpAny (model prog w) A (assign target env v) (λ_ s₂=>
     wpAny (model prog w) A (forIn ifs true λc r=>if r=true then do let ok ← isTrue c env (eval c env);pure (ForInStep.yield ok) else pure (ForInStep.yield r)) (λok s₃=>
      if ok=true then wpAny (model prog w) A (eval elt env) (λx s₄=>
       wpAny (model prog w) A (call (.builtin "list.append") [acc,x]) (λ_ s₅=>∃ m,m<n/\I m s₅) (notedBy (model prog w) A env λe s'=>R (.error e) s') s₄) (notedBy (model prog w) A env λe s'=>R (.error e) s') s₃
      else ∃ m,m<n/\I m s₃) (notedBy (model prog w) A env λe s'=>R (.error e) s') s₂) (notedBy (model prog w) A env λe s'=>R (.error e) s') s₁') (notedBy (model prog w) A env λe s'=>R (.error e) s') s₁) (notedBy (model prog w) A env λe s'=>R (.error e) s') s)
  (n:Nat) (h:I n s):
  codeAny (model prog w) A (.compLoop (.ListComp elt [⟨target,iter,ifs,0⟩] scope pos) 0 it acc env) R s:=by
 refine codeAny_loop rfl I (λn s hI=>?_) n h;show wpAny _ A ((compTurn (.ListComp elt [⟨target,iter,ifs,0⟩] scope pos) 0 it acc env).onRaise (λx=>do noteFrame x env;theTreesLotGoes x)) _ _ s;refine wpAny_noted ?_;rw[compTurn_list];refine OO (S7 (OO (PF (turn n s hI) (λr s₁ h₁=>?_) λ_ _ h'=>h')))
 cases r with
 | none=>exact Pf h₁
 | some v=>
  refine OO (PF h₁ (λ_ s₁' h₁'=>?_) λ_ _ h'=>h');refine OO (PF h₁' (λ_ s₂ h₂=>OO (PF h₂ (λok s₃ h₃=>?_) λ_ _ h'=>h')) λ_ _ h'=>h')
  cases ok with
  | false=>exact Pf ⟨rfl,h₃⟩
  | true=>
   exact OO (OO (PF h₃ (λx s₄ h₄=>OO (PF h₄ (λ_ s₅ h₅=>Pf (Pf ⟨rfl,h₅⟩)) λ_ _ h'=>h')) λ_ _ h'=>h'))
end
variable{scope:Scope}
theorem mR{env:Env}{x:Str}{k:NameKind}(h:(relabel scope env).names.lookup x=some k):∃ k',scope.names.lookup x=some k'/\(k=k'\/(k'=.free/\k=.cell)):=by
 unfold relabel at h;dsimp only at h;generalize scope.names=names at h ⊢
 induction names with
 | nil=>cases h
 | cons p r ih=>
  obtain⟨n,k0⟩:=p;rw[Pr]at h;rw[PX]
  cases hb:x==n with
  | true=>
   refine⟨k0,rfl,?_⟩;dsimp only at h
   split at h
   . rename_i hc
     rw[PX,hb]at h;cases h;simp only[QB,QD]at hc;exact .inr ⟨hc.1.1,rfl⟩
   . rw[PX,hb]at h;cases h;exact .inl rfl
  | false=>
   dsimp only at h;refine ih ?_
   split at h
   . rw[PX,hb]at h;exact h
   . rw[PX,hb]at h;exact h
def blkCx(X:Cx)(N:List Str)(scope:Scope)(cl:List (Str × Addr))(s:Shared)(H:Hp)(fp:List Addr):Cx where
 prog:=X.prog
 w:=X.w
 K:=X.K
 mg:=X.mg
 base:=X.base
 A:=X.A
 N:=N
 s₀:=s
 H₀:=H
 env:=ue scope cl (s.heap.objs.size+1) X.env
 outer:=X.stack
 stack:=X.stack
 ex:=fp
 fn:=λx=>scope.names.lookup x==some .cell
 calm:=X.calm
 pn:=[]
 xe:=λe₀ s₁=>(∃(Ox:List (Addr × Obj)) (σ:St),Inv X Ox σ H s/\∀ b∈fp,FpOk X Ox H b)->notedBy (model X.prog X.w) X.A (ue scope cl (s.heap.objs.size+1) X.env) (λx s'=>∃ m,s'.heap.Ns (s.heap.objs.size+1) m/\∀ h',Heap.SameBut (s.heap.objs.size+1) s'.heap h'->∀ cenv:Env,cenv.locals=s.heap.objs.size+1->
  wpAny (model X.prog X.w) X.A (passOn "comprehension.variables-let-go" x cenv:Sem Value) (λ_ _=>False) X.xe {s' with heap:=h'}) e₀ s₁
def subσ(ix:List (Option Nat))(σ:St):St:=ix.map λo=>match o with | none=>none | some i=>match σ[i]? with | some v=>v | none=>none
structure BlkOk(X:Cx)(N:List Str)(ix:List (Option Nat))(scope:Scope):Prop where
 kind:scope.kind=.function
 nd:N.Nodup
 len:ix.length=N.length
 names:(scope.names.map (·.1)).Nodup
 free:∀ x,(x,NameKind.free)∈scope.names->X.env.kindOf x=some .cell\/X.env.kindOf x=some .free
 at_:∀(j i:Nat) (x:Str),N[j]? =some x->ix[j]? =some (some i)->X.N[i]? =some x/\(x,NameKind.free)∈scope.names
theorem gi{α:Type}:∀{l:List (Str × α)} {x:Str} {k:α},(l.map (·.1)).Nodup->(x,k)∈l->l.lookup x=some k
 | (y,k0)::r,x,k,nd,h=>by
  rw[Pr,P0]at nd;rw[PX];rcases OM.mp h with e | e
  . cases e;simp
  . have:x≠y:=by
     rintro rfl;exact nd.1 (OP.mpr ⟨(x,k),e,rfl⟩)
    have hb:(x==y)=false:=by simpa using this
    rw[hb];exact gi nd.2 e
theorem Bx {X:Cx} {Ox:List (Addr × Obj)} {σ:St} {H:Hp} {s:Shared} {N:List Str} {ix:List (Option Nat)} {cl:List (Str × Addr)} {fp:List Addr} (B:BlkOk X N ix scope)
  (I:Inv X Ox σ H s) (hcl:∀ x c,cl.lookup x=some c->X.env.cells.lookup x=some c) (hcf:∀ x,(x,NameKind.free)∈scope.names->∃ c,cl.lookup x=some c)
  (hfp:∀ b∈fp,FpOk X Ox H b) (hob:∀ b∈fp,∃ o,s.heap.get? b=some o/\∀ v,o.data≠.cell v):
  Inv (blkCx X N scope cl s H fp) [] (subσ ix σ) (upd H s.heap.objs.size (.lst []))
   {s with heap:=pushCells ((s.heap.push {cls:=.type "list",data:=.seq #[]}).push {cls:=.type "dict",data:=.dict #[]}) scope.names}:=by
 have hs2:(s.heap.push {cls:=.type "list",data:=.seq #[]}).objs.size=s.heap.objs.size+1:=Qr ..;have hs3:((s.heap.push {cls:=.type "list",data:=.seq #[]}).push {cls:=.type "dict",data:=.dict #[]}).objs.size=s.heap.objs.size+2:=by rw[Qr,hs2]
 have hk:∀ b o,s.heap.get? b=some o->(pushCells ((s.heap.push {cls:=.type "list",data:=.seq #[]}).push {cls:=.type "dict",data:=.dict #[]}) scope.names).get? b=some o:=
  λb o e=>RO _ _ b o (OS _ (OS _ e))
 have hl:(pushCells ((s.heap.push {cls:=.type "list",data:=.seq #[]}).push {cls:=.type "dict",data:=.dict #[]}) scope.names).get? s.heap.objs.size=some {cls:=.type "list",data:=.seq #[]}:=
  RO _ _ _ _ (OS _ (Pk _ rfl))
 have ok0:=cellsFrom_ok scope.names ((s.heap.push {cls:=.type "list",data:=.seq #[]}).push {cls:=.type "dict",data:=.dict #[]}) (s.heap.objs.size+2) [] ⟨λ_ _ hm=>(nomatch hm),List.Pairwise.nil⟩ (by rw[hs3];exact OQ _);rw[hs3]at ok0
 have hcells:(blkCx X N scope cl s H fp).env.cells=cellsFrom (s.heap.objs.size+2) scope.names []++cl:=by
  show cellsFrom (s.heap.objs.size+1+1) scope.names cl=_;rw[← List.nil_append cl,lM];simp
 have cases_:∀ x c,(blkCx X N scope cl s H fp).env.cells.lookup x=some c->((x,c)∈cellsFrom (s.heap.objs.size+2) scope.names []/\(x,NameKind.cell)∈scope.names)\/((cellsFrom (s.heap.objs.size+2) scope.names []).lookup x=none/\cl.lookup x=some c):=λx c e=>by
  rw[hcells,cO]at e
  cases q:(cellsFrom (s.heap.objs.size+2) scope.names []).lookup x with
  | none=>rw[q]at e;exact .inr ⟨rfl,e⟩
  | some c'=>
   rw[q]at e;cases e;have m:=P6 q;refine .inl ⟨m,?_⟩;rcases js _ _ _ m with z | z
   . exact z
   . exact nomatch z
 have oldc:∀ x c,cl.lookup x=some c->c<s.heap.objs.size:=λx c e=>by
  obtain⟨v,q⟩:=I.cell x c (hcl x c e);exact q.lt
 have hfree:H s.heap.objs.size=none:=I.hok.fresh (OQ _)
 have hfix:∀ b,s.heap.objs.size<b->(upd H s.heap.objs.size (.lst [])) b=none:=λb hb=>by
  rw[ah (RW hb)];exact I.hok.fresh (PD hb)
 have hlt:∀ b∈fp,b<s.heap.objs.size:=λb hb=>by
  obtain⟨o,e,_⟩:=hob b hb;exact OZ e
 have e0:=I.env0;have isnew:∀ x c,(x,c)∈cellsFrom (s.heap.objs.size+2) scope.names []->s.heap.objs.size+2<=c:=λx c m=>(ok0.empty x c m).2
 refine⟨⟨I.ok.mod,B.kind,I.ok.glob,I.ok.blt,Qz _,λx y c e1 e2=>?_,λx hx=>?_,λx c hx e=>?_,I.ok.hd,I.ok.frames,.inl rfl,λb hb=>⟨?_,λx c e=>?_⟩,e0.bs,e0.bsz,λb o e hb=>?_,λb hb hb2=>?_,e0.funs,e0.frf⟩,
  rfl,I.bare,Un.laid hk (OQ _) hfree,⟨λ_=>none,?_,λj x v e1 e2 e3=>?_⟩,λx c e=>?_,hfix _ (QN _),λx c e=>?_,λp hp=>absurd (show p∈([]:List (Addr × Obj)) from hp) (by simp),?_,?_⟩
 . rcases cases_ x c e1 with ⟨m1,k1⟩ | ⟨n1,q1⟩ <;> rcases cases_ y c e2 with ⟨m2,k2⟩ | ⟨n2,q2⟩
   . exact name_of_addr ok0.apart m1 m2
   . exact absurd (Pe (oldc _ _ q2) (O7 (Rm _ _) (isnew _ _ m1))) (P3 _)
   . exact absurd (Pe (oldc _ _ q1) (O7 (Rm _ _) (isnew _ _ m2))) (P3 _)
   . exact I.ok.inj x y c (hcl _ _ q1) (hcl _ _ q2)
 . have hx':(relabel scope X.env).names.lookup x=some .cell\/(relabel scope X.env).names.lookup x=some .free:=hx
   have key:scope.names.lookup x=some .cell\/scope.names.lookup x=some .free:=by
    rcases hx' with z | z
    . obtain⟨k',e,r | r⟩:=mR z
      . rw[← r]at e;exact .inl e
      . rw[r.1]at e;exact .inr e
    . obtain⟨k',e,r | r⟩:=mR z
      . rw[← r]at e;exact .inr e
      . cases r.2
   rw[hcells];rcases key with z | z
   . obtain⟨c,q⟩:=pO (n:=s.heap.objs.size+2) z;exact⟨c,by rw[cO,q]⟩
   . obtain⟨c,q⟩:=hcf x (P6 z)
     cases q2:(cellsFrom (s.heap.objs.size+2) scope.names []).lookup x with
     | none=>exact⟨c,by rw[cO,q2];exact q⟩
     | some c'=>exact⟨c',by rw[cO,q2]⟩
 . have hx':scope.names.lookup x=some .cell:=by simpa [blkCx] using hx
   rcases cases_ x c e with ⟨m1,k1⟩ | ⟨n1,q1⟩
   . exact O7 (Rm _ _) (isnew _ _ m1)
   . obtain⟨c',q⟩:=pO (n:=s.heap.objs.size+2) hx';rw[q]at n1;cases n1
 . exact Po (Qd (hlt b hb))
 . rcases cases_ x c e with ⟨m1,k1⟩ | ⟨n1,q1⟩
   . exact RW (Pe (hlt b hb) (O7 (Rm _ _) (isnew _ _ m1)))
   . exact(hfp b hb).2.2.2.2.1 x c (hcl _ _ q1)
 . rcases(hfp b hb).2.2.2.1 with z | z
   . exact I.ok.noex b o e z
   . exact absurd (Pe (OZ e) (O7 I.ok.bsz z)) (P3 _)
 . rcases OM.mp (I.stkSub b hb2) with z | z
   . exact(hfp b hb).2.1 z
   . exact(hfp b hb).2.2.1 z
 . show Heap.Ns _ (s.heap.objs.size+1) _;rw[← hs2];exact(Heap.Ns.new _ (.type "dict")).keeps (RO _ _)
 .
   unfold subσ at e2;rw[OH]at e2
   cases q:ix[j]? with
   | none=>rw[q]at e2;cases e2
   | some o=>
    rw[q]at e2
    cases o with
    | none=>cases e2
    | some i=>
     simp only[Option.map_some,Option.some.injEq]at e2;obtain⟨hN,hm⟩:=B.at_ j i x e1 q
     have hσ:σ[i]? =some (some v):=by
      cases q2:σ[i]? with
      | none=>rw[q2]at e2;cases e2
      | some z=>rw[q2]at e2;exact congrArg some e2
     obtain⟨m,hn,hl'⟩:=I.loc;have hkind:=B.free x hm;have hvis:Vis X.env.scope x:=hkind.elim (λz=>.inr (.inl z)) λz=>.inr (.inr z);obtain⟨u,ru,lk⟩:=hl' i x v hN hσ hvis;refine⟨u,ru,?_⟩;obtain⟨c,hc⟩:=hcf x hm
     have hnone:(cellsFrom (s.heap.objs.size+2) scope.names []).lookup x=none:=by
      cases q2:(cellsFrom (s.heap.objs.size+2) scope.names []).lookup x with
      | none=>rfl
      | some c'=>
       rcases js _ _ _ (P6 q2) with z | z
       . have a1:=gi B.names z;have a2:=gi B.names hm;rw[a1]at a2;cases a2
       . exact nomatch z
     have hcell:(blkCx X N scope cl s H fp).env.cells.lookup x=some c:=by rw[hcells,cO,hnone];exact hc
     have hkk:(blkCx X N scope cl s H fp).env.kindOf x=some .cell\/(blkCx X N scope cl s H fp).env.kindOf x=some .free:=by
      rcases e3 with z | z | z
      . obtain⟨k',e,r | r⟩:=mR (show(relabel scope X.env).names.lookup x=some .local from z)
        . rw[gi B.names hm]at e;cases e;cases r
        . cases r.2
      . exact .inl z
      . exact .inr z
     refine .inr ⟨hkk,c,hcell,?_⟩;rcases lk with ⟨k1,_⟩ | ⟨_,c2,e4,z⟩
     . rcases hkind with z | z <;> rw[k1]at z <;> cases z
     . rw[hcl x c hc]at e4;cases e4;exact z.keeps hk
 . rcases cases_ x c e with ⟨m1,k1⟩ | ⟨n1,q1⟩
   . exact⟨none,(ok0.empty x c m1).1⟩
   . obtain⟨v,z⟩:=I.cell x c (hcl _ _ q1);exact⟨v,z.keeps hk⟩
 . rcases cases_ x c e with ⟨m1,k1⟩ | ⟨n1,q1⟩
   . exact hfix c (Pe (Nat.lt_add_of_pos_right (by decide)) (isnew _ _ m1))
   . rw[ah (Po (oldc _ _ q1))];exact I.freeC x c (hcl _ _ q1)
 . exact I.hok.laid hk (OQ _) ⟨Py _,[],0,.nil,hl⟩
 . show(subσ ix σ).length=N.length;unfold subσ;rw[OF];exact B.len
def PTs(X:Cx)(ifs:List Expr)(t:TT):Prop:=
 ∀(Ox:List (Addr × Obj)) (s:Shared) (σ:St) (H:Hp) (Q:Bool->Hp->Prop),Inv X Ox σ H s->t σ H Q->
  wpAny (model X.prog X.w) X.A (forIn ifs true λc r=>if r=true then do let ok ← isTrue c X.env (eval c X.env);pure (ForInStep.yield ok) else pure (ForInStep.yield r)) (TP X Ox σ Q) X.xe s
def tTrue:TT:=λ_ H Q=>Q true H
theorem aW{X:Cx}:PTs X [] tTrue:=λ_ _ _ H _ I h=>wpAny_tests_nil ⟨H,I,h⟩
theorem kP{X:Cx}{c:Expr}{t:TT}(h:PT X c t):PTs X [c] t:=λOx s σ H Q I q=>wpAny_tests_one (h Ox s σ H Q I q)
def x5(ix:List (Option Nat))(wi:TI)(g:TG)(tt:TT)(te:TE)(fin:Addr->Hp->Prop):St->Hp->Prop:=λσ H=>wi σ H λJ H1=>∀ l,H1 l=none->
 ∃ W:Nat->Nat->St->Hp->Prop,(∃ m,W 0 m (subσ ix σ) (upd H1 l (.lst [])))/\∀ i m σ' H',W i m σ' H'->
  (J.stop i H'/\fin l H')\/(J.go i H'/\∃ N:St->Hp->Prop,(∀ σ'' H'',N σ'' H''->∃ m',m'<m/\W (i+1) m' σ'' H'')/\∀ x H2,J.yld i H' x H2->g x σ' H2 λσ2 H3=>tt σ2 H3 λb H4=>
   if b=true then te σ2 H4 λy H5=>∃ ys,H5 l=some (.lst ys)/\ys.length<sizeLine/\N σ2 (upd H5 l (.lst (ys++[y]))) else N σ2 H4)
section
variable{X:Cx}{Ox:List (Addr × Obj)}{σ σ':St}{H H':Hp}{s s':Shared}{N:List Str}{scope:Scope}{cl:List (Str × Addr)}{fp:List Addr}
theorem z4{h':Heap}(I:Inv X Ox σ H s)(J:Inv (blkCx X N scope cl s H fp) [] σ' H' s')(hfp:∀ b∈fp,FpOk X Ox H b)(sb:Heap.SameBut (s.heap.objs.size+1) s'.heap h'):Inv X Ox σ H' {s' with heap:=h'}:=by
 have u:Un (frs X.stack) fp H H' s.heap s'.heap:=J.base;have hC:H' (s.heap.objs.size+1)=none:=J.free;have ne:∀ b o,s.heap.get? b=some o->b≠s.heap.objs.size+1:=λb o e=>Po (Qd (OZ e));refine I.call' (s':={s' with heap:=h'}) (ch:=fp) J.os ⟨λb o e n hb hx=>?_,λb o e n hb hx=>?_,u.free,λb o e hx=>?_,u.tups,u.frzs,u.tbls⟩ (λb ob e=>?_) J.bare λb hb=>?_
 . exact(sb.2 b (ne b o e)).trans (u.keep b o e n hb hx)
 . obtain⟨sl,q⟩:=u.slot b o e n hb hx;exact⟨sl,(sb.2 b (ne b o e)).trans q⟩
 . obtain⟨o',q⟩:=u.there b o e hx;exact⟨o',(sb.2 b (ne b o e)).trans q⟩
 . refine(J.hok b ob e).stay (λc w' hc q=>(sb.2 c ?_).trans q) (λ_ q=>q) λ_ _ q=>q;rintro rfl;rcases hc with rfl | hc
   . rw[hC]at e;cases e
   . rw[hC]at hc;cases hc
 . obtain⟨f0,f1,f2,f3,f4,f5⟩:=hfp b hb;exact⟨f3,f1,f4,f5⟩
theorem x6 {tg iter elt:Expr} {ifs:List Expr} {pos:Pos} {ix:List (Option Nat)} {wi:TI} {g:TG} {tt:TT} {te:TE} {fin:Addr->Hp->Prop} {RR:Value->Addr->Result->Shared->Prop} (B:BlkOk X N ix scope) (hc:X.calm=true)
  (hi:PI X tg iter wi) (hg:∀ cl s H fp,PG (blkCx X N scope cl s H fp) tg g) (ht:∀ cl s H fp,PTs (blkCx X N scope cl s H fp) ifs tt) (he:∀ cl s H fp,PE (blkCx X N scope cl s H fp) elt te)
  (hcl:∀ x c,cl.lookup x=some c->X.env.cells.lookup x=some c) (hcf:∀ x,(x,NameKind.free)∈scope.names->∃ c,cl.lookup x=some c)
  (I:Inv X Ox σ H s) (h:x5 ix wi g tt te fin σ H)
  (ok:∀(s2:Shared) (H2:Hp) (fp:List Addr) (σ3:St) (H3:Hp) (s3:Shared),Inv X Ox σ H2 s2->(∀ b∈fp,FpOk X Ox H2 b)->Inv (blkCx X N scope cl s2 H2 fp) [] σ3 H3 s3->fin s2.heap.objs.size H3->RR (.ref s2.heap.objs.size) (s2.heap.objs.size+1) (.ok .next) s3)
  (bad:∀(a C:Addr) (x:Value) (s':Shared),(∃ m,s'.heap.Ns C m/\∀ h',Heap.SameBut C s'.heap h'->∀ cenv:Env,cenv.locals=C->wpAny (model X.prog X.w) X.A (passOn "comprehension.variables-let-go" x cenv:Sem Value) (λ_ _=>False) X.xe {s' with heap:=h'})->RR (.ref a) C (.error x) s'):
  wpAny (model X.prog X.w) X.A (eval iter X.env) (λx s₁=>wpAny (model X.prog X.w) X.A (pyIter x) (λit s₂=>wpAny (model X.prog X.w) X.A (newList []) (λacc s₃=>
   wpAny (model X.prog X.w) X.A (newFunctionEnv scope X.env.globals cl [] X.env.qual none .none (some X.env)) (λcenv s₄=>
    codeAny (model X.prog X.w) X.A (.compStart (.ListComp elt [⟨tg,iter,ifs,0⟩] scope pos) 0 it acc {cenv with scope:=relabel scope X.env}) (RR acc cenv.locals) s₄) X.xe s₃) X.xe s₂) X.xe s₁) X.xe s:=by
 refine thn (hi Ox s σ H _ I h) λv s1 h1=>thn h1 λitv s2 h2=>?_;obtain⟨it,fp,tn,J,H2,e,I2,T,st2,f2,h2⟩:=h2;subst e;refine wpAny_newList (C4 ?_) (Py _);have hs2:(s2.heap.push {cls:=.type "list",data:=.seq (([]:List Value)).toArray}).objs.size=s2.heap.objs.size+1:=Qr ..
 try dsimp only
 rw[hs2];have I3:=Bx (fp:=fp) B I2 hcl hcf f2 (T.obj _ _ st2);obtain⟨W,⟨m0,w0⟩,turn⟩:=h2 s2.heap.objs.size I2.fresh
 have hk:∀ b o,s2.heap.get? b=some o->(pushCells ((s2.heap.push {cls:=.type "list",data:=.seq #[]}).push {cls:=.type "dict",data:=.dict #[]}) scope.names).get? b=some o:=
  λb o e=>RO _ _ b o (OS _ (OS _ e))
 have st3:=T.keep _ _ _ st2 λb _ o e=>hk b o e
 have fr3:∀ b∈fp,(upd H2 s2.heap.objs.size (.lst [])) b=none:=λb hb=>by
  obtain⟨o,e,_⟩:=T.obj _ _ st2 b hb;rw[ah (Po (OZ e))];exact(f2 b hb).1
 have stat:∀{σ5:St} {H5:Hp} {s5:Shared},Inv (blkCx X N scope cl s2 H2 fp) [] σ5 H5 s5->(∀ b∈fp,H5 b=none)->∀ b∈fp,FpOk (blkCx X N scope cl s2 H2 fp) [] H5 b:=λI5 hn b hb=>
  ⟨hn b hb,(I5.ok.exf b hb).1,I5.ok.exfs b hb,.inl hb,(I5.ok.exf b hb).2,λp hp=>absurd (show p∈([]:List (Addr × Obj)) from hp) (by simp)⟩
 have loop:∀ s₃:Shared,s₃={s2 with heap:=pushCells ((s2.heap.push {cls:=.type "list",data:=.seq #[]}).push {cls:=.type "dict",data:=.dict #[]}) scope.names}->
   codeAny (model X.prog X.w) X.A (.compLoop (.ListComp elt [⟨tg,iter,ifs,0⟩] scope pos) 0 (.ref it) (.ref s2.heap.objs.size) (blkCx X N scope cl s2 H2 fp).env) (RR (.ref s2.heap.objs.size) (s2.heap.objs.size+1)) s₃:=by
  rintro s₃ rfl;refine Bw (λn s'=>∃ i σ' H',Inv (blkCx X N scope cl s2 H2 fp) [] σ' H' s'/\tn i s'.heap/\(∀ b∈fp,H' b=none)/\W i n σ' H') ?_ m0 ⟨0,_,_,I3,st3,fr3,w0⟩;rintro n s4 ⟨i,σ4,H4,I4,st4,fr4,w4⟩
  have xe_:∀ x s',(blkCx X N scope cl s2 H2 fp).xe x s'->notedBy (model X.prog X.w) X.A (blkCx X N scope cl s2 H2 fp).env (λe s'=>RR (.ref s2.heap.objs.size) (s2.heap.objs.size+1) (.error e) s') x s':=λx s' hx=>
   PF (hx ⟨Ox,σ,I2,f2⟩) (λ_ s'' q=>bad _ _ _ _ q) λe s'' q=>bad _ _ _ _ q
  rcases turn i n σ4 H4 w4 with ⟨stop,qn⟩ | ⟨go,Nx,hN,step⟩
  . refine PF (T.done (blkCx X N scope cl s2 H2 fp) rfl rfl rfl hc i [] s4 σ4 H4 _ I4 (stat I4 fr4) st4 stop) (λr s5 ⟨hr,I5⟩=>?_) xe_;subst hr;exact ok s2 H2 fp σ4 H4 s5 I2 f2 I5 qn
  . refine PF (T.item (blkCx X N scope cl s2 H2 fp) rfl rfl rfl hc i [] s4 σ4 H4 _ I4 (stat I4 fr4) st4 go) (λr s5 ⟨u,hr,h5⟩=>?_) xe_;subst hr;refine PF h5 (λ_ s6 ⟨x,H6,I6,r6,y6,st6,fr6⟩=>?_) xe_;have I6':=I6.pinned (stat I6 fr6) (T.obj _ _ st6);refine PF (hg cl s2 H2 fp _ s6 σ4 H6 x u _ I6' r6 (step x H6 y6)) (λ_ s7 ⟨σ7,H7,I7,q7⟩=>?_) xe_
    have again:∀{σ8:St} {H8:Hp} {s8:Shared},Inv (blkCx X N scope cl s2 H2 fp) ([]++qD fp s6.heap) σ8 H8 s8->Nx σ8 H8->∃ m,m<n/\∃ i σ' H',Inv (blkCx X N scope cl s2 H2 fp) [] σ' H' s8/\tn i s8.heap/\(∀ b∈fp,H' b=none)/\W i m σ' H':=λ{σ8 H8 s8} I8 n8=>by
     obtain⟨m',hm,w8⟩:=hN σ8 H8 n8;refine⟨m',hm,i+1,σ8,H8,I8.unpinned,T.keep _ _ _ st6 λb hb o e=>(I8.pin (b,o) (PM _ (PM _ (mh hb e)))).1,λb hb=>?_,w8⟩;obtain⟨o,e,d⟩:=T.obj _ _ st6 b hb;exact(I8.pin (b,o) (PM _ (PM _ (mh hb e)))).2.1
    refine PF (ht cl s2 H2 fp _ s7 σ7 H7 _ I7 q7) (λokb s8 ⟨H8,I8,q8⟩=>?_) xe_
    cases okb with
    | false=>exact again I8 q8
    | true=>
     refine PF (he cl s2 H2 fp _ s8 σ7 H8 _ I8 q8) (λy s9 ⟨yv,H9,I9,r9,ys,hl,hz,q9⟩=>?_) xe_;refine PF (wF (X:=blkCx X N scope cl s2 H2 fp) _ s9 σ7 H9 (.ref s2.heap.objs.size) [yv] (.ref s2.heap.objs.size) [y] (λ_ H10=>Nx σ7 H10) I9 rfl (.cons r9 .nil) ⟨_,ys,yv,rfl,rfl,hl,hz,q9⟩) (λ_ s10 ⟨_,H10,I10,_,q10⟩=>?_) xe_;exact again I10 q10
 exact codeAny_compStart_list (loop _ rfl) (T.self _ 0 _ _ _ st3 (loop _ rfl))
def tComp(ix:List (Option Nat))(wi:TI)(g:TG)(tt:TT)(te:TE):TE:=λσ H Q=>x5 ix wi g tt te (λl H'=>Q (.ref l) H') σ H
def sComp(k:Nat)(ix:List (Option Nat))(wi:TI)(g:TG)(tt:TT)(te:TE):TS:=λD σ H=>x5 ix wi g tt te (λl H'=>D.nx (σ.set k (some (.ref l))) H') σ H
theorem z5(I:Inv X Ox σ H s){ix:List (Option Nat)}(B:BlkOk X N ix scope):∃ cl,closureFor scope X.env=pure cl/\(∀ x c,cl.lookup x=some c->X.env.cells.lookup x=some c)/\∀ x,(x,NameKind.free)∈scope.names->∃ c,cl.lookup x=some c:=
 AE λx hx=>I.ok.has x (B.free x hx)
theorem sK{ix:List (Option Nat)}(B:BlkOk X N ix scope):∀ x∈scope.names,x.2=NameKind.local->scope.names.lookup x.1=some .local:=λx hx e=>by
 obtain⟨n,k⟩:=x;cases e;exact gi B.names hx
theorem aY {tg iter elt:Expr} {ifs:List Expr} {pos:Pos} {ix:List (Option Nat)} {wi:TI} {g:TG} {tt:TT} {te:TE} (N:List Str) (B:BlkOk X N ix scope) (hc:X.calm=true)
  (hi:PI X tg iter wi) (hg:∀ cl s H fp,PG (blkCx X N scope cl s H fp) tg g) (ht:∀ cl s H fp,PTs (blkCx X N scope cl s H fp) ifs tt) (he:∀ cl s H fp,PE (blkCx X N scope cl s H fp) elt te)
  (hs:∀ x,foldedSetIterable iter X.env x=pure x:=by intro _;rfl):PE X (.ListComp elt [⟨tg,iter,ifs,0⟩] scope pos) (tComp ix wi g tt te):=by
 intro Ox s σ H Q I h;obtain⟨cl,e1,e2,e3⟩:=z5 I B;rw[eval_ListComp];refine Sl (use:=none) rfl hs e1 B.kind (sK B) ?_;refine x6 (RR:=λacc C=>compPost (model X.prog X.w) X.A X.xe none (EP X Ox σ Q) acc C) B hc hi hg ht he e2 e3 I h (λs2 H2 fp σ3 H3 s3 I2 f2 J q=>?_) (λa C x s' q=>q);obtain⟨m,hn,_⟩:=J.loc;exact⟨m,hn,λh' sb=>⟨.ref _,H3,z4 I2 J f2 sb,rfl,q⟩⟩
theorem jR {y:Str} {py spos:Pos} {k:Nat} {tg iter elt:Expr} {ifs:List Expr} {pos:Pos} {ix:List (Option Nat)} {wi:TI} {g:TG} {tt:TT} {te:TE} (hN:X.N.Nodup) (hy:X.N[k]? =some y) (hx:Loc X.env.scope y)
  (hsw:swapsWith (.ListComp elt [⟨tg,iter,ifs,0⟩] scope pos) (some (.Name y py)) spos.line X.env=pure true) (N:List Str) (B:BlkOk X N ix scope) (hc:X.calm=true)
  (hi:PI X tg iter wi) (hg:∀ cl s H fp,PG (blkCx X N scope cl s H fp) tg g) (ht:∀ cl s H fp,PTs (blkCx X N scope cl s H fp) ifs tt) (he:∀ cl s H fp,PE (blkCx X N scope cl s H fp) elt te)
  (hs:∀ x,foldedSetIterable iter X.env x=pure x:=by intro _;rfl) (hf:X.fn y=true\/X.env.scope.names.lookup y=some .local:=by first | exact .inl rfl | exact .inr rfl | assumption):
  PS X (.Assign [.Name y py] (.ListComp elt [⟨tg,iter,ifs,0⟩] scope pos) spos) (sComp k ix wi g tt te):=by
 intro Ox s σ H D I h;obtain⟨cl,e1,e2,e3⟩:=z5 I B;rw[exec_Assign_Name_used _ _ _ _ hsw];refine OO (S7 (OO ?_));show wpAny _ X.A (do let _ ← comprehension (.ListComp elt [⟨tg,iter,ifs,0⟩] scope pos) scope X.env _ (newList []) false (eval iter X.env) (some (assign (.Name y py) X.env))) _ _ s;refine OO (PF (Sl (use:=some (assign (.Name y py) X.env)) (Q:=λ_ s'=>SP X Ox D .next s') rfl hs e1 B.kind (sK B) ?_) (λ_ s' hq=>Pf (Pf hq)) λ_ _ e=>e);refine x6 (RR:=λacc C=>compPost (model X.prog X.w) X.A X.xe (some (assign (.Name y py) X.env)) (λ_ s'=>SP X Ox D .next s') acc C) B hc hi hg ht he e2 e3 I h (λs2 H2 fp σ3 H3 s3 I2 f2 J q=>?_) (λa C x s' q=>q);obtain⟨m,hn,_⟩:=J.loc;have I3:Inv X Ox σ H3 {s3 with heap:=s3.heap}:=z4 I2 J f2 (Heap.SameBut.refl _ _);show wpAny _ X.A (assign (.Name y py) X.env (.ref _)) _ _ _;refine wpAny_assign_Name (wv (v:=.ref _) I3 hN hy hx rfl (λs4 I4 ⟨a,sb4,ha⟩=>?_) hf)
 have hlt:a<s2.heap.objs.size:=by
  rcases ha with rfl | ha
  . exact I2.lt
  . obtain⟨v,z⟩:=I2.cell _ _ ha;exact z.lt
 have hCa:s2.heap.objs.size+1≠a:=RW (Qd hlt);refine⟨m,hn.sameBut sb4 hCa,λh' sb=>?_⟩;refine⟨_,H3,I4.turned (t':=s4.toks) (it:=s2.heap.objs.size+1) (λb o hb e=>(sb.2 b hb).trans e) J.free (RW (Qd I2.lt)) (.inr (O7 I2.sz (Qz _))) (λx c e=>?_) (λp hp=>?_),q⟩
 . obtain⟨v,z⟩:=I2.cell x c e;exact Po (Qd z.lt)
 . exact Po (Qd (OZ (I2.pin p hp).1))
end
def bnd{α:Type}:Option α->(α->Prop)->Prop
 | some a,k=>k a
 | none,_=>False
theorem cH{α:Type}{o:Option α}{a:α}{k:α->Prop}(h:o=some a)(q:k a):bnd o k:=by subst h;exact q
theorem aZ{α:Type}{o:Option α}{k:α->Prop}(h:bnd o k):∃ a,o=some a/\k a:=by
 cases o with
 | none=>exact h.elim
 | some a=>exact⟨a,rfl,h⟩
theorem bP{α:Type}{a:α}{k:α->Prop}:bnd (some a) k=k a:=rfl
def unM:Option HO->Option (List V)
 | some (.lst xs)=>some xs
 | _=>none
def unL:Option HO->Option (List V)
 | some (.lst xs)=>some xs
 | some (.frz _ (.lst xs))=>some xs
 | _=>none
def unS:Option HO->Option (List V)
 | some (.lst xs)=>some xs
 | some (.frz _ (.lst xs))=>some xs
 | some (.tup xs)=>some xs
 | _=>none
variable{o:Option HO}{xs:List V}
theorem gS(h:unM o=some xs):o=some (.lst xs):=by
 unfold unM at h;split at h
 . cases h;rfl
 . cases h
theorem pp{K:Frag}{H:Hp}{p:Addr}(h:unL (H p)=some xs):SqL K H p xs:=by
 unfold unL at h;split at h
 . rename_i e;cases h;exact .inl (.inl e)
 . rename_i o _ e;cases h;exact .inl (.inr ⟨_,e⟩)
 . cases h
theorem px{K:Frag}{H:Hp}{p:Addr}(h:unS (H p)=some xs):SqL K H p xs\/SqT K H p xs:=by
 unfold unS at h;split at h
 . rename_i e;cases h;exact .inl (.inl (.inl e))
 . rename_i o _ e;cases h;exact .inl (.inl (.inr ⟨_,e⟩))
 . rename_i e;cases h;exact .inr (.inl (.inl e))
 . cases h
mutual
inductive DV(K:Frag)(H:Hp):V->PyData->Prop
 | non:DV K H .non .none
 | bl (b:Bool):DV K H (.bl b) (.bool b)
 | int (i:Int):DV K H (.int i) (.int i)
 | str (x:Str):DV K H (.str x) (.str x)
 | lst {a:Addr} {xs:List V} {ds:List PyData}:SqL K H a xs->DVs K H xs ds->DV K H (.ref a) (.list ds)
 | tup {a:Addr} {xs:List V} {ds:List PyData}:SqT K H a xs->DVs K H xs ds->DV K H (.ref a) (.tuple ds)
inductive DVs(K:Frag)(H:Hp):List V->List PyData->Prop
 | nil:DVs K H [] []
 | cons {x:V} {d:PyData} {xs:List V} {ds:List PyData}:DV K H x d->DVs K H xs ds->DVs K H (x::xs) (d::ds)
end
section
variable{X:Cx}{Ox:List (Addr × Obj)}{σ:St}{H:Hp}{s:Shared}
mutual
theorem DV.reads(I:Inv X Ox σ H s):∀{x:V} {d:PyData} {v:Value},DV X.K H x d->RelV x v->∃ as,Reads s.heap v d as
 | _,_,_,.non,r=>by cases r;exact⟨_,.none⟩
 | _,_,_,.bl b,r=>by cases r;exact⟨_,.bool b⟩
 | _,_,_,.int i,r=>by obtain⟨t,rfl⟩:=r;exact⟨_,.int i t⟩
 | _,_,_,.str x,r=>by obtain⟨t,rfl⟩:=r;exact⟨_,.str x t⟩
 | _,_,_,.lst (a:=a) h hs,r=>by
  cases r;obtain⟨OA,rv,p,_⟩:=I.list h;obtain⟨as,q⟩:=DVs.reads I hs rv;obtain⟨o,h1,h2,n,h3⟩:=p.isList;exact⟨_,.list h1 h2 h3 q⟩
 | _,_,_,.tup (a:=a) h hs,r=>by
  cases r;obtain⟨OA,rv,p,_⟩:=I.tuple h;obtain⟨as,q⟩:=DVs.reads I hs rv;obtain⟨o,h1,h2,n,h3⟩:=p;exact⟨_,.tuple h1 h2 h3 q⟩
theorem DVs.reads(I:Inv X Ox σ H s):∀{xs:List V} {ds:List PyData} {us:List Value},DVs X.K H xs ds->Vals xs us->∃ as,ReadsAll s.heap us ds as
 | _,_,_,.nil,.nil=>⟨_,.nil⟩
 | _,_,_,.cons h hs,.cons r rs=>by
  obtain⟨as,q⟩:=DV.reads I h r;obtain⟨bs,q2⟩:=DVs.reads I hs rs;exact⟨_,.cons q q2⟩
end
end
theorem DVs.ints{K:Frag}{H:Hp}:∀ ns:List Int,DVs K H (ns.map V.int) (ns.map PyData.int)
 | []=>.nil
 | n::r=>.cons (.int n) (DVs.ints r)
theorem mS:∀ ns ms:List Int,PyData.eqvAll (ns.map PyData.int) (ms.map PyData.int)=decide (ns=ms):=PySem.W.ked_eqvAll
theorem pS:∀ ns:List Int,PyData.canLayAll0 (ns.map PyData.int)=true
 | []=>rfl
 | n::r=>by rw[Pr,PyData.canLayAll0,pS r];rfl
theorem mi:∀ ns:List Int,PyData.depthAll (ns.map PyData.int)=0
 | []=>rfl
 | n::r=>by rw[Pr,PyData.depthAll,mi r];rfl
theorem i8(ns:List Int):SeqAt.shaped (.list (ns.map PyData.int))=true:=by
 simp[SeqAt.shaped,PyData.canLay0,pS,PyData.depth,mi]
def cAdd:R2
 | .int i,.int j,H,Q=>Q (.int (i+j)) H
 | .str i,.str j,H,Q=>i.length+j.length<=sizeLine/\Q (.str (i++j)) H
 | .ref l,.ref b,H,Q=>bnd (unM (H l)) λxs=>bnd (unM (H b)) λzs=>xs.length+zs.length<=sizeLine/\∀ p,H p=none->Q (.ref p) (upd H p (.lst (xs++zs)))
 | _,_,_,_=>False
def cSub:R2
 | .int i,.int j,H,Q=>Q (.int (i-j)) H
 | _,_,_,_=>False
def cMul:R2
 | .int i,.int j,H,Q=>CMul i j/\Q (.int (i*j)) H
 | _,_,_,_=>False
def cDiv:R2
 | .int i,.int j,H,Q=>CDiv i j/\Q (.int (i/j)) H
 | _,_,_,_=>False
def cMod:R2
 | .int i,.int j,H,Q=>0<j/\Q (.int (i%j)) H
 | _,_,_,_=>False
def cPow:R2
 | .int i,.int j,H,Q=>CPow i j/\Q (.int (i^j.toNat)) H
 | _,_,_,_=>False
def cCmp(g:Int->Int->Bool):R2
 | .int i,.int j,H,Q=>Q (.bl (g i j)) H
 | _,_,_,_=>False
def rEqD(K:Frag):R2:=λx y H Q=>∃ d e,DV K H x d/\DV K H y e/\SeqAt.shaped d=true/\SeqAt.shaped e=true/\Q (.bl (PyData.eqv d e)) H
def rNeD(K:Frag):R2:=λx y H Q=>∃ d e,DV K H x d/\DV K H y e/\SeqAt.shaped d=true/\SeqAt.shaped e=true/\Q (.bl (!PyData.eqv d e)) H
def cEq(K:Frag):R2
 | .int i,.int j,H,Q=>Q (.bl (decide (i=j))) H
 | .bl i,.bl j,H,Q=>Q (.bl (decide (i=j))) H
 | .str i,.str j,H,Q=>Q (.bl (decide (i=j))) H
 | x,y,H,Q=>rEqD K x y H Q
def cNe(K:Frag):R2
 | .int i,.int j,H,Q=>Q (.bl (!decide (i=j))) H
 | .bl i,.bl j,H,Q=>Q (.bl (!decide (i=j))) H
 | .str i,.str j,H,Q=>Q (.bl (!decide (i=j))) H
 | x,y,H,Q=>rNeD K x y H Q
def rInD(K:Frag)(neg:Bool):R2:=λx y H Q=>∃ d ds,DV K H x d/\(DV K H y (.list ds)\/DV K H y (.tuple ds))/\PyData.canLayAll0 ds=true/\PyData.canLay0 d=true/\min (PyData.depthAll ds) d.depth<=62/\
 Q (.bl (if neg then !ds.any (λy=>PyData.eqv y d) else ds.any λy=>PyData.eqv y d)) H
def keyOf:V->Option Key
 | .int i=>some (.inl i)
 | .str x=>some (.inr x)
 | _=>none
def unD:Option HO->Option (List (Key × V))
 | some (.dK Oz)=>some Oz
 | _=>none
def cIn(K:Frag)(neg:Bool):R2
 | .ref a,y,H,Q=>rInD K neg (.ref a) y H Q
 | x,.ref p,H,Q=>(match unD (H p) with
  | some Oz=>bnd (keyOf x) λk=>Q (.bl (if neg then !(valV Oz k).isSome else(valV Oz k).isSome)) H
  | none=>bnd (unS (H p)) λxs=>flatV x=true/\xs.all flatV=true/\Q (.bl (if neg then !inV x xs else inV x xs)) H)
 | .str i,.str j,H,Q=>Q (.bl (if neg then !(!(Builtin.Str.occurrences j i 0 j.length 1).isEmpty) else !(Builtin.Str.occurrences j i 0 j.length 1).isEmpty)) H
 | _,_,_,_=>False
def cIx:R2
 | .ref p,y,H,Q=>(match unD (H p) with
  | some Oz=>bnd (keyOf y) λk=>bnd (valV Oz k) λv=>Q v H
  | none=>match y with
   | .int i=>bnd (unS (H p)) λxs=>bnd (atI xs i) λv=>Q v H
   | _=>False)
 | .str z,.int i,H,Q=>z.length<=sizeLine/\bnd (atI z.cps.toList i) λc=>Q (.str ⟨#[c]⟩) H
 | _,_,_,_=>False
theorem uf{Oz:List (Key × V)}(h:unD o=some Oz):o=some (.dK Oz):=by
 unfold unD at h;split at h
 . cases h;rfl
 . cases h
theorem tm{x:V}{k:Key}(h:keyOf x=some k):x=kV k:=by
 unfold keyOf at h;split at h
 . cases h;rfl
 . cases h;rfl
 . cases h
section
variable{X:Cx}{a b c:Expr}{ta tb tc:TE}{pos:Pos}
theorem aB:OpR X (binaryOp .Add) cAdd:=by
 intro Ox s σ H x y v u Q I rx ry h;unfold cAdd at h
 split at h
 . exact Fc Ox s σ H _ _ v u Q I rx ry ⟨_,_,rfl,rfl,h⟩
 . exact Aw Ox s σ H _ _ v u Q I rx ry ⟨_,_,rfl,rfl,h.1,h.2⟩
 . obtain⟨xs,e1,h⟩:=aZ h;obtain⟨zs,e2,h⟩:=aZ h;exact Fl Ox s σ H _ _ v u Q I rx ry ⟨_,_,xs,zs,rfl,rfl,gS e1,gS e2,h.1,h.2⟩
 . exact h.elim
theorem kQ:OpR X (binaryOp .Sub) cSub:=by
 intro Ox s σ H x y v u Q I rx ry h;unfold cSub at h
 split at h
 . exact Fd Ox s σ H _ _ v u Q I rx ry ⟨_,_,rfl,rfl,h⟩
 . exact h.elim
theorem cP:OpR X (binaryOp .Mult) cMul:=by
 intro Ox s σ H x y v u Q I rx ry h;unfold cMul at h
 split at h
 . exact Fe Ox s σ H _ _ v u Q I rx ry ⟨_,_,rfl,rfl,h.1,h.2⟩
 . exact h.elim
theorem dt:OpR X (binaryOp .FloorDiv) cDiv:=by
 intro Ox s σ H x y v u Q I rx ry h;unfold cDiv at h
 split at h
 . exact D9 Ox s σ H _ _ v u Q I rx ry ⟨_,_,rfl,rfl,h.1,h.2⟩
 . exact h.elim
theorem aF:OpR X (binaryOp .Mod) cMod:=by
 intro Ox s σ H x y v u Q I rx ry h;unfold cMod at h
 split at h
 . exact Ff Ox s σ H _ _ v u Q I rx ry ⟨_,_,rfl,rfl,h.1,h.2⟩
 . exact h.elim
theorem rN{op:CmpOp}{g:Int->Int->Bool}(o:OpR X (compareOp op) (rI0 λi j=>.bl (g i j))):OpR X (compareOp op) (cCmp g):=by
 intro Ox s σ H x y v u Q I rx ry h;unfold cCmp at h
 split at h
 . exact o Ox s σ H _ _ v u Q I rx ry ⟨_,_,rfl,rfl,h⟩
 . exact h.elim
theorem x8:OpR X (compareOp .Lt) (cCmp λi j=>decide (i<j)):=rN Gm
theorem ug:OpR X (compareOp .LtE) (cCmp λi j=>decide (i<=j)):=rN Gn
theorem gj:OpR X (compareOp .Gt) (cCmp λi j=>decide (j<i)):=rN Go
theorem By:OpR X (compareOp .GtE) (cCmp λi j=>decide (j<=i)):=rN Gp
theorem Fq(hu:X.A.units+64<cLine):OpR X (compareOp .Eq) (rEqD X.K):=by
 intro Ox s σ H x y v u Q I rx ry h;obtain⟨d,e,h1,h2,h3,h4,q⟩:=h;obtain⟨as,r1⟩:=h1.reads I rx;obtain⟨bs,r2⟩:=h2.reads I ry;exact eq_dataH r1 r2 h3 h4 hu ⟨.bl _,H,I,rfl,q⟩
theorem Fr(hu:X.A.units+64<cLine):OpR X (compareOp .NotEq) (rNeD X.K):=by
 intro Ox s σ H x y v u Q I rx ry h;obtain⟨d,e,h1,h2,h3,h4,q⟩:=h;obtain⟨as,r1⟩:=h1.reads I rx;obtain⟨bs,r2⟩:=h2.reads I ry;exact ne_dataH r1 r2 h3 h4 hu ⟨.bl _,H,I,rfl,q⟩
theorem aK(hu:X.A.units+64<cLine):OpR X (compareOp .Eq) (cEq X.K):=by
 intro Ox s σ H x y v u Q I rx ry h;unfold cEq at h
 split at h
 . refine Au Ox s σ H _ _ v u Q I rx ry ⟨rfl,?_⟩
   simpa using h
 . refine Au Ox s σ H _ _ v u Q I rx ry ⟨rfl,?_⟩
   simpa using h
 . refine Au Ox s σ H _ _ v u Q I rx ry ⟨rfl,?_⟩
   simpa using h
 . exact Fq hu Ox s σ H _ _ v u Q I rx ry h
theorem gk(hu:X.A.units+64<cLine):OpR X (compareOp .NotEq) (cNe X.K):=by
 intro Ox s σ H x y v u Q I rx ry h;unfold cNe at h
 split at h
 . refine Av Ox s σ H _ _ v u Q I rx ry ⟨rfl,?_⟩
   simpa using h
 . refine Av Ox s σ H _ _ v u Q I rx ry ⟨rfl,?_⟩
   simpa using h
 . refine Av Ox s σ H _ _ v u Q I rx ry ⟨rfl,?_⟩
   simpa using h
 . exact Fr hu Ox s σ H _ _ v u Q I rx ry h
theorem Fs(hu:X.A.units+64<cLine):OpR X (compareOp .In) (rInD X.K false):=by
 intro Ox s σ H x y v u Q I rx ry h;obtain⟨d,ds,h1,h2,h3,h4,h5,q⟩:=h;obtain⟨as,r1⟩:=h1.reads I rx;rcases h2 with h2 | h2
 . obtain⟨bs,r2⟩:=h2.reads I ry;exact SeqAt.in_list_reads r2 r1 h3 h4 (by omega) ⟨.bl _,H,I,rfl,q⟩
 . obtain⟨bs,r2⟩:=h2.reads I ry;exact SeqAt.in_tuple_reads r2 r1 h3 h4 (by omega) ⟨.bl _,H,I,rfl,q⟩
theorem Bz(hu:X.A.units+64<cLine):OpR X (compareOp .NotIn) (rInD X.K true):=by
 intro Ox s σ H x y v u Q I rx ry h;obtain⟨d,ds,h1,h2,h3,h4,h5,q⟩:=h;obtain⟨as,r1⟩:=h1.reads I rx;rcases h2 with h2 | h2
 . obtain⟨bs,r2⟩:=h2.reads I ry;exact SeqAt.notIn_list_reads r2 r1 h3 h4 (by omega) ⟨.bl _,H,I,rfl,q⟩
 . obtain⟨bs,r2⟩:=h2.reads I ry;exact SeqAt.notIn_tuple_reads r2 r1 h3 h4 (by omega) ⟨.bl _,H,I,rfl,q⟩
theorem qI(hu:X.A.units+64<cLine):OpR X (compareOp .In) (cIn X.K false):=by
 intro Ox s σ H x y v u Q I rx ry h;unfold cIn at h
 split at h
 . exact Fs hu Ox s σ H _ _ v u Q I rx ry h
 . rename_i p hx
   split at h
   . rename_i Oz e
     obtain⟨k,ek,q⟩:=aZ h;cases (show u=Value.ref p from ry);have g:DGet H p x (valV Oz k):=by rw[tm ek];exact DGet.k (uf e)
     exact GP (PK (Ro (by decide:1<=64) _) hu) I g rx λs' I'=>⟨.bl _,H,I',rfl,q⟩
   . obtain⟨xs,e,f1,f2,q⟩:=aZ h;exact wC Ox s σ H _ _ v u Q I rx ry ⟨p,xs,rfl,px e,f1,f2,q⟩
 . exact Bg Ox s σ H _ _ v u Q I rx ry ⟨_,_,rfl,rfl,h⟩
 . exact h.elim
theorem BA(hu:X.A.units+64<cLine):OpR X (compareOp .NotIn) (cIn X.K true):=by
 intro Ox s σ H x y v u Q I rx ry h;unfold cIn at h
 split at h
 . exact Bz hu Ox s σ H _ _ v u Q I rx ry h
 . rename_i p hx
   split at h
   . rename_i Oz e
     obtain⟨k,ek,q⟩:=aZ h;cases (show u=Value.ref p from ry);have g:DGet H p x (valV Oz k):=by rw[tm ek];exact DGet.k (uf e)
     exact Ek (PK (Ro (by decide:1<=64) _) hu) I g rx λs' I'=>⟨.bl _,H,I',rfl,q⟩
   . obtain⟨xs,e,f1,f2,q⟩:=aZ h;exact qG Ox s σ H _ _ v u Q I rx ry ⟨p,xs,rfl,px e,f1,f2,q⟩
 . exact xS Ox s σ H _ _ v u Q I rx ry ⟨_,_,rfl,rfl,h⟩
 . exact h.elim
end
section
variable{X:Cx}{a b c:Expr}{ta tb tc:TE}{pos:Pos}
theorem Ft(hu:X.A.units+64<cLine):IxR X cIx:=by
 intro value slice Ox s σ H x y v u Q I rx ry h hs
 cases x with
 | ref p=>
  unfold cIx at h;dsimp only at h
  split at h
  . rename_i Oz e
    obtain⟨k,ek,h⟩:=aZ h;obtain⟨z,ez,q⟩:=aZ h;cases (show v=Value.ref p from rx);have g:DGet H p y (some z):=by rw[tm ek,← ez];exact DGet.k (uf e)
    exact tail_any (zw I g) PySem.F.slot_dict_getitem.lookup (Br (PK (Ro (by decide:1<=64) _) hu) I g ry λw' s3 I3 rw'=>⟨z,H,I3,rw',q⟩) hs
  . split at h
    . obtain⟨xs,e,h⟩:=aZ h;obtain⟨z,ez,q⟩:=aZ h;rcases px (K:=X.K) e with r | r
      . exact vn value slice Ox s σ H _ _ v u Q I rx ry ⟨p,xs,_,z,rfl,rfl,r,ez,q⟩ hs
      . exact Fg value slice Ox s σ H _ _ v u Q I rx ry ⟨p,xs,_,z,rfl,rfl,r,ez,q⟩ hs
    . exact h.elim
 | str zz=>
  cases y with
  | int i=>
   obtain⟨hz,h⟩:=(show zz.length<=sizeLine/\bnd (atI zz.cps.toList i) λc=>Q (.str ⟨#[c]⟩) H from h);obtain⟨z,ez,q⟩:=aZ h;exact Fh value slice Ox s σ H _ _ v u Q I rx ry ⟨_,_,z,rfl,rfl,hz,ez,q⟩ hs
  | _=>exact False.elim h
 | _=>exact False.elim h
def kLen:List V->Hp->VK->Prop
 | [.ref p],H,Q=>(match unD (H p) with
  | some Oz=>Q (.int Oz.length) H
  | none=>bnd (unS (H p)) λxs=>Q (.int xs.length) H)
 | [.str z],H,Q=>z.length<=sizeLine/\Q (.int z.length) H
 | _,_,_=>False
theorem bh:CallR X (.builtin "len") kLen:=by
 intro Ox s σ H xs us Q I r h;unfold kLen at h
 split at h
 . split at h
   . rename_i Oz e
     exact Bv Ox s σ H _ us Q I r ⟨_,Oz,rfl,uf e,h⟩
   . obtain⟨ys,e,q⟩:=aZ h;exact j4 Ox s σ H _ us Q I r ⟨_,ys,rfl,px e,q⟩
 . exact xT Ox s σ H _ us Q I r ⟨_,rfl,h.1,h.2⟩
 . exact h.elim
def kAbs:List V->Hp->VK->Prop
 | [.int i],H,Q=>Q (.int (if i<0 then -i else i)) H
 | _,_,_=>False
def kMin:List V->Hp->VK->Prop
 | [.int i,.int j],H,Q=>Q (.int (if j<i then j else i)) H
 | _,_,_=>False
def kMax:List V->Hp->VK->Prop
 | [.int i,.int j],H,Q=>Q (.int (if j>i then j else i)) H
 | _,_,_=>False
theorem BB(hc:X.calm=true):CallR X (.builtin "max") kMax:=by
 intro Ox s σ H xs us Q I r h;unfold kMax at h
 split at h
 . exact Bi hc Ox s σ H _ us Q I r ⟨_,_,rfl,h⟩
 . exact h.elim
def kList:List V->Hp->VK->Prop
 | [.ref p],H,Q=>bnd (unS (H p)) λys=>∀ l,H l=none->Q (.ref l) (upd H l (.lst ys))
 | _,_,_=>False
theorem j5:CallR X (.type "list") kList:=by
 intro Ox s σ H xs us Q I r h;unfold kList at h
 split at h
 . obtain⟨ys,e,q⟩:=aZ h;exact xU Ox s σ H _ us Q I r ⟨_,ys,rfl,px e,q⟩
 . exact h.elim
def kR:List V->Hp->VK->Prop
 | [.ref p],H,Q=>bnd (unL (H p)) λys=>∃ ns:List Int,ys=ns.map V.int/\ns.length<64/\∀(ns':List Int) l,H l=none->ns'.Perm ns->ns'.Pairwise (· <=·)->Q (.ref l) (upd H l (.lst (ns'.map V.int)))
 | _,_,_=>False
theorem mT:CallR X (.builtin "sorted") kR:=by
 intro Ox s σ H xs us Q I r h;unfold kR at h
 split at h
 . rename_i p
   obtain⟨ys,e,ns,rfl,OC,q⟩:=aZ h;obtain⟨u,rfl,ru⟩:=dh r;cases ru;obtain⟨OA,rv,pl,hz⟩:=I.list (pp e);have hI:IntsAre OA ns:=uc rv;have hl:=rv.length;rw[OF]at hl;refine sorted_ints pl.isList hI (by omega) λout ns' hI' hp hs=>?_;have old:∀ b o,s.heap.get? b=some o->(sortedAll s.heap OA out).get? b=some o:=λb o e=>sortedAll_old e;obtain⟨n,at_⟩:=sortedAll_at s.heap OA out;have hfresh:H (s.heap.objs.size+1)=none:=I.hok.fresh (Qz _)
   have hlen':(ns'.map V.int).length<=sizeLine:=by
    rw[OF,hp.length_eq];exact PD (Te OC (by decide))
   refine⟨.ref (s.heap.objs.size+1),_,I.laid (t':=s.toks) (a:=s.heap.objs.size+1) (o:=.lst (ns'.map V.int)) old (Qz _) ⟨hlen',out.toList,n,qH hI',?_⟩,rfl,q ns' _ hfresh hp hs⟩;rw[at_]
 . exact h.elim
def mU(H:Hp):V->Option String
 | .non=>some "NoneType"
 | .bl _=>some "bool"
 | .int _=>some "int"
 | .str _=>some "str"
 | .ref p=>match H p with
  | some (.lst _)=>some "list"
  | some (.frz _ (.lst _))=>some "list"
  | some (.tup _)=>some "tuple"
  | some (.dK _)=>some "dict"
  | _=>none
 | _=>none
def isTy(t n:String):Bool:=t==n||(t=="bool"&&n=="int")
def rO(n:String):Bool:=["int","bool","str","list","tuple","dict"].contains n
theorem BC{K:Frag}{H:Hp}{x:V}{t:String}(h:mU H x=some t):TyOf K H x (.type t)/\["NoneType","int","bool","str","list","tuple","dict"].contains t=true:=by
 cases x with
 | non=>cases h;exact⟨.non,by decide⟩
 | bl b=>cases h;exact⟨.bl b,by decide⟩
 | int i=>cases h;exact⟨.int i,by decide⟩
 | str i=>cases h;exact⟨.str i,by decide⟩
 | byt _=>cases h
 | flt _=>cases h
 | ty _=>cases h
 | ref p=>
  unfold mU at h;dsimp only at h
  split at h
  . rename_i e;cases h;exact⟨.lst e,by decide⟩
  . rename_i e;cases h;exact⟨.frz e,by decide⟩
  . rename_i e;cases h;exact⟨.tup e,by decide⟩
  . rename_i e;cases h;exact⟨.dK e,by decide⟩
  . cases h
theorem Fu(K:Frag):∀ t∈["NoneType","int","bool","str","list","tuple","dict"],∀ n∈["int","bool","str","list","tuple","dict"],PySem.W.kitOne K (.type t) (.type n)=some (isTy t n):=by
 intro t ht n hn;simp only[OM,Pn,Qg]at ht hn;rcases ht with rfl | rfl | rfl | rfl | rfl | rfl | rfl <;> rcases hn with rfl | rfl | rfl | rfl | rfl | rfl <;> rfl
def kIsi:List V->Hp->VK->Prop
 | [x,.ty n],H,Q=>rO n=true/\bnd (mU H x) λt=>Q (.bl (isTy t n)) H
 | _,_,_=>False
theorem gU:CallR X (.builtin "isinstance") kIsi:=by
 intro Ox s σ H xs us Q I r h;unfold kIsi at h
 split at h
 . obtain⟨hn,h⟩:=h;obtain⟨t,et,q⟩:=aZ h;obtain⟨u,w,rfl,ru,rw'⟩:=xJ r;cases rw';obtain⟨ty,ht⟩:=BC (K:=X.K) et;exact Bl I ru ty (Fu X.K t (by simpa using ht) _ (by simpa [rO] using hn)) λtk=>⟨.bl _,H,I.tok tk,rfl,q⟩
 . exact h.elim
def dw:V->List V->Hp->VK->Prop
 | .ref l,[y],H,Q=>bnd (unM (H l)) λxs=>xs.length<sizeLine/\Q .non (upd H l (.lst (xs++[y])))
 | _,_,_,_=>False
theorem fW:MtR X "list.append" dw:=by
 intro Ox s σ H x vs v us Q I rx rv h;unfold dw at h
 split at h
 . obtain⟨xs,e,h1,q⟩:=aZ h;exact wF Ox s σ H _ _ v us Q I rx rv ⟨_,xs,_,rfl,rfl,gS e,h1,q⟩
 . exact h.elim
def jS:V->List V->Hp->VK->Prop
 | .ref l,[.ref b],H,Q=>bnd (unM (H l)) λxs=>bnd (unM (H b)) λzs=>xs.length+zs.length<=sizeLine/\Q .non (upd H l (.lst (xs++zs)))
 | _,_,_,_=>False
theorem mj:MtR X "list.extend" jS:=by
 intro Ox s σ H x vs v us Q I rx rv h;unfold jS at h
 split at h
 . obtain⟨xs,e,h⟩:=aZ h;obtain⟨zs,e2,h1,q⟩:=aZ h;exact Bq Ox s σ H _ _ v us Q I rx rv ⟨_,_,xs,zs,rfl,rfl,gS e,gS e2,h1,q⟩
 . exact h.elim
def pA:V->List V->Hp->VK->Prop
 | .ref l,[],H,Q=>bnd (unM (H l)) λ_=>Q .non (upd H l (.lst []))
 | _,_,_,_=>False
theorem qJ:MtR X "list.clear" pA:=by
 intro Ox s σ H x vs v us Q I rx rv h;unfold pA at h
 split at h
 . obtain⟨xs,e,q⟩:=aZ h;exact CW Ox s σ H _ _ v us Q I rx rv ⟨_,xs,rfl,rfl,gS e,q⟩
 . exact h.elim
theorem bA{K:Frag}{H:Hp}{p:Addr}{xs:List V}(h:H p=some (.lst xs)):tyV K "list" (.ref p) H:=.inl ⟨rfl,_,Pc h⟩
def cSl:V->Option Int->Option Int->Hp->VK->Prop
 | .ref p,lo,hi,H,Q=>bnd (unL (H p)) λxs=>∀ l,H l=none->Q (.ref l) (upd H l (.lst (cutV xs lo hi)))
 | _,_,_,_,_=>False
theorem GQ:SlR X cSl:=by
 intro Ox s σ H x v vl vu lo hi sl Q I rx hs pl pu h;unfold cSl at h
 split at h
 . obtain⟨xs,e,q⟩:=aZ h;exact Ef Ox s σ H _ v vl vu lo hi sl Q I rx hs pl pu ⟨_,xs,rfl,pp e,q⟩
 . exact h.elim
end
structure Cal(P:Program)(w:World)(K:Frag)(mg:Str->Option Value)(base:Heap)(k:Nat)(x:Str)(ps:List Str)(sp:Sp):Prop where
 ex:∃(f:Addr) (fd:FuncData),FnOk P w K mg base CX0 k f fd ps sp/\mg x=some (.ref f)/\keepIn K (.ref f)=true/\Binds K fd ps []
theorem Fv {X:Cx} {k n:Nat} {x:Str} {ps:List Str} {sp:Sp} {p pos:Pos} {e:Expr} {es:List Expr} {t:TA} (C:Cal X.prog X.w X.K X.mg X.base k x ps sp) (hr:Room n X.A) (hk:k<=n) (hg:Gl X x) (ha:PA X (e::es) t)
  (hdb:(x==("__debug__":Str))=false:=by decide) (he:starEach (e::es) X.env=(false,eval e X.env)::starEach es X.env:=by rfl) (hpl:(backTo pos (starEach es X.env)).any (·.1)=false:=by rfl):
  PE X (.Call (.Name x p) (e::es) [] pos) (tCall sp [] E0 t):=by
 obtain⟨f,fd,F,hm,hkp,hb⟩:=C.ex;exact zY F (hr.mono hk) hg hm hkp hb .nil AD ha hdb he hpl
theorem bG:bootBuiltins "len"=some (.builtin "len"):=by decide+kernel
theorem BD:bootBuiltins "min"=some (.builtin "min"):=by decide+kernel
theorem Fw:bootBuiltins "max"=some (.builtin "max"):=by decide+kernel
theorem lH:bootBuiltins "sorted"=some (.builtin "sorted"):=by decide+kernel
theorem Fx:bootBuiltins "any"=some (.builtin "any"):=by decide+kernel
theorem bp:bootBuiltins "isinstance"=some (.builtin "isinstance"):=by decide+kernel
theorem gA:bootBuiltins "list"=some (.type "list"):=by decide+kernel
theorem x9:bootBuiltins "int"=some (.type "int"):=by decide+kernel
theorem En:bootBuiltins "bool"=some (.type "bool"):=by decide+kernel
theorem gW:bootBuiltins "str"=some (.type "str"):=by decide+kernel
theorem pU:bootBuiltins "tuple"=some (.type "tuple"):=by decide+kernel
theorem zx:bootBuiltins "reversed"=some (.type "reversed"):=by decide+kernel
def compN(scope:Scope):List Str:=(scope.names.filter λp=>p.2==.local||p.2==.cell||p.2==.free).map (·.1)
def uh(N:List Str)(scope:Scope):List (Option Nat):=(compN scope).map λx=>if scope.names.lookup x==some .free then N.findIdx? (· ==x) else none
def isCF:Option NameKind->Bool
 | some .cell=>true
 | some .free=>true
 | _=>false
theorem Fy{X:Cx}{scope:Scope}(h1:scope.kind=.function)(h2:(scope.names.map (·.1)).Nodup)(h3:(scope.names.all λp=>p.2 != .free||isCF (X.env.kindOf p.1))=true):BlkOk X (compN scope) (uh X.N scope) scope where
 kind:=h1
 nd:=h2.sublist (List.Sublist.map _ (List.filter_sublist ..))
 len:=by unfold uh;rw[OF]
 names:=h2
 free:=λx hx=>by
  have:=Pb.mp h3 (x,.free) hx;simp only[bne_self_eq_false,Bool.false_or]at this;unfold isCF at this
  split at this
  . rename_i e;exact .inl e
  . rename_i e;exact .inr e
  . cases this
 at_:=λj i x e1 e2=>by
  unfold uh at e2;rw[OH,e1]at e2;simp only[Option.map_some,Option.some.injEq]at e2
  split at e2
  . rename_i hf
    obtain⟨hlt,hp,_⟩:=List.findIdx?_eq_some_iff_getElem.mp e2
    have hx:X.N[i]? =some x:=by
     rw[OG hlt];have:X.N[i]=x:=by simpa using hp
     rw[this]
    refine⟨hx,P6 (by simpa using hf)⟩
  . cases e2
section
variable{t u:TS}{D:Ends}{σ:St}{H:Hp}{Q:VK}{ta tb:TE}{R:Bool->Hp->Prop}{c d:TT}
theorem az:tSeq t u D σ H=t {D with nx:=u D} σ H:=rfl
theorem bc:tNext D σ H=D.nx σ H:=rfl
theorem dH{g:TG}:tAsg ta g D σ H=ta σ H λx H1=>g x σ H1 D.nx:=rfl
theorem aS{i:Nat}{v:V}{k:St->Hp->Prop}:gName i v σ H k=k (σ.set i (some v)) H:=rfl
theorem ui{i:Nat}:tVar i σ H Q=∃ v,σ[i]? =some (some v)/\Q v H:=propext ⟨DM,λ⟨_,e,h⟩=>pN e h⟩
theorem fj{v:V}{σ:St}:tVar 0 (some v::σ) H Q=Q v H:=rfl
theorem fo{i:Nat}{a:Option V}{σ:St}:tVar (i+1) (a::σ) H Q=tVar i σ H Q:=rfl
theorem w_c{v:V}:tC v σ H Q=Q v H:=rfl
theorem jz{r:R2}:tOp r ta tb σ H Q=ta σ H λx H1=>tb σ H1 λy H2=>r x y H2 Q:=rfl
theorem gJ:tRet ta D σ H=ta σ H D.rt:=rfl
theorem fq:tRetN D σ H=D.rt .non H:=rfl
theorem dI:tDrop ta D σ H=ta σ H λ_ H1=>D.nx σ H1:=rfl
theorem aN:tIfS c t u D σ H=c σ H λb H1=>if b=true then t D σ H1 else u D σ H1:=rfl
theorem dJ:tTest ta σ H R=ta σ H λx H'=>∃ k,x=.bl k/\R k H':=rfl
theorem w_b:tB ta σ H R=ta σ H λx H'=>∃ k,x=.bl k/\R k H':=rfl
theorem w_not:tNot c σ H R=c σ H λk H1=>R (!k) H1:=rfl
theorem iu:tAnd c d σ H R=c σ H λk H1=>if k=true then d σ H1 R else R false H1:=rfl
theorem kS:tOr c d σ H R=c σ H λk H1=>if k=true then R true H1 else d σ H1 R:=rfl
theorem ft:tNotV ta σ H Q=ta σ H λx H1=>∃ c,x=.bl c/\Q (.bl (!c)) H1:=rfl
theorem fu:tAndV ta tb σ H Q=ta σ H λx H1=>∃ c,x=.bl c/\if c=true then tb σ H1 Q else Q (.bl false) H1:=rfl
theorem iw:tOrV ta tb σ H Q=ta σ H λx H1=>∃ c,x=.bl c/\if c=true then Q (.bl true) H1 else tb σ H1 Q:=rfl
theorem gK{k:List V->Hp->Prop}:tNil σ H k=k [] H:=rfl
theorem dL{tr:TA}{k:List V->Hp->Prop}:tCons ta tr σ H k=ta σ H λx H1=>tr σ H1 λxs H2=>k (x::xs) H2:=rfl
theorem j6{r:List V->Hp->VK->Prop}{tr:TA}:tCB r tr σ H Q=tr σ H λvs H1=>r vs H1 Q:=rfl
theorem fz{sp:Sp}{dvs:List V}{E:XK}{tr:TA}:tCall sp dvs E tr σ H Q=tr σ H λvs H1=>sp (vs++dvs) H1 Q E:=rfl
theorem iy{tr:TA}:tTup tr σ H Q=tr σ H λxs H1=>xs.length<=sizeLine/\∀ p,H1 p=none->Q (.ref p) (upd H1 p (.tup xs)):=rfl
theorem fX{tr:TA}:tLst tr σ H Q=tr σ H λxs H1=>xs.length<=sizeLine/\∀ p,H1 p=none->Q (.ref p) (upd H1 p (.lst xs)):=rfl
theorem j7{K:Frag}{T:String}{r:V->List V->Hp->VK->Prop}{tr:TA}:tBM K T r ta tr σ H Q=ta σ H λx H1=>tyV K T x H1/\tr σ H1 λxs H2=>r x xs H2 Q:=rfl
theorem iz{K:Frag}{T:String}{r:V->List V->Hp->VK->Prop}:xV K T r ta σ H Q=ta σ H λx H1=>tyV K T x H1/\r x [] H1 Q:=rfl
theorem cI:tTrue σ H R=R true H:=rfl
theorem fD:Fn σ H Q=∀ p,H p=none->Q (.ref p) (upd H p (.dK [])):=rfl
theorem fE{td ty tv:TE}:sDPut td ty tv D σ H=tv σ H λv H1=>td σ H1 λx H2=>ty σ H2 λy H3=>∃ a H4,x=.ref a/\DPut H3 a y v H4/\D.nx σ H4:=rfl
theorem iA{i j:Int}:cAdd (.int i) (.int j) H Q=Q (.int (i+j)) H:=rfl
theorem iB{i j:Int}:cSub (.int i) (.int j) H Q=Q (.int (i-j)) H:=rfl
theorem iC{i j:Int}:cMul (.int i) (.int j) H Q=(CMul i j/\Q (.int (i*j)) H):=rfl
theorem iD{i j:Int}:cDiv (.int i) (.int j) H Q=(CDiv i j/\Q (.int (i/j)) H):=rfl
theorem iE{i j:Int}:cMod (.int i) (.int j) H Q=(0<j/\Q (.int (i%j)) H):=rfl
theorem iF{g:Int->Int->Bool}{i j:Int}:cCmp g (.int i) (.int j) H Q=Q (.bl (g i j)) H:=rfl
theorem iG{K:Frag}{i j:Int}:cEq K (.int i) (.int j) H Q=Q (.bl (decide (i=j))) H:=rfl
theorem iH{K:Frag}{i j:Int}:cNe K (.int i) (.int j) H Q=Q (.bl (!decide (i=j))) H:=rfl
theorem gL{K:Frag}{i j:Bool}:cEq K (.bl i) (.bl j) H Q=Q (.bl (decide (i=j))) H:=rfl
theorem iI{K:Frag}{i j:Bool}:cNe K (.bl i) (.bl j) H Q=Q (.bl (!decide (i=j))) H:=rfl
theorem AF{p:Addr}{i:Int}{xs:List V}(h:H p=some (.tup xs)):cIx (.ref p) (.int i) H Q=bnd (atI xs i) λv=>Q v H:=by
 unfold cIx;dsimp only;rw[h];rfl
theorem Gs{p:Addr}{i:Int}{xs:List V}(h:H p=some (.lst xs)):cIx (.ref p) (.int i) H Q=bnd (atI xs i) λv=>Q v H:=by
 unfold cIx;dsimp only;rw[h];rfl
theorem iJ{i:Int}:kAbs [.int i] H Q=Q (.int (if i<0 then -i else i)) H:=rfl
theorem iK{i j:Int}:kMin [.int i,.int j] H Q=Q (.int (if j<i then j else i)) H:=rfl
theorem gM{p:Addr}{xs:List V}(h:H p=some (.lst xs)):kLen [.ref p] H Q=Q (.int xs.length) H:=by
 unfold kLen;dsimp only;rw[h];rfl
theorem Fz{p:Addr}{xs:List V}(h:H p=some (.tup xs)):kLen [.ref p] H Q=Q (.int xs.length) H:=by
 unfold kLen;dsimp only;rw[h];rfl
theorem kT{p:Addr}{xs:List V}{y:V}(h:H p=some (.lst xs)):dw (.ref p) [y] H Q=(xs.length<sizeLine/\Q .non (upd H p (.lst (xs++[y])))):=by
 unfold dw;dsimp only;rw[h];rfl
theorem ou:∀ ns:List Int,(ns.map V.int).all flatV=true
 | []=>rfl
 | n::r=>by rw[Pr,Sk,ou r];rfl
theorem pV(i:Int):∀ ns:List Int,inV (.int i) (ns.map V.int)=decide (i∈ns)
 | []=>by simp[inV]
 | n::r=>by
  have ih:=pV i r;unfold inV at ih ⊢;rw[Pr,QJ,ih];show((n==i)||decide (i∈r))=decide (i∈n::r);rw[Pw,SO,QD,Pp,Pp,OM];exact⟨λh=>h.elim (λe=>.inl e.symm) .inr,λh=>h.elim (λe=>.inl e.symm) .inr⟩
theorem GR{K:Frag}{p:Addr}{i:Int}{ns:List Int}(h:H p=some (.lst (ns.map V.int))):cIn K false (.int i) (.ref p) H Q=Q (.bl (decide (i∈ns))) H:=by
 unfold cIn;dsimp only;rw[h];dsimp only[unD,unS,bnd];rw[pV,ou];simp[flatV]
theorem Gu{K:Frag}{p:Addr}{i:Int}{ns:List Int}(h:H p=some (.lst (ns.map V.int))):cIn K true (.int i) (.ref p) H Q=Q (.bl (!decide (i∈ns))) H:=by
 unfold cIn;dsimp only;rw[h];dsimp only[unD,unS,bnd];rw[pV,ou];simp[flatV]
end
def LoopR(J:It)(g:TG)(tb:TS)(D:Ends)(σ:St)(H1:Hp):Prop:=∃ W:Nat->Nat->St->Hp->Prop,(∃ m,W 0 m σ H1)/\∀ i m σ H,W i m σ H->
 (J.stop i H/\D.nx σ H)\/(J.go i H/\∃ N:St->Hp->Prop,(∀ σ' H',N σ' H'->∃ m',m'<m/\W (i+1) m' σ' H')/\∀ x H',J.yld i H x H'->g x σ H' λσ2 H2=>tb {D with nx:=N,ct:=N,bk:=D.nx} σ2 H2)
def CompR(J:It)(g:TG)(tt:TT)(te:TE)(fin:Addr->Hp->Prop)(σ0:St)(H1:Hp):Prop:=∀ l,H1 l=none->
 ∃ W:Nat->Nat->St->Hp->Prop,(∃ m,W 0 m σ0 (upd H1 l (.lst [])))/\∀ i m σ' H',W i m σ' H'->
  (J.stop i H'/\fin l H')\/(J.go i H'/\∃ N:St->Hp->Prop,(∀ σ'' H'',N σ'' H''->∃ m',m'<m/\W (i+1) m' σ'' H'')/\∀ x H2,J.yld i H' x H2->g x σ' H2 λσ2 H3=>tt σ2 H3 λb H4=>
   if b=true then te σ2 H4 λy H5=>∃ ys,H5 l=some (.lst ys)/\ys.length<sizeLine/\N σ2 (upd H5 l (.lst (ys++[y]))) else N σ2 H4)
section
variable{K:Frag}{g:TG}{tb:TS}{D:Ends}{σ:St}{H:Hp}{tl:TE}{ta:TA}{ix:List (Option Nat)}{tt:TT}{te:TE}{k:Nat}{Q:VK}
theorem fF:tFor (iList K tl) g tb D σ H=tl σ H λx H1=>∃ a,x=.ref a/\(∃ xs,SqL K H1 a xs)/\LoopR (Itl K a) g tb D σ H1:=rfl
theorem cQ:tFor (dG ta) g tb D σ H=ta σ H λvs H1=>∃ j:Int,vs=[.int j]/\ -(2^62)<=j/\j<2^62/\LoopR (Itr 0 j.toNat) g tb D σ H1:=rfl
theorem cR:tFor (rL ta) g tb D σ H=ta σ H λvs H1=>∃ i j:Int,vs=[.int i,.int j]/\(-(2^62)<=i/\i<2^62/\ -(2^62)<=j/\j<2^62)/\LoopR (Itr i (j-i).toNat) g tb D σ H1:=rfl
theorem cx:tComp ix (iList K tl) g tt te σ H Q=tl σ H λx H1=>∃ a,x=.ref a/\(∃ xs,SqL K H1 a xs)/\CompR (Itl K a) g tt te (λl H'=>Q (.ref l) H') (subσ ix σ) H1:=rfl
theorem bX:tComp ix (dG ta) g tt te σ H Q=ta σ H λvs H1=>∃ j:Int,vs=[.int j]/\ -(2^62)<=j/\j<2^62/\CompR (Itr 0 j.toNat) g tt te (λl H'=>Q (.ref l) H') (subσ ix σ) H1:=rfl
theorem bY:sComp k ix (iList K tl) g tt te D σ H=tl σ H λx H1=>∃ a,x=.ref a/\(∃ xs,SqL K H1 a xs)/\CompR (Itl K a) g tt te (λl H'=>D.nx (σ.set k (some (.ref l))) H') (subσ ix σ) H1:=rfl
theorem bH:sComp k ix (dG ta) g tt te D σ H=ta σ H λvs H1=>∃ j:Int,vs=[.int j]/\ -(2^62)<=j/\j<2^62/\CompR (Itr 0 j.toNat) g tt te (λl H'=>D.nx (σ.set k (some (.ref l))) H') (subσ ix σ) H1:=rfl
theorem pW {lo:Int} {n:Nat} {fin:Addr->Hp->Prop} {σ0:St} {H1:Hp} (Pv:Addr->Nat->St->Hp->Prop) (h0:∀ l,H1 l=none->Pv l 0 σ0 (upd H1 l (.lst [])))
  (hs:∀ l i σ H,H1 l=none->i<n->Pv l i σ H->g (.int (lo+i)) σ H λσ2 H3=>tt σ2 H3 λb H4=>if b=true then te σ2 H4 λy H5=>∃ ys,H5 l=some (.lst ys)/\ys.length<sizeLine/\Pv l (i+1) σ2 (upd H5 l (.lst (ys++[y]))) else Pv l (i+1) σ2 H4)
  (hd:∀ l σ H,H1 l=none->Pv l n σ H->fin l H):CompR (Itr lo n) g tt te fin σ0 H1:=by
 intro l hl0;refine⟨λi m σ H=>m=n-i/\i<=n/\Pv l i σ H,⟨n,by simp,Py _,h0 l hl0⟩,?_⟩;rintro i m σ H ⟨rfl,hi,p⟩;by_cases hlt:i<n
 . refine .inr ⟨hlt,Pv l (i+1),λσ' H' p'=>⟨n - (i+1),by omega,rfl,hlt,p'⟩,λx H' y=>?_⟩;obtain⟨e,y⟩:=y;subst e y;exact hs l i σ _ hl0 hlt p
 . have e:i=n:=by omega
   subst e;exact .inl ⟨OQ _,hd l σ H hl0 p⟩
theorem gX {a:Addr} {xs:List V} {fin:Addr->Hp->Prop} {σ0:St} {H1:Hp} (Pv:Addr->Nat->St->Hp->Prop) (h0:∀ l,H1 l=none->Pv l 0 σ0 (upd H1 l (.lst []))) (hq:∀ l i σ H,H1 l=none->i<=xs.length->Pv l i σ H->SqL K H a xs)
  (hs:∀ l i x σ H,H1 l=none->xs[i]? =some x->Pv l i σ H->g x σ H λσ2 H3=>tt σ2 H3 λb H4=>if b=true then te σ2 H4 λy H5=>∃ ys,H5 l=some (.lst ys)/\ys.length<sizeLine/\Pv l (i+1) σ2 (upd H5 l (.lst (ys++[y]))) else Pv l (i+1) σ2 H4)
  (hd:∀ l σ H,H1 l=none->Pv l xs.length σ H->fin l H):CompR (Itl K a) g tt te fin σ0 H1:=by
 intro l hl0;refine⟨λi m σ H=>m=xs.length-i/\i<=xs.length/\Pv l i σ H,⟨xs.length,by simp,Py _,h0 l hl0⟩,?_⟩;rintro i m σ H ⟨rfl,hi,p⟩;have q:=hq l i σ H hl0 hi p;by_cases hlt:i<xs.length
 . refine .inr ⟨⟨xs,xs[i],q,by simp[hlt]⟩,Pv l (i+1),λσ' H' p'=>⟨xs.length - (i+1),by omega,rfl,hlt,p'⟩,λx H' y=>?_⟩;obtain⟨e,y⟩:=y;subst e;exact hs l i x σ _ hl0 (y xs q) p
 . have e:i=xs.length:=by omega
   subst e;exact .inl ⟨⟨xs,q,OQ _⟩,hd l σ H hl0 p⟩
theorem DP{p q:Addr}{xs ys:List Int}(hp:H p=some (.lst (xs.map V.int)))(hq:H q=some (.lst (ys.map V.int)))(h:Q (.bl (decide (xs=ys))) H):cEq K (.ref p) (.ref q) H Q:=by
 show rEqD K (.ref p) (.ref q) H Q;refine⟨.list (xs.map PyData.int),.list (ys.map PyData.int),.lst (Pc hp) (.ints xs),.lst (Pc hq) (.ints ys),i8 xs,i8 ys,?_⟩;rw[PyData.eqv,mS];exact h
theorem Gv{p q:Addr}{xs ys:List Int}(hp:H p=some (.lst (xs.map V.int)))(hq:H q=some (.lst (ys.map V.int)))(h:Q (.bl (!decide (xs=ys))) H):cNe K (.ref p) (.ref q) H Q:=by
 show rNeD K (.ref p) (.ref q) H Q;refine⟨.list (xs.map PyData.int),.list (ys.map PyData.int),.lst (Pc hp) (.ints xs),.lst (Pc hq) (.ints ys),i8 xs,i8 ys,?_⟩;rw[PyData.eqv,mS];exact h
theorem tq{p:Addr}{ns:List Int}(hp:H p=some (.lst (ns.map V.int)))(hn:ns.length<64)(h:∀(ns':List Int) l,H l=none->ns'.Perm ns->ns'.Pairwise (· <=·)->Q (.ref l) (upd H l (.lst (ns'.map V.int)))):kR [.ref p] H Q:=by
 unfold kR
 try dsimp only
 rw[hp];exact⟨ns,rfl,hn,h⟩
theorem uj{p:Addr}{xs:List V}(hp:H p=some (.lst xs))(h:∀ l,H l=none->Q (.ref l) (upd H l (.lst xs))):kList [.ref p] H Q:=by
 unfold kList
 try dsimp only
 rw[hp];exact h
end
theorem aG{X:Cx}{N:List Str}{ix:List (Option Nat)}{scope:Scope}(h1:scope.kind=.function)(h2:(scope.names.map (·.1)).Nodup)(h3:(scope.names.all λp=>p.2 != .free||isCF (X.env.kindOf p.1))=true)(h4:N=compN scope)(h5:ix=uh X.N scope):BlkOk X N ix scope:=by
 subst h4 h5;exact Fy h1 h2 h3
def kLenS(K:Frag):List V->Hp->VK->Prop:=λxs H Q=>∃ p ys,xs=[.ref p]/\(SqL K H p ys\/SqT K H p ys)/\Q (.int ys.length) H
structure Bt(mg:Str->Option Value):Prop where
 len_:mg "len"=none
 abs_:mg "abs"=none
 min_:mg "min"=none
 max_:mg "max"=none
 sorted_:mg "sorted"=none
 any_:mg "any"=none
 isinstance_:mg "isinstance"=none
 list_:mg "list"=none
 int_:mg "int"=none
 bool_:mg "bool"=none
 str_:mg "str"=none
 tuple_:mg "tuple"=none
 reversed_:mg "reversed"=none
 set_:mg "set"=none
 range_:mg "range"=none
 zip_:mg "zip"=none
theorem Vals.get':∀{xs:List V} {us:List Value} {i:Nat} {u:Value},Vals xs us->us[i]? =some u->∃ x,xs[i]? =some x/\RelV x u
 | _,_,_,_,.nil,h=>by simp at h
 | _,_,0,_,.cons r _,h=>by simp at h;subst h;exact⟨_,rfl,r⟩
 | _,_,i+1,_,.cons _ t,h=>by
  obtain⟨x,hx,r⟩:=Vals.get' (i:=i) t (by simpa using h);exact⟨x,by simpa using hx,r⟩
section
variable{X:Cx}{Ox:List (Addr × Obj)}{σ:St}{H:Hp}{s s':Shared}
theorem Inv.kept'(I:Inv X Ox σ H s)(k:∀ b u,s.heap.get? b=some u->s'.heap.get? b=some u)(ho:s'.os=s.os)(hg:AllBare s'.gens):Inv X Ox σ H s':=
 I.call' (ch:=[]) ho (Un.kept k) (I.hok.kept k) hg λb z=>absurd z (by simp)
theorem Inv.walked{l:Addr}{o:Obj}(I:Inv X Ox σ H s)(hm:Moved [s.heap.objs.size] (λa b=>b=a) {s with heap:=s.heap.push o} s'):Inv X Ox σ H s':=by
 refine I.kept' (λb u e=>hm.heap b u (λz=>?_) (OS _ e)) hm.os (by rw[show s'.gens=s.gens from hm.gens];exact I.bare);have:b=s.heap.objs.size:=by simpa using z
 exact absurd (OZ e) (by rw[this];exact P3 _)
def kAny:List V->Hp->VK->Prop
 | [.ref p],H,Q=>bnd (unL (H p)) λys=>∃ bs:List Bool,ys=bs.map V.bl/\Q (.bl (bs.any id)) H
 | _,_,_=>False
theorem BE(bs:List Bool):(List.range bs.length).any (λi=>bs.getD i false)=bs.any id:=by
 rw[Pw,RI,RI];constructor
 . rintro⟨i,hi,h⟩;have hi':i<bs.length:=O5.mp hi;exact⟨bs[i],Pt hi',by simpa [List.getD,hi'] using h⟩
 . rintro⟨b,hb,h⟩;obtain⟨i,hi,e⟩:=Qs.mp hb;refine⟨i,O5.mpr hi,?_⟩;have h':b=true:=h;rw[List.getD,OG hi,e];exact h'
theorem BF(hc:X.calm=true):CallR X (.builtin "any") kAny:=by
 intro Ox s σ H xs us Q I r h;unfold kAny at h
 split at h
 . rename_i p
   obtain⟨ys,e,bs,rfl,q⟩:=aZ h;obtain⟨u,rfl,ru⟩:=dh r;cases ru;obtain⟨OA,rv,pl,hz⟩:=I.list (pp e);have hl:=rv.length;rw[OF]at hl
   have hlt:p<s.heap.objs.size:=by
    obtain⟨o,h1,_⟩:=pl.isList;exact OZ h1
   refine call_any_walkS (Q9 pl.isList ?_);refine⟨s.heap.objs.size,_,_,_,OA.toArray.size,_,_,λi=>bs.getD i false,rfl,(Tc (A:=X.A.in1) (I.ok.hd hc) s.heap.objs.size p (Po hlt) OA.toArray).toS,⟨⟨_,Pk _ rfl,rfl,rfl⟩,pl.isList.push _⟩,?_,λs' hm=>?_⟩
   . intro i v s1 Q1 E1 hP hQ;have hv:OA[i]? =some v:=by simpa using hP
     obtain⟨x,hx,rx⟩:=rv.get' hv;obtain⟨b,hb,rfl⟩:∃ b,bs[i]? =some b/\V.bl b=x:=by simpa using hx
     cases rx;refine Qv ?_;have e3:bs.getD i false=b:=by simp[List.getD,hb]
     rw[← e3];exact hQ
   . refine⟨.bl _,H,I.walked (l:=p) hm,?_,q⟩;have e2:OA.toArray.size=bs.length:=by rw[OX];exact hl.symm
     rw[e2,BE];rfl
 . exact h.elim
def Itz(K:Frag)(a b:Addr):It:=
 ⟨λi H=>∃ xs ys x y,SqL K H a xs/\SqL K H b ys/\xs[i]? =some x/\ys[i]? =some y,
  λi H v H'=>∃ T x y,v=.ref T/\H T=none/\H'=upd H T (.tup [x,y])/\(∀ xs,SqL K H a xs->xs[i]? =some x)/\∀ ys,SqL K H b ys->ys[i]? =some y,
  λi H=>∃ xs ys,SqL K H a xs/\SqL K H b ys/\(xs.length<=i\/ys.length<=i)⟩
theorem aR{h:Heap}{a b:Addr}{o u:Obj}{c d:String}(ha:h.get? a=some o)(hb:h.get? b=some u)(hc:o.cls=.type c)(hd:u.cls=.type d)(ne:c≠d):a≠b:=by
 rintro rfl;rw[ha]at hb;cases hb;rw[hc]at hd;cases hd;exact ne rfl
def ZSt(a b z TI TO i1 i2:Addr)(i:Nat)(h:Heap):Prop:=IsZip h z TI TO .none/\IsPair h TI (.ref i1) (.ref i2)/\(∃ u v,IsPair h TO u v)/\h.IsListIter i1 a i/\h.IsListIter i2 b i
theorem C6{P:Program}{w:World}{K:Frag}{es:List Expr}{x1:Nat}{pos:Pos}(a b z TI TO i1 i2:Addr)(dT:TI≠TO)(d1:i1≠i2):
  Turn P w K (.Tuple es x1 pos) (Itz K a b) [z,TI,TO,i1,i2] z (ZSt a b z TI TO i1 i2) where
 mem:=by simp
 obj:=λi h st c hc=>by
  obtain⟨hz,hTI,⟨u,v,hTO⟩,⟨o1,e1,c1,f1⟩,⟨o2,e2,c2,f2⟩⟩:=st;simp only[OM,Pn,Qg]at hc;rcases hc with rfl | rfl | rfl | rfl | rfl
  . exact⟨_,hz,λv z=>by have z':Data.fields _=Data.cell v:=z;cases z'⟩
  . exact⟨_,hTI,λv z=>by have z':Data.seq _ _=Data.cell v:=z;cases z'⟩
  . exact⟨_,hTO,λv z=>by have z':Data.seq _ _=Data.cell v:=z;cases z'⟩
  . exact⟨_,e1,λv z=>by rw[f1]at z;cases z⟩
  . exact⟨_,e2,λv z=>by rw[f2]at z;cases z⟩
 keep:=λi h h' st k=>by
  obtain⟨hz,hTI,⟨u,v,hTO⟩,h1,h2⟩:=st;exact⟨k z (by simp) _ hz,k TI (by simp) _ hTI,⟨u,v,k TO (by simp) _ hTO⟩,h1.at λo e=>k i1 (by simp) o e,h2.at λo e=>k i2 (by simp) o e⟩
 item:=by
  intro X hP hw hK hc i Ox s σ H E I hf st hg;subst hP hw hK;obtain⟨xs,ys,x,y,hq1,hq2,hx,hy⟩:=hg;obtain⟨its1,rv1,p1,hz1⟩:=I.list hq1;obtain⟨its2,rv2,p2,hz2⟩:=I.list hq2;obtain⟨u1,hu1,ru1⟩:=rv1.get hx;obtain⟨u2,hu2,ru2⟩:=rv2.get hy;obtain⟨hz,hTI,⟨u,v,hTO⟩,⟨o1,e1,c1,f1⟩,⟨o2,e2,c2,f2⟩⟩:=id st;obtain⟨oa,ea,ca,_⟩:=p1.isList;obtain⟨ob,eb,cb,_⟩:=p2.isList
  have D:ZipApart z TI TO i1 i2 a b:=⟨aR hTI hz rfl rfl (by decide),aR hTO hz rfl rfl (by decide),aR e1 hz c1 rfl (by decide),aR e2 hz c2 rfl (by decide),dT,aR hTI e1 rfl c1 (by decide),aR hTI e2 rfl c2 (by decide),aR hTO e1 rfl c1 (by decide),aR hTO e2 rfl c2 (by decide),d1,
   aR ea hz ca rfl (by decide),aR ea hTO ca rfl (by decide),aR ea e1 ca c1 (by decide),aR ea e2 ca c2 (by decide),aR eb hz cb rfl (by decide),aR eb hTO cb rfl (by decide),aR eb e1 cb c1 (by decide),aR eb e2 cb c2 (by decide)⟩
  refine wpAny_pyNext_zip_item D hz hTI hTO ⟨o1,e1,c1,f1⟩ ⟨o2,e2,c2,f2⟩ p1.isList p2.isList (x:=u1) (y:=u2) (by simpa using hu1) (by simpa using hu2) λh' a1 a2 a3 a4 a5 a6 hk=>?_;refine⟨_,rfl,wpAny_letOwnedTupleGo_zip a1 λh2 hz2 sb=>?_⟩;have hT:H s.heap.objs.size=none:=I.fresh;have lt:∀{c o},s.heap.get? c=some o->c≠s.heap.objs.size:=λe=>Po (OZ e)
  have kp:∀ c o,c∉[z,TO,i1,i2]->s.heap.get? c=some o->h2.get? c=some o:=λc o hc e=>by
   simp only[OM,Pn,Qg,not_or]at hc;exact sb.extBut _ _ hc.1 (hk c o hc.1 hc.2.1 hc.2.2.1 hc.2.2.2 e)
  have hTz:s.heap.objs.size≠z:=(lt hz).symm;have gT:h2.get? s.heap.objs.size=some {cls:=.type "tuple",data:=.seq #[u1,u2]}:=sb.extBut _ _ hTz a5;have nH:∀ c∈[z,TO,i1,i2],H c=none:=λc hc=>(hf c (by simp only[OM,Pn,Qg]at hc ⊢;rcases hc with h | h | h | h <;> simp[h])).1;refine⟨.ref s.heap.objs.size,upd H s.heap.objs.size (.tup [x,y]),I.call' (s':={s with heap:=h2}) (ch:=[z,TO,i1,i2]) rfl ⟨λc o e n _ hx=>kp c o hx e,λc o e n _ hx=>⟨o.slots,kp c o hx e⟩,λc o e n _=>by rw[ah (lt e)];exact n,λc o e hx=>⟨o,kp c o hx e⟩,λc xs e=>by rw[ah (ar e hT)];exact e,λc o u e=>by rw[ah (ar e hT)];exact e,λc ps e=>⟨#[],by rw[ah (ar e hT),e];simp⟩⟩ ?_ I.bare ?_,rfl,⟨_,x,y,rfl,hT,rfl,λzs hz'=>by rw[I.list_inj hz' hq1];exact hx,λzs hz'=>by rw[I.list_inj hz' hq2];exact hy⟩,?_,?_⟩
  . intro c ob e;by_cases hb:c=s.heap.objs.size
    . subst hb;rw[ag]at e;cases e;exact⟨by show(2:Nat)<=sizeLine;exact PD (aE (by decide)),[u1,u2],.cons ru1 (.cons ru2 .nil),⟨_,gT,rfl,_,rfl⟩⟩
    . rw[ah hb]at e;refine(I.hok c ob e).stay (λd w' hd g=>kp d w' ?_ g) (λd g=>by rw[ah (ar g hT)];exact g) λd xs g=>by rw[ah (ar g hT)];exact g
      intro hm;rcases hd with rfl | hd
      . rw[nH _ hm]at e;cases e
      . rw[nH _ hm]at hd;cases hd
  . intro c hc;obtain⟨f0,f1,f2,f3,f4,f5⟩:=hf c (by simp only[OM,Pn,Qg]at hc ⊢;rcases hc with h | h | h | h <;> simp[h]);exact⟨f3,f1,f4,f5⟩
  . exact⟨hz2,sb.extBut _ _ D.TIz (hk _ _ D.TIz D.TITO D.TIi1 D.TIi2 hTI),⟨_,_,sb.extBut _ _ D.TOz a2⟩,a3.extBut sb.extBut D.i1z,a4.extBut sb.extBut D.i2z⟩
  . intro c hc
    obtain⟨o,e,_⟩:∃ o,s.heap.get? c=some o/\True:=by
     simp only[OM,Pn,Qg]at hc;rcases hc with rfl | rfl | rfl | rfl | rfl
     . exact⟨_,hz,trivial⟩
     . exact⟨_,hTI,trivial⟩
     . exact⟨_,hTO,trivial⟩
     . exact⟨_,e1,trivial⟩
     . exact⟨_,e2,trivial⟩
    rw[ah (lt e)];exact(hf c hc).1
 done:=by
  intro X hP hw hK hc i Ox s σ H E I hf st hg;subst hP hw hK;obtain⟨xs,ys,hq1,hq2,hx⟩:=hg;obtain⟨its1,rv1,p1,hz1⟩:=I.list hq1;obtain⟨its2,rv2,p2,hz2⟩:=I.list hq2;have hl1:=rv1.length;have hl2:=rv2.length;obtain⟨hz,hTI,⟨u,v,hTO⟩,⟨o1,e1,c1,f1⟩,⟨o2,e2,c2,f2⟩⟩:=id st;obtain⟨oa,ea,ca,_⟩:=p1.isList;obtain⟨ob,eb,cb,_⟩:=p2.isList
  have D:ZipApart z TI TO i1 i2 a b:=⟨aR hTI hz rfl rfl (by decide),aR hTO hz rfl rfl (by decide),aR e1 hz c1 rfl (by decide),aR e2 hz c2 rfl (by decide),dT,aR hTI e1 rfl c1 (by decide),aR hTI e2 rfl c2 (by decide),aR hTO e1 rfl c1 (by decide),aR hTO e2 rfl c2 (by decide),d1,
   aR ea hz ca rfl (by decide),aR ea hTO ca rfl (by decide),aR ea e1 ca c1 (by decide),aR ea e2 ca c2 (by decide),aR eb hz cb rfl (by decide),aR eb hTO cb rfl (by decide),aR eb e1 cb c1 (by decide),aR eb e2 cb c2 (by decide)⟩
  have hend:its1.toArray[i]? =none\/its2.toArray[i]? =none:=by
   rcases hx with h | h
   . exact .inl (by simp;omega)
   . exact .inr (by simp;omega)
  refine wpAny_pyNext_zip_end (I.ok.hd hc) D hz hTI hTO ⟨o1,e1,c1,f1⟩ ⟨o2,e2,c2,f2⟩ p1.isList p2.isList hend λh' hk=>⟨rfl,?_⟩
  have kp:∀ c o,c∉[z,TO,i1,i2]->s.heap.get? c=some o->h'.get? c=some o:=λc o hc e=>by
   simp only[OM,Pn,Qg,not_or]at hc;exact hk c o hc.1 hc.2.1 hc.2.2.1 hc.2.2.2 e
  have nH:∀ c∈[z,TO,i1,i2],H c=none:=λc hc=>(hf c (by simp only[OM,Pn,Qg]at hc ⊢;rcases hc with h | h | h | h <;> simp[h])).1;refine I.call' (s':={s with heap:=h'}) (ch:=[z,TO,i1,i2]) rfl ⟨λc o e n _ hx=>kp c o hx e,λc o e n _ hx=>⟨o.slots,kp c o hx e⟩,λc o e n _=>n,λc o e hx=>⟨o,kp c o hx e⟩,λc xs e=>e,λc o u e=>e,λc ps e=>⟨#[],by rw[e];simp⟩⟩ ?_ I.bare ?_
  . intro c ob e;refine(I.hok c ob e).stay (λd w' hd g=>kp d w' ?_ g) (λd g=>g) λd xs g=>g;intro hm;rcases hd with rfl | hd
    . rw[nH _ hm]at e;cases e
    . rw[nH _ hm]at hd;cases hd
  . intro c hc;obtain⟨f0,f1,f2,f3,f4,f5⟩:=hf c (by simp only[OM,Pn,Qg]at hc ⊢;rcases hc with h | h | h | h <;> simp[h]);exact⟨f3,f1,f4,f5⟩
 self:=λ_ _ _ _ _ st h=>wpAny_pyIter_zip st.1 h
def iZip(K:Frag)(ta:TA):TI:=λσ H R=>ta σ H λvs H1=>∃ a b,vs=[.ref a,.ref b]/\(∃ xs,SqL K H1 a xs)/\(∃ ys,SqL K H1 b ys)/\R (Itz K a b) H1
theorem FA:bootBuiltins "zip"=some (.type "zip"):=by decide+kernel
theorem FB{es:List Expr}{x1:Nat}{tpos:Pos}{e1 e2:Expr}{ta:TA}{p pos:Pos}(hg:Gl X "zip")(hm:X.mg "zip"=none)(ha:PA X [e1,e2] ta)(hs:starEach [e1,e2] X.env=[(false,eval e1 X.env),(false,eval e2 X.env)]:=by rfl)(hs2:starEach [e2] X.env=[(false,eval e2 X.env)]:=by rfl):
  PI X (.Tuple es x1 tpos) (.Call (.Name "zip" p) [e1,e2] [] pos) (iZip X.K ta):=by
 intro Ox s σ H R I h;refine Call_ (cW I hg hm FA (Pm (thn (ha pos Ox s σ H _ I h) λus s1 ⟨vs,H1,I1,r1,q1⟩=>?_) (by rw[hs,hs2]) (by rw[hs2];rfl)));obtain⟨a,b,rfl,⟨xs,hq1⟩,⟨ys,hq2⟩,q⟩:=q1;obtain⟨u1,u2,rfl,ru1,ru2⟩:=xJ r1;cases ru1;cases ru2;obtain⟨its1,rv1,p1,hz1⟩:=I1.list hq1;obtain⟨its2,rv2,p2,hz2⟩:=I1.list hq2;refine call_zip_2 p1.isList p2.isList λh' a1 a2 a3 a4 a5 a6 hk=>?_;refine wpAny_pyIter_zip a1 ?_;have I2:Inv X Ox σ H1 {s1 with heap:=h',toks:=s1.toks}:=I1.kept hk;refine⟨s1.heap.objs.size+4,[s1.heap.objs.size+4,s1.heap.objs.size+2,s1.heap.objs.size+3,s1.heap.objs.size,s1.heap.objs.size+1],ZSt a b (s1.heap.objs.size+4) (s1.heap.objs.size+2) (s1.heap.objs.size+3) s1.heap.objs.size (s1.heap.objs.size+1),Itz X.K a b,H1,rfl,I2,C6 a b (s1.heap.objs.size+4) (s1.heap.objs.size+2) (s1.heap.objs.size+3) s1.heap.objs.size (s1.heap.objs.size+1) (λz=>by have:s1.heap.objs.size+2=s1.heap.objs.size+3:=z;omega) (λz=>by have:s1.heap.objs.size=s1.heap.objs.size+1:=z;omega),⟨a1,a2,⟨_,_,a3⟩,a4,a5⟩,λc hc=>?_,q⟩
 have hge:s1.heap.objs.size<=c:=by
  simp only[OM,Pn,Qg]at hc;rcases hc with rfl | rfl | rfl | rfl | rfl <;> omega
 exact I1.fpOk hge (I1.hok.fresh hge)
end
open Builtin Builtin.Str
theorem vp:∀{ts:List Str} {us:List Value},Vals (ts.map V.str) us->∃ l:List (Str × Tok),us=strValues l/\l.map (·.1)=ts
 | [],_,.nil=>⟨[],rfl,rfl⟩
 | t::ts,_,.cons r rs=>by
  obtain⟨l,rfl,e⟩:=vp (ts:=ts) rs;obtain⟨u,rfl⟩:=r;exact⟨(t,u)::l,rfl,by rw[Pr,e]⟩
theorem wH:∀(l:List (Str × Tok)),Vals ((l.map (·.1)).map V.str) (strValues l)
 | []=>.nil
 | (t,u)::l=>.cons ⟨u,rfl⟩ (wH l)
section
variable{X:Cx}
def kFind:V->List V->Hp->VK->Prop
 | .str x,[.str y],H,Q=>Q (.int (Txt.find x y)) H
 | _,_,_,_=>False
def lI:V->List V->Hp->VK->Prop
 | .str x,[.str y],H,Q=>(y.length==0)=false/\x.length<=sizeLine/\(Txt.split x y).length<=sizeLine/\∀ l,H l=none->Q (.ref l) (upd H l (.lst ((Txt.split x y).map V.str)))
 | _,_,_,_=>False
theorem qK:MtR X "str.split" lI:=by
 intro Ox s σ H x vs v us Q I rx rv h;unfold lI at h
 split at h
 . rename_i x y
   obtain⟨t,rfl⟩:=rx;obtain⟨u,rfl,ru⟩:=dh rv;obtain⟨t2,rfl⟩:=ru;obtain⟨hy,hx,hn,q⟩:=h
   have fin:∀(l:List (Str × Tok)) (k:Nat),l.map (·.1)=Txt.split x y->EP X Ox σ Q (.ref s.heap.objs.size) {s with heap:=s.heap.push {cls:=.type "list",data:=.seq (strValues l).toArray},toks:=k}:=λl k e=>by
    refine⟨.ref s.heap.objs.size,_,I.lnew (t':=k) (ys:=(Txt.split x y).map V.str) (OA:=strValues l) ?_ (by rw[OF];exact hn),rfl,q _ I.fresh⟩;rw[← e];exact wH l
   cases h1:(decide (x.length<y.length)||decide (strKind x<strKind y))
   . cases hf:(occurrences x y 0 x.length (x.length+1)).isEmpty
     . have e3:Txt.split x y=partsBetween x (occurrences x y 0 x.length (x.length+1)) y.length:=(O0 (RT h1)).trans (O0 (RT hf));refine QV So (RH _ _ _) Sc (R1 _ _) (meets_str_split_sep x y t t2 h1 hy hf hx (by rw[← e3];exact hn)) ?_;show wants _ _ _ {s with toks:=_,heap:=s.heap.push {cls:=.type "list",data:=.seq (strsFrom s.toks (partsBetween x (occurrences x y 0 x.length (x.length+1)) y.length)).toArray}};rw[strsFrom_eq];exact fin (numbered s.toks _) _ ((numbered_texts _ _).trans e3.symm)
     . exact QV So (RH _ _ _) Sc (R1 _ _) (meets_str_split_not_found x y t t2 h1 hy hf)
        (fin [(x,t)] s.toks ((O0 (RT h1)).trans (O6 hf)).symm)
   . exact QV So (RH _ _ _) Sc (R1 _ _) (meets_str_split_cannot_occur x y t t2 h1)
      (fin [(x,t)] s.toks (O6 h1).symm)
 . exact h.elim
def iS:V->Option Int->Option Int->Hp->VK->Prop
 | .ref p,lo,hi,H,Q=>cSl (.ref p) lo hi H Q
 | .str z,lo,hi,H,Q=>z.length<=sizeLine/\Q (.str (Txt.slice z lo hi)) H
 | _,_,_,_,_=>False
theorem ju:SlR X iS:=by
 intro Ox s σ H x v vl vu lo hi sl Q I rx hs pl pu h
 cases x with
 | ref p=>exact GQ Ox s σ H _ v vl vu lo hi sl Q I rx hs pl pu h
 | str z=>
  obtain⟨hz,q⟩:=(show z.length<=sizeLine/\Q (.str (Txt.slice z lo hi)) H from h);obtain⟨t,rfl⟩:=rx;have fin:∀ t' k,EP X Ox σ Q (.str (Txt.slice z lo hi) t') {s with toks:=k}:=λt' k=>⟨.str _,H,I.tok k,⟨t',rfl⟩,q⟩;refine⟨"str",_,F.slot_str_getitem.lookup,RH _ _ _,?_⟩
  cases pl with
  | none=>
   cases pu with
   | none=>exact QO (l:=none) (u:=none) (st:=none) hs rfl (RP ⟨O7 (SE z _ _) hz,fin⟩)
   | int j tj=>exact QO (l:=none) (u:=some (j,tj)) (st:=none) hs rfl (RP ⟨O7 (SE z _ _) hz,fin⟩)
  | int i ti=>
   cases pu with
   | none=>exact QO (l:=some (i,ti)) (u:=none) (st:=none) hs rfl (RP ⟨O7 (SE z _ _) hz,fin⟩)
   | int j tj=>exact QO (l:=some (i,ti)) (u:=some (j,tj)) (st:=none) hs rfl (RP ⟨O7 (SE z _ _) hz,fin⟩)
 | _=>exact False.elim h
def Its(x:Str):It:=⟨λi _=>i<x.cps.size,λi H v H'=>H'=H/\∃ c,x.cps[i]? =some c/\v=.str ⟨#[c]⟩,λi _=>x.cps.size<=i⟩
theorem ya {P:Program} {w:World} {K:Frag} {tg:Expr} {x:Str} {t:Tok} (it:Addr) (ty:String) (hty:["enumerate","zip","dict_itemiterator","dict_reverseitemiterator","odict_iterator","itertools.zip_longest","itertools.pairwise"].contains ty=false)
  (W:∀ A:Around,A.handled=none->Walks P w A it [it] [it] x.cps.size (SignAt x) (λi h=>h.IsStrIter it ty x t i))
  (slf:∀(A:Around) (i:Nat) (s:Shared) (Q:Value->Shared->Prop) (E:Value->Shared->Prop),s.heap.IsStrIter it ty x t i->Q (.ref it) s->wpAny (model P w) A (pyIter (.ref it)) Q E s):
  Turn P w K tg (Its x) [it] it (λi h=>i<=x.cps.size/\h.IsStrIter it ty x t i) where
 mem:=by simp
 obj:=λi h st b hb=>by
  have e:b=it:=by simpa using hb
  subst e;obtain⟨_,o,e,c,d⟩:=st;exact⟨o,e,λv z=>by rw[d]at z;cases z⟩
 keep:=λi h h' st k=>by
  obtain⟨hi,o,e,c,d⟩:=st;exact⟨hi,o,k it (by simp) o e,c,d⟩
 item:=by
  intro X hP hw hK hc i Ox s σ H E I hf st hg;subst hP hw hK;obtain⟨f0,f1,f2,f3,f4,f5⟩:=hf it (by simp);have hlt:i<x.cps.size:=hg;refine(W X.A (I.ok.hd hc)).item i s _ _ hlt st.2 λv h' tk hv st' kk=>?_;obtain⟨c,u,hcu,rfl⟩:=hv;have I1:Inv X Ox σ H {s with heap:=h',toks:=tk}:=I.turned (λb o hb e=>kk b o (by simpa using hb) e) f0 f1 f3 f4 f5;obtain⟨o,e,c',d⟩:=id st';exact⟨_,rfl,Ar (s:={s with heap:=h',toks:=tk}) e c' d hty ⟨.str ⟨#[c]⟩,H,I1,⟨u,rfl⟩,⟨rfl,c,hcu,rfl⟩,⟨hlt,st'⟩,λb hb=>(hf b hb).1⟩⟩
 done:=by
  intro X hP hw hK hc i Ox s σ H E I hf st hg;subst hP hw hK;obtain⟨f0,f1,f2,f3,f4,f5⟩:=hf it (by simp);have hle:x.cps.size<=i:=hg;have e:i=x.cps.size:=Nat.le_antisymm st.1 hle;subst e;exact(W X.A (I.ok.hd hc)).done s _ _ st.2 λh' tk kk=>⟨rfl,I.turned (λb o hb e=>kk b o (by simpa using hb) e) f0 f1 f3 f4 f5⟩
 self:=λA i s Q E st h=>slf A i s Q E st.2 h
def iStr(tl:TE):TI:=λσ H R=>tl σ H λx H1=>∃ z,x=.str z/\R (Its z) H1
theorem FC{tg l:Expr}{tl:TE}(hl:PE X l tl):PI X tg l (iStr tl):=by
 intro Ox s σ H R I h;refine thn (hl Ox s σ H _ I h) λv s1 ⟨x,H1,I1,r1,q1⟩=>?_;obtain⟨z,rfl,q⟩:=q1;obtain⟨t,rfl⟩:=r1
 have fin:∀ b∈[s1.heap.objs.size],FpOk X Ox H1 b:=λb hb=>by
  have e:b=s1.heap.objs.size:=by simpa using hb
  subst e;exact I1.fpOk (OQ _) (I1.hok.fresh (OQ _))
 cases ha:z.cps.all (· < 128)
 . refine wpAny_pyIter_wide ha ⟨s1.heap.objs.size,[s1.heap.objs.size],_,Its z,H1,rfl,I1.kept (t':=s1.toks) λb o e=>OS _ e,ya (t:=t) _ "str_iterator" (by decide) (λA' hA=>Walks.strWide hA _ z t) (λA i s Q E st hq=>wpAny_pyIter_striter_wide st hq),⟨Py _,_,Pk _ rfl,rfl,rfl⟩,fin,q⟩
 . refine wpAny_pyIter_ascii ha ⟨s1.heap.objs.size,[s1.heap.objs.size],_,Its z,H1,rfl,I1.kept (t':=s1.toks) λb o e=>OS _ e,ya (t:=t) _ "str_ascii_iterator" (by decide) (λA' hA=>Walks.strAscii hA _ z t) (λA i s Q E st hq=>wpAny_pyIter_striter_ascii st hq),⟨Py _,_,Pk _ rfl,rfl,rfl⟩,fin,q⟩
theorem zy {prog:Program} {w:World} {A:Around} {E:Value->Shared->Prop} {s:Shared} {l:Addr} {items:Array Value} {k:Int} {t:Tok} {v:Value} {Q:Unit->Shared->Prop} (hl:s.heap.IsList l items)
  (h0:0<=k) (hfit:k<2^63) (hn:k<items.size)
  (hQ:Q () {s with heap:=s.heap.update l (Obj.mapSeq (·.setIfInBounds k.toNat v))}):
  wpAny (model prog w) A (setItem (.ref l) (.int k t) v) Q E s:=by
 obtain⟨o,ho,hc,ne,hd⟩:=id hl;unfold setItem
 try with_reducible refine QZ ?_
 first | refine OO (Pf ?_) | skip
 refine OO (wpAny_sequenceKey hl.typeIs (by decide) ?_)
 refine OO (wpAny_callSpecial?_slot (name:=Str.ofString "__setitem__") hl.typeIs slot_list_setitem
  (wpAny_call_entry slot_list_setitem hl.typeIs entry_list_setitem ?_ (args_list_setitem _ _ _)))
 show wpAny _ _ (Builtin.List.listSubscript? (.int k t) >>= _) _ _ s;refine OO (wpAny_listSubscript_int (fitsIndex_of h0 hfit) ?_)
 clear hfit
 obtain⟨j,rfl⟩:=Sq h0;have hj:j<items.size:=by omega
 have hx':items[j]? =some items[j]:=Px hj;show wpAny _ _ ((seqItemAt l j >>= λr=>pure (r.map (j,·))) >>= _) _ _ s;refine OO (OO (wpAny_seqItemAt ho hd (Pf ?_)));rw[hx'];show wpAny _ _ (setSeqItemAt l j v >>= _) _ _ s;refine OO (wpAny_setSeqItemAt ho hd ?_)
 first
  | exact OO (Pf (Pf ⟨.none,rfl,Pf hQ⟩))
  | exact Pf ⟨.none,rfl,Pf hQ⟩
theorem yb:∀{xs:List V} {us:List Value} {x:V} {u:Value} (i:Nat),Vals xs us->RelV x u->Vals (xs.set i x) (us.set i u)
 | _,_,_,_,_,.nil,_=>.nil
 | _,_,_,_,0,.cons _ t,r=>.cons r t
 | _,_,_,_,i+1,.cons q t,r=>.cons q (yb i t r)
def cPut:TSet
 | .ref p,y,v,H,Q=>(match unD (H p) with
  | some _=>∃ H',DPut H p y v H'/\Q H'
  | none=>match y with
   | .int i=>bnd (unM (H p)) λxs=>0<=i/\i<xs.length/\Q (upd H p (.lst (xs.set i.toNat v)))
   | _=>False)
 | _,_,_,_,_=>False
theorem DQ(hu:X.A.units+64<cLine):PSet X cPut:=by
 intro Ox s σ H o i v ov iv u Q I ro ri rv h
 cases o with
 | ref p=>
  cases ro;unfold cPut at h;dsimp only at h
  split at h
  . obtain⟨H',g,q⟩:=h;exact Bu (PK (Ro (by decide:1<=64) _) hu) I g ri rv λs' I'=>⟨H',I',q⟩
  . split at h
    . rename_i i
      obtain⟨xs,e,h0,h1,q⟩:=aZ h;obtain⟨t,rfl⟩:=ri;have hH:=gS e;obtain⟨z,OA,n,r,hl,eo⟩:=I.lstM hH;have hs:s.heap.IsList p OA.toArray:=⟨_,eo,rfl,n,rfl⟩;have hz:OA.length<=sizeLine:=by rw[← hl];exact z
      refine zy hs h0 ?_ (by rw[OX,← hl];exact h1) ⟨_,I.lset (t':=s.toks) (ys:=xs.set i.toNat v) (its':=OA.set i.toNat u) hH eo (by simp) (yb _ r rv) (by rw[SQ];exact z),q⟩;have:(sizeLine:Int)<2^63:=by decide
      omega
    . exact h.elim
 | _=>exact False.elim h
end
section
variable{K:Frag}{g:TG}{tb:TS}{D:Ends}{σ:St}{H:Hp}{tl:TE}{ix:List (Option Nat)}{tt:TT}{te ta:TE}{k:Nat}{Q:VK}
theorem kU{r:V->Option Int->Option Int->Hp->VK->Prop}{a b:TO}:tSl r te a b σ H Q=te σ H λx H1=>a σ H1 λl H2=>b σ H2 λu H3=>r x l u H3 Q:=rfl
theorem fG{R:Option Int->Hp->Prop}:tPart te σ H R=te σ H λx H1=>∃ i,x=.int i/\R (some i) H1:=rfl
theorem bZ{R:Option Int->Hp->Prop}:bW σ H R=R none H:=rfl
theorem fH{to ti:TE}{t:TSet}{v:V}{R:St->Hp->Prop}:gSub to ti t v σ H R=to σ H λo H1=>ti σ H1 λi H2=>t o i v H2 λH3=>R σ H3:=rfl
theorem kW{r:V->Hp->VK->Prop}:tUn r te σ H Q=te σ H λx H1=>r x H1 Q:=rfl
theorem fI:tFor (iStr tl) g tb D σ H=tl σ H λx H1=>∃ z,x=.str z/\LoopR (Its z) g tb D σ H1:=rfl
theorem cS:tComp ix (iStr tl) g tt te σ H Q=tl σ H λx H1=>∃ z,x=.str z/\CompR (Its z) g tt te (λl H'=>Q (.ref l) H') (subσ ix σ) H1:=rfl
theorem ce:sComp k ix (iStr tl) g tt te D σ H=tl σ H λx H1=>∃ z,x=.str z/\CompR (Its z) g tt te (λl H'=>D.nx (σ.set k (some (.ref l))) H') (subσ ix σ) H1:=rfl
theorem pX{x:Str}:tyV K "str" (.str x) H:=rfl
theorem iL{i j:Str}:cEq K (.str i) (.str j) H Q=Q (.bl (decide (i=j))) H:=rfl
theorem iM{i j:Str}:cNe K (.str i) (.str j) H Q=Q (.bl (!decide (i=j))) H:=rfl
theorem fJ{z:Str}:kLen [.str z] H Q=(z.length<=sizeLine/\Q (.int z.length) H):=rfl
theorem dM{i j:Str}:cAdd (.str i) (.str j) H Q=(i.length+j.length<=sizeLine/\Q (.str (i++j)) H):=rfl
theorem Gw{z:Str}{i:Int}:cIx (.str z) (.int i) H Q=(z.length<=sizeLine/\bnd (atI z.cps.toList i) λc=>Q (.str ⟨#[c]⟩) H):=rfl
theorem fL{x y:Str}:kFind (.str x) [.str y] H Q=Q (.int (Txt.find x y)) H:=rfl
theorem z6{x y:Str}:lI (.str x) [.str y] H Q=((y.length==0)=false/\x.length<=sizeLine/\(Txt.split x y).length<=sizeLine/\∀ l,H l=none->Q (.ref l) (upd H l (.lst ((Txt.split x y).map V.str)))):=rfl
theorem DR{p:Addr}{i:Int}{v:V}{xs:List V}{R:Hp->Prop}(hp:H p=some (.lst xs))(h0:0<=i)(h1:i<xs.length)(h:R (upd H p (.lst (xs.set i.toNat v)))):cPut (.ref p) (.int i) v H R:=by
 unfold cPut
 try dsimp only
 rw[hp];exact⟨h0,h1,h⟩
theorem ly{p:Addr}{lo hi:Option Int}{xs:List V}(hp:H p=some (.lst xs))(h:∀ l,H l=none->Q (.ref l) (upd H l (.lst (cutV xs lo hi)))):iS (.ref p) lo hi H Q:=by
 show bnd (unL (H p)) _;rw[hp];exact h
end
def cBitI(g:Int->Int->Int):R2
 | .int i,.int j,H,Q=>Q (.int (g i j)) H
 | _,_,_,_=>False
def cShr:R2
 | .int i,.int j,H,Q=>0<=j/\Q (.int (i/2^j.toNat)) H
 | _,_,_,_=>False
section
variable{H:Hp}{Q:VK}{i j:Int}
theorem i9{g:Int->Int->Int}:cBitI g (.int i) (.int j) H Q=Q (.int (g i j)) H:=rfl
theorem lz:cShr (.int i) (.int j) H Q=(0<=j/\Q (.int (i/2^j.toNat)) H):=rfl
end
section
variable{X:Cx}
def kInt:List V->Hp->VK->Prop
 | [.int i],H,Q=>Q (.int i) H
 | [.bl k],H,Q=>Q (.int (if k then 1 else 0)) H
 | _,_,_=>False
def Eo:V->List V->Hp->VK->Prop
 | .int i,[],H,Q=>Q (.int (Builtin.Int.intBits i:Nat)) H
 | _,_,_,_=>False
def cRepL:R2
 | .ref l,.int k,H,Q=>bnd (unM (H l)) λxs=> -(2^63)<=k/\k<2^63/\xs.length*k.toNat<=sizeLine/\∀ p,H p=none->Q (.ref p) (upd H p (.lst (List.replicate k.toNat xs).flatten))
 | _,_,_,_=>False
theorem yc:OpR X (binaryOp .Mult) cRepL:=by
 intro Ox s σ H x y v u Q I rx ry h;unfold cRepL at h
 split at h
 . obtain⟨xs,e,h1,h2,h3,q⟩:=aZ h;exact Fm Ox s σ H _ _ v u Q I rx ry ⟨_,_,xs,rfl,rfl,gS e,h1,h2,h3,q⟩
 . exact h.elim
def kAll:List V->Hp->VK->Prop
 | [.ref p],H,Q=>bnd (unL (H p)) λys=>∃ bs:List Bool,ys=bs.map V.bl/\Q (.bl (bs.all id)) H
 | _,_,_=>False
theorem BG(bs:List Bool):(List.range bs.length).all (λi=>bs.getD i false)=bs.all id:=by
 rw[Pw,Pb,Pb];constructor
 . intro h b hb;obtain⟨i,hi,e⟩:=Qs.mp hb;have:=h i (O5.mpr hi);rw[List.getD,OG hi,e]at this;exact this
 . intro h i hi;have hi':i<bs.length:=O5.mp hi;have:=h bs[i] (Pt hi')
   simpa [List.getD,hi'] using this
theorem yd:bootBuiltins "all"=some (.builtin "all"):=by decide+kernel
theorem FD:bootBuiltins "sum"=some (.builtin "sum"):=by decide+kernel
theorem qL(hc:X.calm=true):CallR X (.builtin "all") kAll:=by
 intro Ox s σ H xs us Q I r h;unfold kAll at h
 split at h
 . rename_i p
   obtain⟨ys,e,bs,rfl,q⟩:=aZ h;obtain⟨u,rfl,ru⟩:=dh r;cases ru;obtain⟨OA,rv,pl,hz⟩:=I.list (pp e);have hl:=rv.length;rw[OF]at hl
   have hlt:p<s.heap.objs.size:=by
    obtain⟨o,h1,_⟩:=pl.isList;exact OZ h1
   refine call_all_walkS (Q9 pl.isList ?_);refine⟨s.heap.objs.size,_,_,_,OA.toArray.size,_,_,λi=>bs.getD i false,rfl,(Tc (A:=X.A.in1) (I.ok.hd hc) s.heap.objs.size p (Po hlt) OA.toArray).toS,⟨⟨_,Pk _ rfl,rfl,rfl⟩,pl.isList.push _⟩,?_,λs' hm=>?_⟩
   . intro i v s1 Q1 E1 hP hQ;have hv:OA[i]? =some v:=by simpa using hP
     obtain⟨x,hx,rx⟩:=rv.get' hv;obtain⟨b,hb,rfl⟩:∃ b,bs[i]? =some b/\V.bl b=x:=by simpa using hx
     cases rx;refine Qv ?_;have e3:bs.getD i false=b:=by simp[List.getD,hb]
     rw[← e3];exact hQ
   . refine⟨.bl _,H,I.walked (l:=p) hm,?_,q⟩;have e2:OA.toArray.size=bs.length:=by rw[OX];exact hl.symm
     rw[e2,BG];rfl
 . exact h.elim
def kSum:List V->Hp->VK->Prop
 | [.ref p],H,Q=>bnd (unL (H p)) λys=>∃ ns:List Int,ys=ns.map V.int/\(∀ x∈ns,0<=x/\x<=1000000)/\ns.length<=1000000/\Q (.int ns.sum) H
 | _,_,_=>False
theorem BH:∀(ns:List Int),(∀ x∈ns,0<=x/\x<=1000000)->0<=ns.sum/\ns.sum<=1000000*ns.length
 | [],_=>by simp
 | n::r,h=>by
  have ih:=BH r λx hx=>h x (OT _ hx);have h1:=h n OV;rw[List.sum_cons,Pq];omega
theorem BI(hc:X.calm=true):CallR X (.builtin "sum") kSum:=by
 intro Ox s σ H xs us Q I r h;unfold kSum at h
 split at h
 . rename_i p
   obtain⟨ys,e,ns,rfl,hb,hn,q⟩:=aZ h;obtain⟨u,rfl,ru⟩:=dh r;cases ru;obtain⟨OA,rv,pl,hz⟩:=I.list (pp e);have hl:=rv.length;rw[OF]at hl
   have hlt:p<s.heap.objs.size:=by
    obtain⟨o,h1,_⟩:=pl.isList;exact OZ h1
   have e2:OA.toArray.size=ns.length:=by rw[OX];exact hl.symm
   refine call_sum_walkS (Q9 pl.isList ?_);refine⟨s.heap.objs.size,_,_,_,OA.toArray.size,_,_,λi=>ns.getD i 0,rfl,(Tc (A:=X.A.in1) (I.ok.hd hc) s.heap.objs.size p (Po hlt) OA.toArray).toS,⟨⟨_,Pk _ rfl,rfl,rfl⟩,pl.isList.push _⟩,?_,?_,?_,λs' t' hm=>?_⟩
   . intro b hb';show b < (s.heap.push _).objs.size;rw[Qr];simp only[OM,Pn,Qg]at hb';rcases hb' with rfl | rfl
     . exact QN _
     . exact Qd hlt
   . intro i v hP;have hv:OA[i]? =some v:=by simpa using hP
     obtain⟨x,hx,rx⟩:=rv.get' hv;obtain⟨b,hb',rfl⟩:∃ b,ns[i]? =some b/\V.int b=x:=by simpa using hx
     obtain⟨t,rfl⟩:=rx;exact⟨t,by simp[List.getD,hb']⟩
   . intro j hj;rw[e2]at hj;refine⟨?_,?_⟩
     . have:=hb ns[j] (Pt hj);have e3:ns.getD j 0=ns[j]:=by simp[List.getD,hj]
       show InLong (ns.getD j 0);rw[e3];exact⟨by omega,by omega⟩
     . rw[preSum_getD];have h1:=BH (ns.take (j+1)) λx hx=>hb x (QG hx);have h2:(ns.take (j+1)).length<=ns.length:=by rw[PV];omega
       exact⟨by omega,by omega⟩
   . refine⟨.int ns.sum,H,I.walked (l:=p) hm,⟨t',?_⟩,q⟩;rw[e2,preSum_getD,Rn]
 . exact h.elim
def Itd(hi:Int)(n:Nat):It:=⟨λi _=>i<n,λi H x H'=>H'=H/\x=.int (hi-i),λi _=>n<=i⟩
def iRngD(ta:TA):TI:=λσ H R=>ta σ H λvs H1=>∃ i j:Int,vs=[.int i,.int j,.int (-1)]/\(-(2^60)<=i/\i<2^60/\ -(2^60)<=j/\j<2^60)/\R (Itd i (i-j).toNat) H1
end
section
variable{K:Frag}{g:TG}{tb:TS}{D:Ends}{σ:St}{H:Hp}{ta:TA}{Q:VK}
theorem jb{k:Bool}:kInt [.bl k] H Q=Q (.int (if k then 1 else 0)) H:=rfl
theorem jd{i:Int}:kInt [.int i] H Q=Q (.int i) H:=rfl
theorem dW{i:Int}:Eo (.int i) [] H Q=Q (.int (Builtin.Int.intBits i:Nat)) H:=rfl
theorem AG{p:Addr}{bs:List Bool}(hp:H p=some (.lst (bs.map V.bl)))(h:Q (.bl (bs.all id)) H):kAll [.ref p] H Q:=by
 show bnd (unL (H p)) _;rw[hp];exact cH (a:=bs.map V.bl) rfl ⟨bs,rfl,h⟩
theorem Gx{p:Addr}{ns:List Int}(hp:H p=some (.lst (ns.map V.int)))(hb:∀ x∈ns,0<=x/\x<=1000000)(hn:ns.length<=1000000)(h:Q (.int ns.sum) H):kSum [.ref p] H Q:=by
 show bnd (unL (H p)) _;rw[hp];exact cH (a:=ns.map V.int) rfl ⟨ns,rfl,hb,hn,h⟩
theorem BJ{p:Addr}{xs:List V}{k:Int}(hp:H p=some (.lst xs))(h0:0<=k)(h1:k<=1000)(hn:xs.length<=1)(h:∀ l,H l=none->Q (.ref l) (upd H l (.lst (List.replicate k.toNat xs).flatten))):cRepL (.ref p) (.int k) H Q:=by
 show bnd (unM (H p)) _;rw[hp];refine cH (a:=xs) rfl ⟨by omega,by omega,?_,h⟩;refine PD (aE (O7 (RM _ hn) ?_));omega
theorem gB:tFor (iRngD ta) g tb D σ H=ta σ H λvs H1=>∃ i j:Int,vs=[.int i,.int j,.int (-1)]/\(-(2^60)<=i/\i<2^60/\ -(2^60)<=j/\j<2^60)/\LoopR (Itd i (i-j).toNat) g tb D σ H1:=rfl
end
section
variable{X:Cx}
def Ite(K:Frag)(a:Addr):It:=
 ⟨λi H=>∃ xs x,SqL K H a xs/\xs[i]? =some x,
  λi H v H'=>∃ T x,v=.ref T/\H T=none/\H'=upd H T (.tup [.int i,x])/\∀ xs,SqL K H a xs->xs[i]? =some x,
  λi H=>∃ xs,SqL K H a xs/\xs.length<=i⟩
def ESt(a e it:Addr)(i:Nat)(h:Heap):Prop:=(∃ old,IsEnum h e it i old)/\h.IsListIter it a i
theorem BK{P:Program}{w:World}{K:Frag}{es:List Expr}{x1:Nat}{pos:Pos}(a e it:Addr):
  Turn P w K (.Tuple es x1 pos) (Ite K a) [e,it] e (ESt a e it) where
 mem:=by simp
 obj:=λi h st c hc=>by
  obtain⟨⟨old,he⟩,⟨o1,e1,c1,f1⟩⟩:=st;simp only[OM,Pn,Qg]at hc;rcases hc with rfl | rfl
  . exact⟨_,he,λv z=>by have z':Data.fields _=Data.cell v:=z;cases z'⟩
  . exact⟨_,e1,λv z=>by rw[f1]at z;cases z⟩
 keep:=λi h h' st k=>by
  obtain⟨⟨old,he⟩,h1⟩:=st;exact⟨⟨old,k e (by simp) _ he⟩,h1.at λo q=>k it (by simp) o q⟩
 item:=by
  intro X hP hw hK hc i Ox s σ H E I hf st hg;subst hP hw hK;obtain⟨xs,x,hq1,hx⟩:=hg;obtain⟨its1,rv1,p1,hz1⟩:=I.list hq1;obtain⟨u1,hu1,ru1⟩:=rv1.get hx;obtain⟨⟨old,he⟩,⟨o1,e1,c1,f1⟩⟩:=id st;have hne:e≠it:=aR he e1 rfl c1 (by decide);refine wpAny_pyNext_enum_item he ⟨o1,e1,c1,f1⟩ p1.isList (x:=u1) (by simpa using hu1) hne λh' a1 a2 a3 a4 hk=>?_;refine⟨_,rfl,wpAny_letOwnedTupleGo_enum a1 λh2 hz2 sb=>?_⟩;have hT:H s.heap.objs.size=none:=I.fresh;have lt:∀{c o},s.heap.get? c=some o->c≠s.heap.objs.size:=λe=>Po (OZ e)
  have kp:∀ c o,c∉[e,it]->s.heap.get? c=some o->h2.get? c=some o:=λc o hc q=>by
   simp only[OM,Pn,Qg,not_or]at hc;exact sb.extBut _ _ hc.1 (hk c o hc.1 hc.2 q)
  have hTe:s.heap.objs.size≠e:=(lt he).symm;have gT:h2.get? s.heap.objs.size=some {cls:=.type "tuple",data:=.seq #[.int i s.toks,u1]}:=sb.extBut _ _ hTe a3;have nH:∀ c∈[e,it],H c=none:=λc hc=>(hf c hc).1;refine⟨.ref s.heap.objs.size,upd H s.heap.objs.size (.tup [.int i,x]),I.call' (s':={s with heap:=h2,toks:=s.toks+1}) (ch:=[e,it]) rfl ⟨λc o e n _ hx=>kp c o hx e,λc o e n _ hx=>⟨o.slots,kp c o hx e⟩,λc o e n _=>by rw[ah (lt e)];exact n,λc o e hx=>⟨o,kp c o hx e⟩,λc xs e=>by rw[ah (ar e hT)];exact e,λc o u e=>by rw[ah (ar e hT)];exact e,λc ps e=>⟨#[],by rw[ah (ar e hT),e];simp⟩⟩ ?_ I.bare ?_,rfl,⟨_,x,rfl,hT,rfl,λzs hz'=>by rw[I.list_inj hz' hq1];exact hx⟩,?_,?_⟩
  . intro c ob e;by_cases hb:c=s.heap.objs.size
    . subst hb;rw[ag]at e;cases e;exact⟨by show(2:Nat)<=sizeLine;exact PD (aE (by decide)),[.int i s.toks,u1],.cons ⟨_,rfl⟩ (.cons ru1 .nil),⟨_,gT,rfl,_,rfl⟩⟩
    . rw[ah hb]at e;refine(I.hok c ob e).stay (λd w' hd g=>kp d w' ?_ g) (λd g=>by rw[ah (ar g hT)];exact g) λd xs g=>by rw[ah (ar g hT)];exact g
      intro hm;rcases hd with rfl | hd
      . rw[nH _ hm]at e;cases e
      . rw[nH _ hm]at hd;cases hd
  . intro c hc;obtain⟨f0,f1,f2,f3,f4,f5⟩:=hf c hc;exact⟨f3,f1,f4,f5⟩
  . exact⟨⟨_,hz2⟩,a2.extBut sb.extBut hne.symm⟩
  . intro c hc
    obtain⟨o,q⟩:∃ o,s.heap.get? c=some o:=by
     simp only[OM,Pn,Qg]at hc;rcases hc with rfl | rfl
     . exact⟨_,he⟩
     . exact⟨_,e1⟩
    rw[ah (lt q)];exact(hf c hc).1
 done:=by
  intro X hP hw hK hc i Ox s σ H E I hf st hg;subst hP hw hK;obtain⟨xs,hq1,hx⟩:=hg;obtain⟨its1,rv1,p1,hz1⟩:=I.list hq1;have hl1:=rv1.length;obtain⟨⟨old,he⟩,⟨o1,e1,c1,f1⟩⟩:=id st;have hend:its1.toArray[i]? =none:=by simp;omega
  obtain⟨f0,f1',f2,f3,f4,f5⟩:=hf it (by simp);exact wpAny_pyNext_enum_end (I.ok.hd hc) he ⟨o1,e1,c1,f1⟩ p1.isList hend λh' eb=>⟨rfl,I.turned (t':=s.toks) (λb o hb e=>eb b o hb e) f0 f1' f3 f4 f5⟩
 self:=λ_ _ _ _ _ st h=>by
  obtain⟨⟨old,he⟩,_⟩:=st;exact wpAny_pyIter_enum he h
def iEnum(K:Frag)(ta:TA):TI:=λσ H R=>ta σ H λvs H1=>∃ a,vs=[.ref a]/\(∃ xs,SqL K H1 a xs)/\R (Ite K a) H1
theorem ye:bootBuiltins "enumerate"=some (.type "enumerate"):=by decide+kernel
theorem z7{es:List Expr}{x1:Nat}{tpos:Pos}{e1:Expr}{ta:TA}{p pos:Pos}(hg:Gl X "enumerate")(hm:X.mg "enumerate"=none)(ha:PA X [e1] ta)(hs:starEach [e1] X.env=[(false,eval e1 X.env)]:=by rfl):
  PI X (.Tuple es x1 tpos) (.Call (.Name "enumerate" p) [e1] [] pos) (iEnum X.K ta):=by
 intro Ox s σ H R I h;refine Call_ (cW I hg hm ye (Pm (thn (ha pos Ox s σ H _ I h) λus s1 ⟨vs,H1,I1,r1,q1⟩=>?_) hs rfl));obtain⟨a,rfl,⟨xs,hq1⟩,q⟩:=q1;obtain⟨u1,rfl,ru1⟩:=dh r1;cases ru1;obtain⟨its1,rv1,p1,hz1⟩:=I1.list hq1;refine call_enumerate_list p1.isList λh' a1 a2 a3 hk=>?_;refine wpAny_pyIter_enum a1 ?_;have I2:Inv X Ox σ H1 {s1 with heap:=h',toks:=s1.toks}:=I1.kept hk;refine⟨s1.heap.objs.size+1,[s1.heap.objs.size+1,s1.heap.objs.size],ESt a (s1.heap.objs.size+1) s1.heap.objs.size,Ite X.K a,H1,rfl,I2,BK a (s1.heap.objs.size+1) s1.heap.objs.size,⟨⟨_,a1⟩,a2⟩,λc hc=>?_,q⟩
 have hge:s1.heap.objs.size<=c:=by
  simp only[OM,Pn,Qg]at hc;rcases hc with rfl | rfl <;> omega
 exact I1.fpOk hge (I1.hok.fresh hge)
end
section
variable{K:Frag}{g:TG}{tb:TS}{D:Ends}{σ:St}{H:Hp}{ta:TA}{Q:VK}{ix:List (Option Nat)}{tt:TT}{te:TE}{k:Nat}
theorem je:tFor (iEnum K ta) g tb D σ H=ta σ H λvs H1=>∃ a,vs=[.ref a]/\(∃ xs,SqL K H1 a xs)/\LoopR (Ite K a) g tb D σ H1:=rfl
theorem gC:tComp ix (iEnum K ta) g tt te σ H Q=ta σ H λvs H1=>∃ a,vs=[.ref a]/\(∃ xs,SqL K H1 a xs)/\CompR (Ite K a) g tt te (λl H'=>Q (.ref l) H') (subσ ix σ) H1:=rfl
theorem dX:sComp k ix (iEnum K ta) g tt te D σ H=ta σ H λvs H1=>∃ a,vs=[.ref a]/\(∃ xs,SqL K H1 a xs)/\CompR (Ite K a) g tt te (λl H'=>D.nx (σ.set k (some (.ref l))) H') (subσ ix σ) H1:=rfl
theorem BL {a:Addr} {xs:List V} {fin:Addr->Hp->Prop} {σ0:St} {H1:Hp} (Pv:Addr->Nat->St->Hp->Prop) (h0:∀ l,H1 l=none->Pv l 0 σ0 (upd H1 l (.lst []))) (hq:∀ l i σ H,H1 l=none->i<=xs.length->Pv l i σ H->SqL K H a xs)
  (hs:∀ l i x T σ H,H1 l=none->xs[i]? =some x->Pv l i σ H->H T=none->g (.ref T) σ (upd H T (.tup [.int i,x])) λσ2 H3=>tt σ2 H3 λb H4=>if b=true then te σ2 H4 λy H5=>∃ ys,H5 l=some (.lst ys)/\ys.length<sizeLine/\Pv l (i+1) σ2 (upd H5 l (.lst (ys++[y]))) else Pv l (i+1) σ2 H4)
  (hd:∀ l σ H,H1 l=none->Pv l xs.length σ H->fin l H):CompR (Ite K a) g tt te fin σ0 H1:=by
 intro l hl0;refine⟨λi m σ H=>m=xs.length-i/\i<=xs.length/\Pv l i σ H,⟨xs.length,by simp,Py _,h0 l hl0⟩,?_⟩;rintro i m σ H ⟨rfl,hi,p⟩;have q:=hq l i σ H hl0 hi p;by_cases hlt:i<xs.length
 . refine .inr ⟨⟨xs,xs[i],q,by simp[hlt]⟩,Pv l (i+1),λσ' H' p'=>⟨xs.length - (i+1),by omega,rfl,hlt,p'⟩,λv H' y=>?_⟩;obtain⟨T,x,rfl,hT,rfl,e⟩:=y;exact hs l i x T σ _ hl0 (e xs q) p hT
 . have e:i=xs.length:=by omega
   subst e;exact .inl ⟨⟨xs,q,OQ _⟩,hd l σ H hl0 p⟩
theorem uk {a:Addr} {xs:List V} {fin:Addr->Hp->Prop} {σ0:St} {H1:Hp} {k1 k2:Nat} (b:Nat->Bool) (f:Nat->V) (hn:xs.length<=900) (hne:k1≠k2) (hq:SqL K H1 a xs)
  (ht:∀(i:Nat) x H R,xs[i]? =some x->Same H1 H->(∀ H',Same H H'->R (b i) H')->tt ((σ0.set k1 (some (.int (i:Int)))).set k2 (some x)) H R)
  (he:∀(i:Nat) x H Q,xs[i]? =some x->b i=true->Same H1 H->(∀ H',Same H H'->Q (f i) H')->te ((σ0.set k1 (some (.int (i:Int)))).set k2 (some x)) H Q)
  (hd:∀ l H,H1 l=none->Same H1 H->H l=some (.lst (((List.range xs.length).filter b).map f))->fin l H):
  CompR (Ite K a) (gTup K 2 (gCons (gName k1) (gCons (gName k2) gNil))) tt te fin σ0 H1:=by
 refine BL (xs:=xs) (λl i σ H=>(σ=σ0\/∃ c1 c2,σ=(σ0.set k1 c1).set k2 c2)/\Same H1 H/\H l=some (.lst (((List.range i).filter b).map f))) (λl hl=>⟨.inl rfl,λb u e=>by rw[ah (ar e hl)];exact e,by rw[ag];rfl⟩) (λl i σ H _ _ p=>p.2.1.seq hq) ?_ (λl σ H hl p=>hd l H hl p.2.1 p.2.2);rintro l i x T σ H hl hx ⟨hσ,s1,el⟩ hT;have hi:i<xs.length:=(OK.mp hx).1;have sT:Same H (upd H T (.tup [.int i,x])):=λb u e=>by rw[ah (ar e hT)];exact e
 refine⟨T,_,rfl,SqT.of ag,rfl,_,_,rfl,_,_,rfl,rfl,?_⟩
 have e:(σ.set k1 (some (.int i))).set k2 (some x)=(σ0.set k1 (some (.int i))).set k2 (some x):=by
  rcases hσ with rfl | ⟨c1,c2,rfl⟩
  . rfl
  . rw[List.set_comm _ _ (Rk hne),Qy,Qy,List.set_comm _ _ hne]
 show tt ((σ.set k1 (some (.int i))).set k2 (some x)) _ _;rw[e];refine ht i x _ _ hx (s1.trans sT) λH2 s2=>?_;have el2:=s2 _ _ (sT _ _ el);have s12:=(s1.trans sT).trans s2;have own:∀{H3:Hp} {o:HO},Same H1 H3->Same H1 (upd H3 l o):=λs b u e=>by rw[ah (ar e hl)];exact s b u e
 have OC:∀ i,i<=900->(((List.range i).filter b).map f).length<sizeLine:=λi hi=>by
  rw[OF];refine aE (O7 (Qe b _) ?_);rw[PY];omega
 cases hb:b i with
 | false=>
  rw[O0 OI];refine⟨.inr ⟨_,_,rfl⟩,s12,?_⟩;rw[PP,Ps,Pz,hb]
  simpa using el2
 | true=>
  rw[O6 rfl];refine he i x H2 _ hx hb s12 λH3 s3=>⟨_,s3 _ _ el2,OC i (by omega),.inr ⟨_,_,rfl⟩,own (s12.trans s3),?_⟩;rw[ag,PP,Ps,Pz,hb];simp
end
theorem BM:typeLookup (.type "list_reverseiterator") "__len__"=pure none:=by rw[Rs,QE];kernel_rfl
theorem C7:typeLookup (.type "list_reverseiterator") "__length_hint__"=pure (some (.builtin "list_reverseiterator.__length_hint__")):=by rw[Rs,QE];kernel_rfl
section
variable{prog:Program}{w:World}{A:Around}{E:Value->Shared->Prop}{s:Shared}{R:Result->Shared->Prop}
abbrev RevSt(items:Array Value)(I l:Addr)(i:Nat)(s:Shared):Prop:=i<=items.size/\s.heap.IsRevIter I l ((items.size:Int)-1 - (i:Int))/\s.heap.IsList l items
theorem C8(hh:A.handled=none)(I l:Addr)(hne:l≠I)(items:Array Value):
  WalksS prog w A I [I,l] [I] (λa b=>a=b) items.size (λi v=>items[items.size-1-i]? =some v) (RevSt items I l) where
 sub:=λb hb=>by simp at hb;simp[hb]
 grefl:=λ_=>rfl
 gtrans:=λ_ _ _ e e'=>e.trans e'
 frame:=λ_ _ _ _ x _ hk=>⟨x.1,x.2.1.at λo e=>hk I (by simp) o e,x.2.2.at λo e=>hk l (by simp) o e⟩
 item:=λi s Q E hi x hQ=>by
  have e:(items.size:Int)-1 - (i:Int)=((items.size-1-i:Nat):Int):=by omega
  have OE:=x.2.1;rw[e]at OE;have hx:items[items.size-1-i]? =some (items[items.size-1-i]'(by omega)):=Px (by omega);refine wpAny_pyNext_rev_item OE x.2.2 hx λh' hit' hs'=>?_;have e2:((items.size-1-i:Nat):Int)-1=(items.size:Int)-1 - ((i+1:Nat):Int):=by omega
  rw[e2]at hit';exact hQ _ _ hx ⟨hi,hit',x.2.2.at λo eo=>(hs'.2 l hne).trans eo⟩ ⟨λb o hb eo=>hs'.extBut b o (λh=>hb (by simp[h])) eo,rfl,rfl,rfl,OQ _⟩
 done:=λs Q E x hQ=>by
  have e:(items.size:Int)-1 - (items.size:Int)= -1:=by omega
  have OE:=x.2.1;rw[e]at OE;exact wpAny_pyNext_rev_end hh OE λh' he'=>hQ _ ⟨λb o hb eo=>he' b o (λh=>hb (by simp[h])) eo,rfl,rfl,rfl,OQ _⟩
 self:=λ_ _ _ _ x hQ=>wpAny_pyIter_revIter x.2.1 hQ
variable{I:Addr}{fp wr:List Addr}{G:Array GenState->Array GenState->Prop}{n:Nat}{P:Nat->Value->Prop}{St:Nat->Shared->Prop}
theorem AH (W:WalksS prog w A.in1 I fp wr G n P St) (hT:∀ i s,St i s->s.TypeIs (.ref I) "list_reverseiterator") (S:Addr) (res:Value) (c₀:Nat) (hst:St 0 s) (hSf:S∉fp) (hI:I∈fp)
  (hS:s.heap.get? S=some {cls:=.type "list",data:=.seq #[] c₀})
  (hR:∀ s' acc' c',Moved (S::wr) G s s'->s'.heap.get? S=some {cls:=.type "list",dict:=none,data:=.seq acc' c',slots:=#[]}->ItemsOf P acc' n->R (.ok (.ret res)) s') (hn:n<=sizeLine):
  wpAny (model prog w) A.in1 (Builtin.List.listExtendWith (.ref S) (.ref I) res)
   (λfin s'=>match fin with | .done f=>R (.ok f) s' | .again c'=>c'.quiet=true/\codeAny (model prog w) A c' R s') (λe s'=>R (.error e) s') s:=by
 have hSI:S≠I:=λe=>hSf (e ▸ hI);have h1:Builtin.List.listSameRef (.ref S) (.ref I)=false:=by simp[Builtin.List.listSameRef,hSI]
 unfold Builtin.List.listExtendWith;refine OO (wpAny_typeOf (hT 0 _ hst) ?_);rw[O0 (by rw[h1];decide)];refine OO (W.self 0 _ _ _ hst ?_);refine OO (QZ ?_);unfold Builtin.List.listLengthHint;refine OO (wpAny_specialOf (hT 0 _ hst) BM ?_);show wpAny _ A.in1 (specialOf (Value.ref I) (Str.ofString "__length_hint__") >>= _) _ _ _;refine OO (wpAny_specialOf (hT 0 _ hst) C7 ?_)
 (generalize hid:("list_reverseiterator.__length_hint__":String)=id0;(fail_if_success (clear hid id0));wp_delta;rw[show splitId id0=some ("list_reverseiterator","__length_hint__") from by subst hid;decide+kernel];subst hid)
 refine OO (wpAny_isInstance (b:=true) (hT 0 _ hst) (by rw[isSubtype_type];kernel_rfl) ?_);refine Pf ?_;rw[O0 (by decide)];refine Pf ⟨Q0 F.plain_extend_loop _,codeAny_extend_loopS W hn _ hSf _ n 0 _ _ _ rfl (Py _) hst hS (ItemsOf.nil P) λs' acc' c' hm hS' hacc=>?_⟩;exact hR s' acc' c' hm hS' hacc
theorem wX (W:WalksS prog w A.in1 I fp wr G n P St) (hT:∀ i s,St i s->s.TypeIs (.ref I) "list_reverseiterator") (S:Addr) (hst:St 0 s) (hSf:S∉fp) (hI:I∈fp)
  (hS:s.heap.get? S=some {cls:=.type "list",data:=.seq #[]})
  (hR:∀ s' acc' c',Moved (S::wr) G s s'->s'.heap.get? S=some {cls:=.type "list",dict:=none,data:=.seq acc' c',slots:=#[]}->ItemsOf P acc' n->R (.ok (.ret .none)) s') (hn:n<=sizeLine):
  wpAny (model prog w) A.in1 (Builtin.«list.__init__» ⟨[.ref S,.ref I],[]⟩)
   (λfin s'=>match fin with | .done f=>R (.ok f) s' | .again c'=>c'.quiet=true/\codeAny (model prog w) A c' R s') (λe s'=>R (.error e) s') s:=by
 show wpAny _ A.in1 (do let old ← Builtin.List.listItems (.ref S);Builtin.List.listUpdate (.ref S) (λ_=>#[]);letGo old.toList.reverse;Builtin.List.listExtendWith (.ref S) (.ref I) .none) _ _ s;refine OO ?_;unfold Builtin.List.listItems;refine OO (R5 hS rfl (Pf ?_));show wpAny _ A.in1 (updateSeq S (λ_=>#[]) >>= λ_=>letGo (#[]:Array Value).toList.reverse >>= λ_=>Builtin.List.listExtendWith (.ref S) (.ref I) .none) _ _ s;refine OO (RQ hS rfl ?_);have hS₂:=Q6 (Obj.mapSeq (λ_=>(#[]:Array Value))) hS rfl
 have oth:∀ b o,b≠S->s.heap.get? b=some o->(s.heap.update S (Obj.mapSeq (λ_=>(#[]:Array Value)))).get? b=some o:=
  λb o hb e=>(PH _ _ (Rk hb)).trans e
 refine OO (Sd ?_);refine AH (hn:=hn) W hT S .none _ (W.frame 0 s _ s.toks hst (OQ _) λb hb o e=>oth b o (λh=>hSf (h ▸ hb)) e) hSf hI hS₂ λs' acc' c' hm hS' hacc=>?_;exact hR s' acc' c' (Moved.trans W.gtrans ((Moved.refl W.grefl).then_heap (OQ _) λb o hb e=>oth b o (λh=>hb (h ▸ OV)) e) hm) hS' hacc
theorem wY {Q:Value->Shared->Prop} (W:WalksS prog w A.in1.in1 I fp wr G n P St) (hT:∀ i s,St i s->s.TypeIs (.ref I) "list_reverseiterator") (hst:St 0 s) (hfp:∀ b∈fp,b<s.heap.objs.size) (hI:I∈fp)
  (hQ:∀ s' acc' c',Moved (s.heap.objs.size::wr) G {s with heap:=s.heap.push {cls:=.type "list",data:=.seq #[]}} s'->
   s'.heap.get? s.heap.objs.size=some {cls:=.type "list",dict:=none,data:=.seq acc' c',slots:=#[]}->ItemsOf P acc' n->Q (.ref s.heap.objs.size) s') (hn:n<=sizeLine):
  wpAny (model prog w) A (call (.type "list") [.ref I]) Q E s:=by
 have hSf:s.heap.objs.size∉fp:=λhm=>P3 _ (hfp _ hm)
 refine callType_codes (Q₁:=λobj s₁=>obj=.ref s.heap.objs.size/\s₁={s with heap:=s.heap.push {cls:=.type "list",data:=.seq #[]}}) F.called_list (F.typeCall_list_1 _) F.entry_list_init
  (code_list_new _ ⟨rfl,rfl⟩) λobj s₁ h₁=>?_
 obtain⟨rfl,rfl⟩:=h₁;have hS:(s.heap.push {cls:=.type "list",data:=.seq #[]}).get? s.heap.objs.size=some {cls:=.type "list",data:=.seq #[]}:=Pk _ rfl;refine⟨⟨_,hS,rfl⟩,F.args_list_init_2 _ _,wX (hn:=hn) W hT _ (W.frame 0 s _ s.toks hst (OQ _) λb _ o e=>OS _ e) hSf hI hS λs' acc' c' hm hS' hacc=>?_⟩;exact⟨rfl,hQ s' acc' c' hm hS' hacc⟩
end
def tu(te:TE):TE:=λσ H Q=>te σ H λx H1=>∃ p ys,x=.ref p/\H1 p=some (.lst ys)/\∀ l,H1 l=none->Q (.ref l) (upd H1 l (.lst ys.reverse))
theorem BN{te:TE}{σ:St}{H:Hp}{Q:VK}:tu te σ H Q=te σ H λx H1=>∃ p ys,x=.ref p/\H1 p=some (.lst ys)/\∀ l,H1 l=none->Q (.ref l) (upd H1 l (.lst ys.reverse)):=rfl
theorem C9{ys:List V}{OA:List Value}{acc:Array Value}(r:Vals ys OA)(h:ItemsOf (λi v=>OA.toArray[OA.toArray.size-1-i]? =some v) acc OA.toArray.size):Vals ys.reverse acc.toList:=by
 have e:acc.toList=OA.reverse:=by
  refine Qi λi=>?_;by_cases hi:i<OA.length
  . have hsz:acc.size=OA.length:=by simpa using h.1
    have h1:acc[i]? =some (acc[i]'(by omega)):=Px (by omega);have h2:=h.2 i _ h1;simp only[OX,List.getElem?_toArray]at h2;rw[List.getElem?_reverse hi,h2]
    simpa using h1
  . have hsz:acc.size=OA.length:=by simpa using h.1
    rw[Ph (by simpa using(by omega:acc.size<=i)),Ph (by simpa using hi)]
 rw[e];exact r.reverse
theorem AI {X:Cx} {e:Expr} {te:TE} {p p2 pos pos2:Pos} (hc:X.calm=true) (hgl:Gl X "list") (hgr:Gl X "reversed") (hl:X.mg "list"=none) (hr:X.mg "reversed"=none) (he:PE X e te)
  (hs1:starEach [.Call (.Name "reversed" p2) [e] [] pos2] X.env=[(false,eval (.Call (.Name "reversed" p2) [e] [] pos2) X.env)]:=by rfl) (hs2:starEach [e] X.env=[(false,eval e X.env)]:=by rfl):
  PE X (.Call (.Name "list" p) [.Call (.Name "reversed" p2) [e] [] pos2] [] pos) (tu te):=by
 intro Ox s σ H Q I h;refine PU (cW I hgl hl gA ?_ (by decide) (by decide));refine Pm ?_ hs1 rfl;rw[hs1];show wpAny _ _ (spliced [(false,eval (.Call (.Name "reversed" p2) [e] [] pos2) X.env)]) _ _ s;refine P7 ?_;refine PU (cW I hgr hr zx ?_ (by decide) (by decide));refine Pm ?_ hs2 rfl;rw[hs2];show wpAny _ _ (spliced [(false,eval e X.env)]) _ _ s;refine P7 (thn (he Ox s σ H _ I h) λu s1 ⟨x,H1,I1,r1,q1⟩=>?_);refine Qh ?_;obtain⟨l,ys,rfl,hys,q⟩:=q1;cases r1;obtain⟨OA,n,rv,ho,hz⟩:=I1.lst hys;have hL:s1.heap.IsList l OA.toArray:=⟨_,ho,rfl,n,rfl⟩;have OC:=rv.length;refine call_reversed_list hL ?_;refine Qh ?_;have I2:Inv X Ox σ H1 {s1 with heap:=s1.heap.push (revObj l ((OA.toArray.size:Int)-1)),toks:=s1.toks}:=I1.kept λb u e=>OS _ e;have hlt:l<s1.heap.objs.size:=OZ ho;have hne:l≠s1.heap.objs.size:=Po hlt;have hsz:(s1.heap.push (revObj l ((OA.toArray.size:Int)-1))).objs.size=s1.heap.objs.size+1:=Qr ..;have hrev:(s1.heap.push (revObj l ((OA.toArray.size:Int)-1))).IsRevIter s1.heap.objs.size l ((OA.toArray.size:Int)-1 - ((0:Nat):Int)):=⟨_,Pk _ rfl,rfl,by simp[revObj]⟩;refine wY (C8 (A:=X.A.in1.in1) (I.ok.hd hc) s1.heap.objs.size l hne OA.toArray) (λi s st=>st.2.1.typeIs) (s:={s1 with heap:=s1.heap.push (revObj l ((OA.toArray.size:Int)-1))}) ⟨Py _,hrev,hL.at λo e=>OS _ e⟩ (λb hb=>?_) (by simp) (λs' acc' c' hm hS' hacc=>?_) (by rw[OX];omega)
 . show b < (s1.heap.push (revObj l ((OA.toArray.size:Int)-1))).objs.size;rw[hsz];simp only[OM,Pn,Qg]at hb;rcases hb with rfl | rfl
   . exact QN _
   . exact Qd hlt
 . have e0:({s1 with heap:=s1.heap.push (revObj l ((OA.toArray.size:Int)-1))}:Shared).heap.objs.size=s1.heap.objs.size+1:=hsz;rw[e0]at hm hS' ⊢
   have old:∀ b o,b≠s1.heap.objs.size->(s1.heap.push (revObj l ((OA.toArray.size:Int)-1))).get? b=some o->s'.heap.get? b=some o:=λb o hb e=>hm.heap b o (λhh=>by
    simp only[OM,Pn,Qg]at hh;rcases hh with rfl | rfl
    . exact absurd (OZ e) (by rw[hsz];exact P3 _)
    . exact hb rfl) (OS _ e)
   have hf1:H1 s1.heap.objs.size=none:=I1.hok.fresh (OQ _);have hf2:H1 (s1.heap.objs.size+1)=none:=I1.hok.fresh (Qz _);have ltb:∀ b o,(s1.heap.push (revObj l ((OA.toArray.size:Int)-1))).get? b=some o->b≠s1.heap.objs.size+1:=λb o e=>Po (by have:=OZ e;rw[hsz]at this;exact this);refine⟨.ref (s1.heap.objs.size+1),upd H1 (s1.heap.objs.size+1) (.lst ys.reverse),I2.call' (ch:=[s1.heap.objs.size]) hm.os ⟨λb o e n hb hx=>?_,λb o e n hb hx=>?_,λb o e n hx=>?_,λb o e hx=>?_,λb xs e=>?_,λb o u e=>?_,λb ps e=>?_⟩ ?_ ?_ ?_,rfl,q _ hf2⟩
   . exact old b o (λz=>hx (by simp[z])) e
   . exact⟨o.slots,old b o (λz=>hx (by simp[z])) e⟩
   . rw[ah (ltb b o e)];exact n
   . exact⟨o,old b o (λz=>hx (by simp[z])) e⟩
   . rw[ah (ar e hf2)];exact e
   . rw[ah (ar e hf2)];exact e
   . exact⟨#[],by rw[ah (ar e hf2),e];simp⟩
   . intro b ob e;by_cases hb:b=s1.heap.objs.size+1
     . subst hb;rw[ag]at e;cases e;exact⟨by rw[List.length_reverse];omega,acc'.toList,c',C9 rv hacc,by rw[hS']⟩
     . rw[ah hb]at e;refine(I2.hok b ob e).stay (λc w' hcc g=>old c w' ?_ g) (λc g=>by rw[ah (ar g hf2)];exact g) λc xs g=>by rw[ah (ar g hf2)];exact g
       rcases hcc with rfl | hcc
       . exact ar e hf1
       . exact ar hcc hf1
   . have:s'.gens=s1.gens:=hm.gens.symm;rw[this];exact I1.bare
   . intro b hb;have:b=s1.heap.objs.size:=by simpa using hb
     subst this;obtain⟨f0,f1,f2,f3,f4,f5⟩:=I1.fpOk (H':=H1) (OQ _) hf1;exact⟨f3,f1,f4,f5⟩
def rngL(i j:Int):List Int:=(List.range (j-i).toNat).map λ(k:Nat)=>i+(k:Int)
theorem pY(i j:Int):(rngL i j).length=(j-i).toNat:=by unfold rngL;simp
theorem sL:∀{xs:List V} {us:List Value},xs.length=us.length->(∀(i:Nat) x u,xs[i]? =some x->us[i]? =some u->RelV x u)->Vals xs us
 | [],[],_,_=>.nil
 | [],_::_,h,_=>by simp at h
 | _::_,[],h,_=>by simp at h
 | x::xs,u::us,h,f=>.cons (f 0 x u rfl rfl) (sL (by simpa using h) λi y e h1 h2=>f (i+1) y e (by simpa using h1) (by simpa using h2))
theorem Da{i j:Int}{acc:Array Value}(h:ItemsOf (λk v=>∃ t,v=.int (i+k*1) t) acc (j-i).toNat):Vals ((rngL i j).map V.int) acc.toList:=by
 refine sL (by rw[OF,pY,Qc];exact h.1.symm) λk x u hx hu=>?_;obtain⟨t,rfl⟩:=h.2 k u (by simpa using hu);unfold rngL at hx;rw[O4,OH]at hx;by_cases hk:k < (j-i).toNat
 . rw[PC hk]at hx;cases hx;exact⟨t,by rw[Int.mul_one]⟩
 . rw[Ph (by simpa using hk)]at hx;cases hx
section
variable{X:Cx}
def ow(ta:TA):TE:=λσ H Q=>ta σ H λvs H1=>∃ j:Int,vs=[.int j]/\ -(2^60)<=j/\j<=1000/\∀ l,H1 l=none->Q (.ref l) (upd H1 l (.lst ((rngL 0 j).map V.int)))
def jT(ta:TA):TE:=λσ H Q=>ta σ H λvs H1=>∃ i j:Int,vs=[.int i,.int j]/\(0<=i/\i<=1000/\ -(2^60)<=j/\j<=1000)/\∀ l,H1 l=none->Q (.ref l) (upd H1 l (.lst ((rngL i j).map V.int)))
theorem yf {Ox:List (Addr × Obj)} {σ:St} {H1:Hp} {s1:Shared} {Q:VK} {i j:Int} {t u v:Tok} {tk:Nat} {A:Around} {E:Value->Shared->Prop} (hh:A.handled=none) (I1:Inv X Ox σ H1 s1) (h1:0<=i) (h2:i<=1000) (h3: -(2^60)<=j) (h4:j<=1000)
  (q:∀ l,H1 l=none->Q (.ref l) (upd H1 l (.lst ((rngL i j).map V.int)))):
  wpAny (model X.prog X.w) A (call (.type "list") [.ref s1.heap.objs.size]) (EP X Ox σ Q) E {s1 with heap:=s1.heap.push {cls:=.type "range",data:=.fields #[.int i t,.int j u,.int 1 v]},toks:=tk}:=by
 have I2:Inv X Ox σ H1 {s1 with heap:=s1.heap.push {cls:=.type "range",data:=.fields #[.int i t,.int j u,.int 1 v]},toks:=tk}:=I1.kept λb o e=>OS _ e;refine call_list_range (n:=(j-i).toNat) hh (IsRange.new ..) (small_one (by omega) (by omega) (by omega) (by omega)) (by rw[rangeSize_one];split <;> omega) (by omega) λh' tk' acc' c' old hS' hacc=>?_;have OC:((rngL i j).map V.int).length<=sizeLine:=by rw[OF,pY];exact PD (aE (by omega))
 exact⟨.ref _,_,I2.laid (t':=tk') (o:=.lst ((rngL i j).map V.int)) old (OQ _) ⟨OC,acc'.toList,c',Da hacc,hS'⟩,rfl,q _ (I2.hok.fresh (OQ _))⟩
theorem sM {a:Expr} {ta:TA} {p p2 pos pos2:Pos} (hc:X.calm=true) (hgl:Gl X "list") (hgr:Gl X "range") (hl:X.mg "list"=none) (hr:X.mg "range"=none) (ha:PA X [a] ta)
  (hs1:starEach [.Call (.Name "range" p2) [a] [] pos2] X.env=[(false,eval (.Call (.Name "range" p2) [a] [] pos2) X.env)]:=by rfl) (hs:starEach [a] X.env=[(false,eval a X.env)]:=by rfl):
  PE X (.Call (.Name "list" p) [.Call (.Name "range" p2) [a] [] pos2] [] pos) (ow ta):=by
 intro Ox s σ H Q I h;refine PU (cW I hgl hl gA ?_ (by decide) (by decide));refine Pm ?_ hs1 rfl;rw[hs1];show wpAny _ _ (spliced [(false,eval (.Call (.Name "range" p2) [a] [] pos2) X.env)]) _ _ s;refine P7 ?_;refine Call_ (cW I hgr hr Tb (Pm (thn (ha pos2 Ox s σ H _ I h) λus s1 ⟨vs,H1,I1,r1,q1⟩=>?_) hs rfl));obtain⟨j,e,q1,q2,q⟩:=q1;subst e
 cases r1 with
 | cons r rr=>
  cases rr;obtain⟨t,rfl⟩:=r;refine call_range_1 ?_;refine Qh ?_;exact yf (I.ok.hd hc) I1 (by omega) (by omega) q1 q2 q
theorem lA {a b:Expr} {ta:TA} {p p2 pos pos2:Pos} (hc:X.calm=true) (hgl:Gl X "list") (hgr:Gl X "range") (hl:X.mg "list"=none) (hr:X.mg "range"=none) (ha:PA X [a,b] ta)
  (hs1:starEach [.Call (.Name "range" p2) [a,b] [] pos2] X.env=[(false,eval (.Call (.Name "range" p2) [a,b] [] pos2) X.env)]:=by rfl) (hs:starEach [a,b] X.env=[(false,eval a X.env),(false,eval b X.env)]:=by rfl) (hs2:starEach [b] X.env=[(false,eval b X.env)]:=by rfl):
  PE X (.Call (.Name "list" p) [.Call (.Name "range" p2) [a,b] [] pos2] [] pos) (jT ta):=by
 intro Ox s σ H Q I h;refine PU (cW I hgl hl gA ?_ (by decide) (by decide));refine Pm ?_ hs1 rfl;rw[hs1];show wpAny _ _ (spliced [(false,eval (.Call (.Name "range" p2) [a,b] [] pos2) X.env)]) _ _ s;refine P7 ?_;refine Call_ (cW I hgr hr Tb (Pm (thn (ha pos2 Ox s σ H _ I h) λus s1 ⟨vs,H1,I1,r1,q1⟩=>?_) (by rw[hs,hs2]) (by rw[hs2];rfl)));obtain⟨i,j,e,⟨q1,q2,q3,q4⟩,q⟩:=q1;subst e
 cases r1 with
 | cons r rr=>
  cases rr with
  | cons r' rr=>
   cases rr;obtain⟨t,rfl⟩:=r;obtain⟨t',rfl⟩:=r';refine call_range_2 ?_;refine Qh ?_;exact yf (I.ok.hd hc) I1 q1 q2 q3 q4 q
end
section
variable{σ:St}{H:Hp}{Q:VK}{ta:TA}
theorem gD:ow ta σ H Q=ta σ H λvs H1=>∃ j:Int,vs=[.int j]/\ -(2^60)<=j/\j<=1000/\∀ l,H1 l=none->Q (.ref l) (upd H1 l (.lst ((rngL 0 j).map V.int))):=rfl
theorem gE:jT ta σ H Q=ta σ H λvs H1=>∃ i j:Int,vs=[.int i,.int j]/\(0<=i/\i<=1000/\ -(2^60)<=j/\j<=1000)/\∀ l,H1 l=none->Q (.ref l) (upd H1 l (.lst ((rngL i j).map V.int))):=rfl
end
end L2
namespace L2
def besL(h w c:Int):List Int:=(if 0<c/w then [c-w] else [])++(if 0<c%w then [c-1] else [])++(if c%w<w-1 then [c+1] else [])++(if c/w<h-1 then [c+w] else [])
theorem um:∀{xs ys:List Int},xs.Nodup->(∀ x∈xs,x∈ys)->xs.length<=ys.length
 | [],_,_,_=>Py _
 | x::xs,ys,nd,h=>by
  have hx:=h x OV;have nd':=P0.mp nd
  have ih:=um (xs:=xs) (ys:=ys.erase x) nd'.2 λy hy=>by
   have ne:y≠x:=λe=>nd'.1 (e ▸ hy);exact(List.mem_erase_of_ne ne).mpr (h y (OT _ hy))
  rw[List.length_erase_of_mem hx]at ih;have:0<ys.length:=SF hx;simp only[Pq];omega
theorem BO{rs fs:List Int}(p:rs.Perm fs)(s:rs.Pairwise (· <=·))(nd:fs.Nodup):rs.Pairwise (· < ·):=by
 have nd':rs.Nodup:=p.nodup_iff.mpr nd;refine(s.and nd').imp ?_;intro a b h;have:=h.1;have:=h.2;omega
theorem uo:∀{xs ys:List Int},xs.Pairwise (· < ·)->ys.Pairwise (· < ·)->(∀ z,z∈xs↔z∈ys)->xs=ys
 | [],[],_,_,_=>rfl
 | [],y::ys,_,_,h=>absurd ((h y).mpr OV) (λq=>nomatch q)
 | x::xs,[],_,_,h=>absurd ((h x).mp OV) (λq=>nomatch q)
 | x::xs,y::ys,hx,hy,h=>by
  have hx':=PL.mp hx;have hy':=PL.mp hy
  have e:x=y:=by
   rcases OM.mp ((h x).mp OV) with e | m1
   . exact e
   . rcases OM.mp ((h y).mpr OV) with e | m2
     . exact e.symm
     . have:=hy'.1 x m1;have:=hx'.1 y m2;omega
  subst e;refine congrArg (x::·) (uo hx'.2 hy'.2 λz=>⟨λm=>?_,λm=>?_⟩)
  . rcases OM.mp ((h z).mp (OT _ m)) with e | q
    . have:=hx'.1 z m;omega
    . exact q
  . rcases OM.mp ((h z).mpr (OT _ m)) with e | q
    . have:=hy'.1 z m;omega
    . exact q
end L2
namespace L2
open PySem PySem.Spec PyProof.Rows
def wk9(t:String):Lean.MacroM Lean.Syntax:=do
 let x<-(t.splitOn " ").toArray.mapM λs=>`(Lean.Parser.Tactic.simpLemma|$(Lean.mkIdent s.toName):term)
 `(tactic|(first|simp only[$x,*]|dsimp only|skip))
def ws1:String:="az bc dH aS fj fo w_c jz gJ fq dI dJ w_b w_not iu kS ft fu iw gK dL j6 fz iy fX j7 iz cI fD fE fF cQ cR cx bX bY bH iA iB iC iD iE iF iG iH gL iI iJ iK kU fG bZ fH kW fI cS ce iL iM fJ dM fL List.getElem?_cons_zero List.getElem?_cons_succ Option.some.injEq exists_eq_left' exists_eq_left List.set_cons_zero List.set_cons_succ bP V.int.injEq V.bl.injEq V.ref.injEq V.str.injEq List.nil_append List.cons_append"
local macro_rules|`(tactic|walk_at "w")=>wk9 ws1
local macro_rules|`(tactic|symm)=>`(tactic|walk_at "w")
theorem bd{n:Nat}(h:n<=1000):n<=sizeLine:=PD (aE h)
theorem lnR{n:Nat}(h:Nat.ble n 1000=true):n<=sizeLine:=bd (SU h)
def IsFl(H:Hp)(a:Addr)(h w g:Int):Prop:=H a=some (.tup [.int h,.int w,.int g])
variable{H:Hp}
theorem Same.laid{H':Hp}{p:Addr}{o:HO}(s:Same H H')(h:H' p=none):Same H (upd H' p o):=λb u e=>by
 rw[ah (ar (s b u e) h)];exact s b u e
theorem aX{U:Addr}(O:HO)(h:H U=none):∃ z,upd H U O=z/\Same H z/\z U=some O:=⟨_,rfl,(OL H).laid h,ag⟩
theorem Same.own{H':Hp}{p:Addr}{o:HO}(s:Same H H')(h:H p=none):Same H (upd H' p o):=λb u e=>by
 rw[ah (ar e h)];exact s b u e
variable{l:List Int}{i:Nat}
theorem jU{x:Int}(h:l[i]? =some x):l.getD i 0=x:=by
 rw[List.getD,h];rfl
theorem tw{ns:List Int}{k:Int}(h0:0<=k)(h1:k<ns.length):atI (ns.map V.int) k=some (.int (ns.getD k.toNat 0)):=by
 have e:((k.toNat:Nat):Int)=k:=Int.toNat_of_nonneg h0;have hlt:k.toNat<ns.length:=by omega
 have:(ns.map V.int)[k.toNat]? =some (.int (ns.getD k.toNat 0)):=by
  rw[OH,OG hlt];simp[List.getD,hlt]
 have q:=dr this;rw[e]at q;exact q
theorem aU{α:Type}(l:List α):l.filter (λ_=>true)=l:=List.filter_eq_self.mpr λ_ _=>rfl
theorem cp{y:V}(h:(l.map V.int)[i]? =some y):∃ z,l[i]? =some z/\y=.int z:=by
 rw[OH]at h
 cases e:l[i]? with
 | none=>rw[e]at h;cases h
 | some z=>rw[e]at h;cases h;exact⟨z,rfl,rfl⟩
theorem bq{l:List Addr}{y:V}(h:(l.map V.ref)[i]? =some y):∃ z,l[i]? =some z/\y=.ref z:=by
 rw[OH]at h
 cases e:l[i]? with
 | none=>rw[e]at h;cases h
 | some z=>rw[e]at h;cases h;exact⟨z,rfl,rfl⟩
theorem oy{h w:Int}(h0:1<=h)(h1:h<=6):CMul h w:=.inl ⟨by omega,by omega⟩
section
variable{k:Nat}{lo:Int}{n:Nat}{tt:TT}{te:TE}{fin:Addr->Hp->Prop}{σ0:St}{H1:Hp}{K:Frag}{a:Addr}
theorem mV{n i:Nat}(b:Nat->Bool)(h:i<n)(hn:n<=900):((List.range i).filter b).length<=900:=by
 have:=Qe b (List.range i);rw[PY]at this;omega
theorem zA (b:Nat->Bool) (f:Nat->V) (hn:n<=900)
  (ht:∀ i H R,i<n->Same H1 H->(∀ H',Same H H'->R (b i) H')->tt (σ0.set k (some (.int (lo+i)))) H R)
  (he:∀ i H Q,i<n->b i=true->Same H1 H->(∀ H',Same H H'->Q (f i) H')->te (σ0.set k (some (.int (lo+i)))) H Q)
  (hd:∀ l H,H1 l=none->Same H1 H->H l=some (.lst (((List.range n).filter b).map f))->fin l H):
  CompR (Itr lo n) (gName k) tt te fin σ0 H1:=by
 refine pW (λl i σ H=>(σ=σ0\/∃ cv,σ=σ0.set k cv)/\Same H1 H/\H l=some (.lst (((List.range i).filter b).map f))) (λl hl=>⟨.inl rfl,(OL H1).laid hl,by rw[ag];rfl⟩) ?_ (λl σ H hl p=>hd l H hl p.2.1 p.2.2);rintro l i σ H hl hi ⟨hσ,s1,el⟩;rw[aS]
 have e:σ.set k (some (.int (lo+i)))=σ0.set k (some (.int (lo+i))):=by
  rcases hσ with rfl | ⟨cv,rfl⟩
  . rfl
  . exact Qy ..
 rw[e];refine ht i H _ hi s1 λH2 s2=>?_;have el2:=s2 _ _ el
 cases hb:b i with
 | false=>
  rw[O0 OI];refine⟨.inr ⟨_,rfl⟩,s1.trans s2,?_⟩;rw[PP,Ps,Pz,hb]
  simpa using el2
 | true=>
  rw[O6 rfl];refine he i H2 _ hi hb (s1.trans s2) λH3 s3=>⟨_,s3 _ _ el2,by rw[OF];exact aE (O7 (mV b hi hn) (by decide)),.inr ⟨_,rfl⟩,((s1.trans s2).trans s3).own hl,?_⟩;rw[ag,PP,Ps,Pz,hb];simp
theorem bn {xs:List V} (b:Nat->Bool) (f:Nat->V) (hn:xs.length<=900) (hq:SqL K H1 a xs)
  (ht:∀ i x H R,xs[i]? =some x->Same H1 H->(∀ H',Same H H'->R (b i) H')->tt (σ0.set k (some x)) H R)
  (he:∀ i x H Q,xs[i]? =some x->b i=true->Same H1 H->(∀ H',Same H H'->Q (f i) H')->te (σ0.set k (some x)) H Q)
  (hd:∀ l H,H1 l=none->Same H1 H->H l=some (.lst (((List.range xs.length).filter b).map f))->fin l H):
  CompR (Itl K a) (gName k) tt te fin σ0 H1:=by
 refine gX (xs:=xs) (λl i σ H=>(σ=σ0\/∃ cv,σ=σ0.set k cv)/\Same H1 H/\H l=some (.lst (((List.range i).filter b).map f))) (λl hl=>⟨.inl rfl,(OL H1).laid hl,by rw[ag];rfl⟩) (λl i σ H _ _ p=>p.2.1.seq hq) ?_ (λl σ H hl p=>hd l H hl p.2.1 p.2.2);rintro l i x σ H hl hx ⟨hσ,s1,el⟩;have hi:i<xs.length:=(OK.mp hx).1;rw[aS]
 have e:σ.set k (some x)=σ0.set k (some x):=by
  rcases hσ with rfl | ⟨cv,rfl⟩
  . rfl
  . exact Qy ..
 rw[e];refine ht i x H _ hx s1 λH2 s2=>?_;have el2:=s2 _ _ el
 cases hb:b i with
 | false=>
  rw[O0 OI];refine⟨.inr ⟨_,rfl⟩,s1.trans s2,?_⟩;rw[PP,Ps,Pz,hb]
  simpa using el2
 | true=>
  rw[O6 rfl];refine he i x H2 _ hx hb (s1.trans s2) λH3 s3=>⟨_,s3 _ _ el2,by rw[OF];exact aE (O7 (mV b hi hn) (by decide)),.inr ⟨_,rfl⟩,((s1.trans s2).trans s3).own hl,?_⟩;rw[ag,PP,Ps,Pz,hb];simp
theorem sO (b:Nat->Bool) (f:Nat->Int) (hn:n<=900)
  (ht:∀ i H R,i<n->Same H1 H->(∀ H',Same H H'->R (b i) H')->tt (σ0.set k (some (.int (lo+i)))) H R)
  (he:∀ i H Q,i<n->b i=true->Same H1 H->(∀ H',Same H H'->Q (.int (f i)) H')->te (σ0.set k (some (.int (lo+i)))) H Q)
  (hd:∀ l H,H1 l=none->Same H1 H->H l=some (.lst ((((List.range n).filter b).map f).map V.int))->fin l H):
  CompR (Itr lo n) (gName k) tt te fin σ0 H1:=
 zA b (λi=>.int (f i)) hn ht he λl H hl s1 el=>hd l H hl s1 (by rw[O4];exact el)
theorem BP(b:Int->Bool)(f:Int->Int)(xs:List Int):((List.range xs.length).filter λi=>b (xs.getD i 0)).map (λi=>V.int (f (xs.getD i 0)))=((xs.filter b).map f).map V.int:=by
 have e:xs=(List.range xs.length).map λi=>xs.getD i 0:=by
  refine Qi λi=>?_;rw[OH];by_cases h:i<xs.length
  . rw[PC h,OG h];simp[List.getD,h]
  . rw[Ph (by omega),Ph (by simpa using h)];rfl
 conv=>rhs;rw[e]
 rw[List.filter_map,O4,O4];rfl
theorem j8 {xs:List Int} (b:Int->Bool) (f:Int->Int) (hn:xs.length<=900) (hq:SqL K H1 a (xs.map V.int))
  (ht:∀ x H R,x∈xs->Same H1 H->(∀ H',Same H H'->R (b x) H')->tt (σ0.set k (some (.int x))) H R)
  (he:∀ x H Q,x∈xs->b x=true->Same H1 H->(∀ H',Same H H'->Q (.int (f x)) H')->te (σ0.set k (some (.int x))) H Q)
  (hd:∀ l H,H1 l=none->Same H1 H->H l=some (.lst (((xs.filter b).map f).map V.int))->fin l H):
  CompR (Itl K a) (gName k) tt te fin σ0 H1:=by
 refine bn (xs:=xs.map V.int) (λi=>b (xs.getD i 0)) (λi=>.int (f (xs.getD i 0))) (by rw[OF];exact hn) hq ?_ ?_ ?_
 . intro i x H R hx s1 h;obtain⟨z,hz,rfl⟩:=cp hx;rw[jU hz]at h;exact ht z H R (ON hz) s1 h
 . intro i x H Q hx hb s1 h;obtain⟨z,hz,rfl⟩:=cp hx;rw[jU hz]at h hb;exact he z H Q (ON hz) hb s1 h
 . intro l H hl s1 el;refine hd l H hl s1 ?_;rw[OF]at el;rw[el,BP]
structure NewAt(H1 H:Hp)(l:Addr)(as:List Addr)(os:List HO):Prop where
 len:as.length=os.length
 nd:as.Nodup
 nl:l∉as
 fr:∀ a∈as,H1 a=none
 at_:∀(j:Nat) (a:Addr) (o:HO),as[j]? =some a->os[j]? =some o->H a=some o
theorem NewAt.nil{H1 H:Hp}{l:Addr}:NewAt H1 H l [] [] where
 len:=rfl
 nd:=QP
 nl:=by simp
 fr:=λa h=>nomatch h
 at_:=λj a o h=>by simp at h
theorem NewAt.same{H1 H H':Hp}{l:Addr}{as:List Addr}{os:List HO}(x:NewAt H1 H l as os)(s:Same H H'):NewAt H1 H' l as os:=
 ⟨x.len,x.nd,x.nl,x.fr,λj a o h1 h2=>s _ _ (x.at_ j a o h1 h2)⟩
theorem NewAt.mem{H1 H:Hp}{l:Addr}{as:List Addr}{os:List HO}(x:NewAt H1 H l as os){a:Addr}(h:a∈as):∃ o,H a=some o:=by
 obtain⟨j,hj,e⟩:=Qs.mp h;have hj2:j<os.length:=by rw[← x.len];exact hj
 exact⟨os[j],x.at_ j a os[j] (by rw[OG hj,e]) (OG hj2)⟩
theorem NewAt.more{H1 H H2:Hp}{l p:Addr}{as:List Addr}{os:List HO}{o u:HO}(x:NewAt H1 H l as os)(s1:Same H1 H)(s:Same H H2)(hp:H p=none)(e:H2 p=some o)(hl:H l=some u)(o':HO):NewAt H1 (upd H2 l o') l (as++[p]) (os++[o]):=by
 have npl:p≠l:=λz=>by rw[z,hl]at hp;cases hp
 refine⟨by simp[x.len],?_,?_,?_,?_⟩
 . refine Rc.mpr ⟨x.nd,by simp,λa ha b hb z=>?_⟩;rw[OR.mp hb]at z;obtain⟨o2,e2⟩:=x.mem ha;rw[z,hp]at e2;cases e2
 . intro hm;rcases OY.mp hm with hm | hm
   . exact x.nl hm
   . exact npl (OR.mp hm).symm
 . intro a ha;rcases OY.mp ha with ha | ha
   . exact x.fr a ha
   . rw[OR.mp ha]
     cases q:H1 p with
     | none=>rfl
     | some v=>rw[s1 _ _ q]at hp;cases hp
 . intro j a o2 h1 h2;have OC:=x.len;by_cases hj:j<as.length
   . rw[O9 hj]at h1;rw[O9 (by omega)]at h2;have nal:a≠l:=λz=>x.nl (z ▸ ON h1);rw[ah nal];exact s _ _ (x.at_ j a o2 h1 h2)
   . rw[O8 (by omega)]at h1;rw[O8 (by omega)]at h2
     have e0:j-as.length=0:=by
      have:=(OK.mp h1).1;simp at this;omega
     rw[e0]at h1;rw[show j-os.length=0 by omega]at h2;simp at h1 h2;subst h1 h2;rw[ah npl];exact e
theorem zB (b:Nat->Bool) (o:Nat->HO) (hn:n<=900)
  (ht:∀ i H R,i<n->Same H1 H->(∀ H',Same H H'->R (b i) H')->tt (σ0.set k (some (.int (lo+i)))) H R)
  (he:∀ i H Q,i<n->b i=true->Same H1 H->(∀ a H',Same H H'->H a=none->H' a=some (o i)->Q (.ref a) H')->te (σ0.set k (some (.int (lo+i)))) H Q)
  (hd:∀ l as H,H1 l=none->Same H1 H->H l=some (.lst (as.map V.ref))->NewAt H1 H l as (((List.range n).filter b).map o)->fin l H):
  CompR (Itr lo n) (gName k) tt te fin σ0 H1:=by
 refine pW (λl i σ H=>(σ=σ0\/∃ cv,σ=σ0.set k cv)/\Same H1 H/\∃ as:List Addr,H l=some (.lst (as.map V.ref))/\NewAt H1 H l as (((List.range i).filter b).map o)) (λl hl=>⟨.inl rfl,(OL H1).laid hl,[],by rw[ag];rfl,NewAt.nil⟩) ?_ (λl σ H hl ⟨_,s1,as,el,x⟩=>hd l as H hl s1 el x);rintro l i σ H hl hi ⟨hσ,s1,as,el,x⟩;rw[aS]
 have e:σ.set k (some (.int (lo+i)))=σ0.set k (some (.int (lo+i))):=by
  rcases hσ with rfl | ⟨cv,rfl⟩
  . rfl
  . exact Qy ..
 rw[e];refine ht i H _ hi s1 λH2 s2=>?_;have el2:=s2 _ _ el;have x2:=x.same s2;have s12:=s1.trans s2
 cases hb:b i with
 | false=>
  rw[O0 OI];refine⟨.inr ⟨_,rfl⟩,s12,as,el2,?_⟩;rw[PP,Ps,Pz,hb]
  simpa using x2
 | true=>
  rw[O6 rfl];refine he i H2 _ hi hb s12 λp H3 s3 hp ep=>⟨_,s3 _ _ el2,?_,.inr ⟨_,rfl⟩,(s12.trans s3).own hl,as++[p],?_,?_⟩
  . rw[OF,x2.len,OF];exact aE (O7 (mV b hi hn) (by decide))
  . rw[ag];simp
  . have y:=x2.more s12 s3 hp ep el2 (.lst (as.map V.ref++[V.ref p]));rw[PP,Ps,Pz,hb]
    simpa using y
theorem uq {xs:List V} (b:Nat->Bool) (o:Nat->HO) (hn:xs.length<=900) (hq:SqL K H1 a xs)
  (ht:∀ i x H R,xs[i]? =some x->Same H1 H->(∀ H',Same H H'->R (b i) H')->tt (σ0.set k (some x)) H R)
  (he:∀ i x H Q,xs[i]? =some x->b i=true->Same H1 H->(∀ a H',Same H H'->H a=none->H' a=some (o i)->Q (.ref a) H')->te (σ0.set k (some x)) H Q)
  (hd:∀ l as H,H1 l=none->Same H1 H->H l=some (.lst (as.map V.ref))->NewAt H1 H l as (((List.range xs.length).filter b).map o)->fin l H):
  CompR (Itl K a) (gName k) tt te fin σ0 H1:=by
 refine gX (xs:=xs) (λl i σ H=>(σ=σ0\/∃ cv,σ=σ0.set k cv)/\Same H1 H/\∃ as:List Addr,H l=some (.lst (as.map V.ref))/\NewAt H1 H l as (((List.range i).filter b).map o)) (λl hl=>⟨.inl rfl,(OL H1).laid hl,[],by rw[ag];rfl,NewAt.nil⟩) (λl i σ H _ _ p=>p.2.1.seq hq) ?_ (λl σ H hl ⟨_,s1,as,el,x⟩=>hd l as H hl s1 el x);rintro l i y σ H hl hy ⟨hσ,s1,as,el,x⟩;have hi:i<xs.length:=(OK.mp hy).1;rw[aS]
 have e:σ.set k (some y)=σ0.set k (some y):=by
  rcases hσ with rfl | ⟨cv,rfl⟩
  . rfl
  . exact Qy ..
 rw[e];refine ht i y H _ hy s1 λH2 s2=>?_;have el2:=s2 _ _ el;have x2:=x.same s2;have s12:=s1.trans s2
 cases hb:b i with
 | false=>
  rw[O0 OI];refine⟨.inr ⟨_,rfl⟩,s12,as,el2,?_⟩;rw[PP,Ps,Pz,hb]
  simpa using x2
 | true=>
  rw[O6 rfl];refine he i y H2 _ hy hb s12 λp H3 s3 hp ep=>⟨_,s3 _ _ el2,?_,.inr ⟨_,rfl⟩,(s12.trans s3).own hl,as++[p],?_,?_⟩
  . rw[OF,x2.len,OF];exact aE (O7 (mV b hi hn) (by decide))
  . rw[ag];simp
  . have z:=x2.more s12 s3 hp ep el2 (.lst (as.map V.ref++[V.ref p]));rw[PP,Ps,Pz,hb]
    simpa using z
end
theorem DVs.of_get{K:Frag}{H:Hp}:∀{xs:List V} {ds:List PyData},xs.length=ds.length->(∀(i:Nat) x d,xs[i]? =some x->ds[i]? =some d->DV K H x d)->DVs K H xs ds
 | [],[],_,_=>.nil
 | [],_::_,h,_=>by simp at h
 | _::_,[],h,_=>by simp at h
 | x::xs,d::ds,h,f=>.cons (f 0 x d rfl rfl) (DVs.of_get (by simpa using h) λi y e h1 h2=>f (i+1) y e (by simpa using h1) (by simpa using h2))
theorem pB:∀{ds:List PyData},(∀ d∈ds,PyData.canLay0 d=true)->PyData.canLayAll0 ds=true
 | [],_=>rfl
 | d::r,h=>by rw[PyData.canLayAll0,h d OV,pB λe he=>h e (OT _ he)];rfl
theorem lJ{n:Nat}:∀{ds:List PyData},(∀ d∈ds,PyData.depth d<=n)->PyData.depthAll ds<=n
 | [],_=>Py _
 | d::r,h=>by rw[PyData.depthAll];exact Nat.max_le.mpr ⟨h d OV,lJ λe he=>h e (OT _ he)⟩
def dLI(xs:List Int):PyData:=.list (xs.map PyData.int)
def dTI(xs:List Int):PyData:=.tuple (xs.map PyData.int)
theorem rP(xs:List Int):PyData.canLay0 (dLI xs)=true:=by unfold dLI;rw[PyData.canLay0];exact pS xs
theorem z8(xs:List Int):PyData.canLay0 (dTI xs)=true:=by unfold dTI;rw[PyData.canLay0];exact pS xs
theorem oz(xs:List Int):PyData.depth (dLI xs)=1:=by unfold dLI;rw[PyData.depth,mi]
theorem wI(xs:List Int):PyData.depth (dTI xs)=1:=by unfold dTI;rw[PyData.depth,mi]
theorem rQ(xs ys:List Int):PyData.eqv (dLI xs) (dLI ys)=decide (xs=ys):=by unfold dLI;rw[PyData.eqv,mS]
theorem vq(xs ys:List Int):PyData.eqv (dTI xs) (dTI ys)=decide (xs=ys):=by unfold dTI;rw[PyData.eqv,mS]
theorem kX{α:Type}[DecidableEq α](g:α->PyData)(hg:∀ a b,PyData.eqv (g a) (g b)=decide (a=b)):∀ xs ys:List α,PyData.eqvAll (xs.map g) (ys.map g)=decide (xs=ys)
 | [],[]=>rfl
 | [],_::_=>rfl
 | _::_,[]=>rfl
 | x::xs,y::ys=>by
  rw[Pr,Pr,PyData.eqvAll,hg,kX g hg xs ys,Pw];simp
structure IsLL(H:Hp)(l:Addr)(as:List Addr)(OB:List (List Int)):Prop where
 top:H l=some (.lst (as.map V.ref))
 len:as.length=OB.length
 at_:∀(j:Nat) (a:Addr) (xs:List Int),as[j]? =some a->OB[j]? =some xs->H a=some (.lst (xs.map V.int))
theorem IsLL.same{H':Hp}{l:Addr}{as:List Addr}{OB:List (List Int)}(x:IsLL H l as OB)(s:Same H H'):IsLL H' l as OB:=
 ⟨s _ _ x.top,x.len,λj a xs h1 h2=>s _ _ (x.at_ j a xs h1 h2)⟩
def j9(K:Frag):Sp:=λvs H Q _=>∃(a:Addr) (h w g c:Int),vs=[.ref a,.int c]/\IsFl H a h w g/\0<w/\w<100/\∀ p,H p=none->Q (.ref p) (upd H p (.tup [.int (c/w),.int (c%w)]))
def pZ(K:Frag):TS:=
 by exists ":gken0df#1 h#2 lwaeU12aex12c"
variable{vs:List V}
theorem AJ{K:Frag}{Q:VK}{E:XK}(h:j9 K vs H Q E):pZ K {nx:=λ_ H'=>Q .non H',rt:=Q} (start ["floor","cell","wide"] vs) H:=by
 obtain⟨a,h,w,g,c,rfl,ha,w0,w1,k⟩:=h;show pZ K _ [some (.ref a),some (.int c),none] H;unfold pZ;symm;rw[AF ha];refine cH (a:=V.int w) rfl ?_;symm;refine⟨⟨w0,by omega⟩,w0,lnR rfl,k⟩
def lawAt(ns:List Int)(k:Int):Int:=
 if k < (ns.length:Int) then ns.getD k.toNat 0 else
  (if 0 < (ns.length:Int) then 7*k+3+ns.getD (k%ns.length).toNat 0%1000003*(k+1) else 7*k+3)*(if 0 < (ns.length:Int) then 7*k+3+ns.getD (k%ns.length).toNat 0%1000003*(k+1) else 7*k+3)%999979+
  (if 0 < (ns.length:Int) then 7*k+3+ns.getD (k%ns.length).toNat 0%1000003*(k+1) else 7*k+3)%101
def aJ(K:Frag):Sp:=λvs H Q _=>∃(a:Addr) (ns:List Int) (k:Int),vs=[.ref a,.int k]/\SqL K H a (ns.map V.int)/\ns.length<=63/\0<=k/\k<=1000/\Q (.int (lawAt ns k)) H
def p6(K:Frag):TS:=
 by exists ":gome<1q~Iba0cle~-b01pgkereQdf#7 1df#3 h#2 gome>q~Iba0cdf#0 ker2eQexe~-b0ex1q~Iba0cdf#1000003 er1df#1 h#2 plerexeQ22df#999979 ex2df#101 "
theorem AK{K:Frag}{Q:VK}{E:XK}(h:aJ K vs H Q E):p6 K {nx:=λ_ H'=>Q .non H',rt:=Q} (start ["_law_script","_law_k","_law_mixed"] vs) H:=by
 obtain⟨a,ns,k,rfl,hS,hn,k0,k1,q⟩:=h;show p6 K _ [some (.ref a),some (.int k),none] H;unfold p6;rw[az,aN];symm;refine⟨a,_,rfl,.inl hS,?_⟩;symm;rw[OF];unfold lawAt at q;by_cases hk:k < (ns.length:Int)
 . rw[O6 hk]at q;rw[O6 (O3 hk)];exact⟨a,_,k,_,rfl,rfl,hS,tw k0 hk,q⟩
 . rw[O0 hk]at q;rw[O0 (by simpa using hk)];refine⟨.inl (by omega),?_⟩;rw[aN];symm;refine⟨a,_,rfl,.inl hS,?_⟩;symm;rw[OF];by_cases hl:0 < (ns.length:Int)
   . simp only[O6 hl]at q;rw[O6 (O3 hl)];refine⟨a,_,rfl,.inl hS,?_⟩;symm;rw[OF];have m0:=Pj k (Tf hl);have m1:=Pa k hl;refine⟨hl,a,_,_,_,rfl,rfl,hS,tw m0 m1,?_⟩;symm;generalize ns.getD (k%ns.length).toNat 0=z at q ⊢;have z0:=Pj z (by decide:(1000003:Int)≠0);have z1:=Pa z (by decide:(0:Int)<1000003);have b0:0<=z%1000003*(k+1):=Qt z0 (by omega);have b1:z%1000003*(k+1)<=1000003*1001:=S1 (by omega) (by omega) (by omega) (by decide);refine⟨by decide,.inl ⟨by omega,by omega⟩,?_⟩;symm;generalize z%1000003*(k+1)=y at*;exact⟨.inl ⟨by omega,by omega⟩,by decide,by decide,q⟩
   . simp only[O0 hl]at q;rw[O0 (by simpa using hl)];symm;exact⟨.inl ⟨by omega,by omega⟩,by decide,by decide,q⟩
structure FlOk(h w g:Int):Prop where
 h0:1<=h
 h1:h<=6
 w0:1<=w
 w1:w<=6
 m:h*w<=16
 g0:1<=g
 g1:g<=6
section
variable{K:Frag}{H:Hp}{Q:VK}
theorem BQ{p:Addr}{xs:List V}(hp:H p=some (.lst xs))(h:Q (.bl true) H):kIsi [.ref p,.ty "list"] H Q:=by
 refine⟨by decide,cH (a:="list") (by unfold mU;dsimp only;rw[hp]) ?_⟩;rw[show isTy "list" "list"=true by decide];exact h
theorem BR{p:Addr}{xs:List V}(hp:H p=some (.tup xs))(h:Q (.bl true) H):kIsi [.ref p,.ty "tuple"] H Q:=by
 refine⟨by decide,cH (a:="tuple") (by unfold mU;dsimp only;rw[hp]) ?_⟩;rw[show isTy "tuple" "tuple"=true by decide];exact h
theorem Db{p q:Addr}{xs ys:List V}(hp:H p=some (.lst xs))(hq:H q=some (.lst ys))(hn:xs.length+ys.length<=1000)(h:Q .non (upd H p (.lst (xs++ys)))):jS (.ref p) [.ref q] H Q:=by
 show bnd (unM (H p)) _;rw[hp];show bnd (unM (H q)) _;rw[hq];exact⟨PD (aE hn),h⟩
theorem vt{p:Addr}{xs:List V}(hp:H p=some (.lst xs))(h:Q .non (upd H p (.lst []))):pA (.ref p) [] H Q:=by
 show bnd (unM (H p)) _;rw[hp];exact h
theorem FE{g:TG}{tb:TS}{D:Ends}{σ:St}{ta:TA}:tFor (iZip K ta) g tb D σ H=ta σ H λvs H1=>∃ a b,vs=[.ref a,.ref b]/\(∃ xs,SqL K H1 a xs)/\(∃ ys,SqL K H1 b ys)/\LoopR (Itz K a b) g tb D σ H1:=rfl
theorem ur{n:Nat}{t:TGs}{σ:St}{k:St->Hp->Prop}{p:Addr}{xs:List V}(hp:H p=some (.tup xs))(hn:xs.length=n)(h:t xs σ H k):gTup K n t (.ref p) σ H k:=⟨p,xs,rfl,SqT.of hp,hn,h⟩
theorem yg{i j:Nat}{x y:V}{σ:St}{k:St->Hp->Prop}:gCons (gName i) (gCons (gName j) gNil) [x,y] σ H k=k ((σ.set i (some x)).set j (some y)) H:=by
 refine propext ⟨?_,λh=>⟨x,[y],rfl,y,[],rfl,rfl,h⟩⟩;rintro⟨v,r,e,v2,r2,e2,e3,h⟩;cases e;cases e2;exact h
theorem Ep {a b:Addr} {xs ys:List V} {g:TG} {tb:TS} {D:Ends} {σ:St} (Pv:Nat->St->Hp->Prop) (OC:xs.length=ys.length) (h0:Pv 0 σ H) (hl:∀ i σ H,i<=xs.length->Pv i σ H->SqL K H a xs/\SqL K H b ys)
  (hs:∀ i x y T σ H,xs[i]? =some x->ys[i]? =some y->Pv i σ H->H T=none->g (.ref T) σ (upd H T (.tup [x,y])) λσ2 H2=>tb {D with nx:=Pv (i+1),ct:=Pv (i+1),bk:=D.nx} σ2 H2) (hd:∀ σ H,Pv xs.length σ H->D.nx σ H):
  LoopR (Itz K a b) g tb D σ H:=by
 refine⟨λi m σ H=>m=xs.length-i/\i<=xs.length/\Pv i σ H,⟨xs.length,by simp,Py _,h0⟩,?_⟩;rintro i m σ H ⟨rfl,hi,p⟩;obtain⟨q1,q2⟩:=hl i σ H hi p;by_cases hlt:i<xs.length
 . have hlt2:i<ys.length:=by omega
   refine .inr ⟨⟨xs,ys,xs[i],ys[i],q1,q2,by simp[hlt],by simp[hlt2]⟩,Pv (i+1),λσ' H' p'=>⟨xs.length - (i+1),by omega,rfl,hlt,p'⟩,λv H' y=>?_⟩;obtain⟨T,x,y,rfl,hT,rfl,e1,e2⟩:=y;exact hs i x y T σ H (e1 xs q1) (e2 ys q2) p hT
 . have e:i=xs.length:=by omega
   subst e;exact .inl ⟨⟨xs,ys,q1,q2,.inl (OQ _)⟩,hd σ H p⟩
end
end L2
namespace L2
open PySem PySem.Builtin PySem.Builtin.Str
def tx(l:List Nat):Str:=⟨l.toArray⟩
theorem ka(l:List Nat):(tx l).cps.toList=l:=by simp[tx]
theorem DS(x:Str):tx x.cps.toList=x:=by cases x;simp[tx]
theorem yh{a b:List Nat}(h:tx a=tx b):a=b:=by rw[← ka a,h,ka]
theorem cr(l:List Nat):(tx l).length=l.length:=by simp[tx,Str.length]
theorem yj(a b:List Nat):tx a++tx b=tx (a++b):=by
 refine Str.ext' ?_;rw[Str.cps_append];simp[tx]
theorem ut(a b:List Nat):decide (tx a=tx b)=decide (a=b):=by
 by_cases h:a=b
 . subst h;simp
 . have:¬ tx a=tx b:=λe=>h (yh e);rw[OW h,OW this]
def catL(c:Nat):List (List Nat)->List Nat
 | []=>[]
 | [x]=>x
 | x::y::r=>x++c::catL c (y::r)
theorem mG(c:Nat):∀ ts:List (List Nat),Str.join (tx [c]) (ts.map tx)=tx (catL c ts)
 | []=>rfl
 | [x]=>rfl
 | x::y::r=>by
  show tx x++tx [c]++Str.join (tx [c]) ((y::r).map tx)=_;rw[mG c (y::r),yj,yj];show tx _=tx (x++c::catL c (y::r));rw[Rb];rfl
theorem p7(sep:Str)(ts:List Str):Txt.join sep ts=Str.join sep ts:=StrLaws.glued_eq_join sep ts
theorem vv{c:Nat}:∀{a b x y:List Nat},c∉a->c∉b->a++c::x=b++c::y->a=b/\x=y
 | [],[],_,_,_,_,h=>⟨rfl,by simpa using h⟩
 | [],b::bs,_,_,_,hb,h=>by
  simp at h;exact absurd (OM.mpr (.inl h.1)) hb
 | a::as,[],_,_,ha,_,h=>by
  simp at h;exact absurd (OM.mpr (.inl h.1.symm)) ha
 | a::as,b::bs,x,y,ha,hb,h=>by
  simp at h;have:=vv (λz=>ha (OT _ z)) (λz=>hb (OT _ z)) h.2;exact⟨by rw[h.1,this.1],this.2⟩
theorem yk{c:Nat}:∀{x:List Nat} {r:List (List Nat)} {y:List Nat},c∈catL c (x::y::r):=by
 intro x r y;show c∈x++c::_;simp
theorem ym{c:Nat}:∀{xs ys:List (List Nat)},xs≠[]->ys≠[]->(∀ x∈xs,c∉x)->(∀ y∈ys,c∉y)->catL c xs=catL c ys->xs=ys
 | [],_,h,_,_,_,_=>absurd rfl h
 | _,[],_,h,_,_,_=>absurd rfl h
 | [x],[y],_,_,_,_,h=>by
  have h':x=y:=h;rw[h']
 | [x],y::z::r,_,_,hx,_,h=>by
  have h':x=catL c (y::z::r):=h;exact absurd (h' ▸ yk) (hx x OV)
 | x::z::r,[y],_,_,_,hy,h=>by
  have h':catL c (x::z::r)=y:=h;exact absurd (h' ▸ yk) (hy y OV)
 | x::z::r,y::u::s,_,_,hx,hy,h=>by
  obtain⟨e1,e2⟩:=vv (hx x OV) (hy y OV) (show x++c::catL c (z::r)=y++c::catL c (u::s) from h);rw[e1,ym (by simp) (by simp) (λw hw=>hx w (OT _ hw)) (λw hw=>hy w (OT _ hw)) e2]
theorem Dc(x y:Str):Txt.split x y≠[]:=by
 intro h;unfold Txt.split at h
 split at h
 . cases h
 . split at h
   . cases h
   . rw[StrLaws.partsBetween_eq]at h;obtain⟨p,r,e⟩:=StrLaws.partsFrom_ne x y.length 0 (occurrences x y 0 x.length (x.length+1));rw[e]at h;cases h
theorem yn{c:Nat}{rows:List (List Nat)}(hne:rows≠[])(hf:∀ r∈rows,c∉r):Txt.split (tx (catL c rows)) (tx [c])=rows.map tx:=by
 have h1:=StrLaws.join_split (tx (catL c rows)) (tx [c]);have h2:∀ p∈Txt.split (tx (catL c rows)) (tx [c]),c∉p.cps.toList:=StrLaws.split_free _ c;have h3:=Dc (tx (catL c rows)) (tx [c]);generalize Txt.split (tx (catL c rows)) (tx [c])=S at*
 have e:S=(S.map (·.cps.toList)).map tx:=by
  rw[O4]
  conv=>lhs;rw[← QA S]
  exact Pl λx _=>(DS x).symm
 rw[e,mG]at h1;have h4:=yh h1;have h5:=ym (c:=c) (xs:=S.map (·.cps.toList)) (ys:=rows) (by simpa using h3) hne (λx hx=>by obtain⟨p,hp,rfl⟩:=OP.mp hx;exact h2 p hp) hf h4;rw[e,h5]
end L2
namespace L2
end L2
namespace L2
open PySem PySem.Spec PyProof.Rows
local macro_rules|`(tactic|walk_at "w")=>wk9 ws1
local macro_rules|`(tactic|symm)=>`(tactic|walk_at "w")
section
variable{k:Nat}{tt:TT}{te:TE}{fin:Addr->Hp->Prop}{σ0:St}{H1:Hp}
theorem BS {cs:List Nat} (b:Nat->Bool) (f:Nat->V) (hn:cs.length<=900)
  (ht:∀ i c H R,cs[i]? =some c->Same H1 H->(∀ H',Same H H'->R (b i) H')->tt (σ0.set k (some (.str (tx [c])))) H R)
  (he:∀ i c H Q,cs[i]? =some c->b i=true->Same H1 H->(∀ H',Same H H'->Q (f i) H')->te (σ0.set k (some (.str (tx [c])))) H Q)
  (hd:∀ l H,H1 l=none->Same H1 H->H l=some (.lst (((List.range cs.length).filter b).map f))->fin l H):
  CompR (Its (tx cs)) (gName k) tt te fin σ0 H1:=by
 intro l hl;have hsz:(tx cs).cps.size=cs.length:=by simp[tx]
 refine⟨λi m σ H=>m=cs.length-i/\i<=cs.length/\(σ=σ0\/∃ cv,σ=σ0.set k cv)/\Same H1 H/\H l=some (.lst (((List.range i).filter b).map f)),⟨cs.length,by simp,Py _,.inl rfl,(OL H1).laid hl,by rw[ag];rfl⟩,?_⟩;rintro i m σ H ⟨rfl,hi,hσ,s1,el⟩;by_cases hlt:i<cs.length
 . refine .inr ⟨by show i < (tx cs).cps.size;rw[hsz];exact hlt,λσ H=>(σ=σ0\/∃ cv,σ=σ0.set k cv)/\Same H1 H/\H l=some (.lst (((List.range (i+1)).filter b).map f)),λσ' H' p'=>⟨cs.length - (i+1),by omega,rfl,hlt,p'⟩,?_⟩;rintro x H' ⟨rfl,c,hc,rfl⟩;have hc':cs[i]? =some c:=by simpa [tx] using hc
   show gName k (.str (tx [c])) σ H' _;rw[aS]
   have e:σ.set k (some (.str (tx [c])))=σ0.set k (some (.str (tx [c]))):=by
    rcases hσ with rfl | ⟨cv,rfl⟩
    . rfl
    . exact Qy ..
   rw[e];refine ht i c H' _ hc' s1 λH2 s2=>?_;have el2:=s2 _ _ el
   cases hb:b i with
   | false=>
    rw[O0 OI];refine⟨.inr ⟨_,rfl⟩,s1.trans s2,?_⟩;rw[PP,Ps,Pz,hb]
    simpa using el2
   | true=>
    rw[O6 rfl];refine he i c H2 _ hc' hb (s1.trans s2) λH3 s3=>⟨_,s3 _ _ el2,by rw[OF];exact aE (O7 (mV b hlt hn) (by decide)),.inr ⟨_,rfl⟩,((s1.trans s2).trans s3).own hl,?_⟩;rw[ag,PP,Ps,Pz,hb];simp
 . have e:i=cs.length:=by omega
   subst e;exact .inl ⟨by show(tx cs).cps.size<=_;rw[hsz];exact OQ _,hd l H hl s1 el⟩
end
theorem qy{α:Type}(xs:List Int)(g:Int->α):(List.range xs.length).map (λi=>g (xs.getD i 0))=xs.map g:=by
 have e:xs=(List.range xs.length).map λi=>xs.getD i 0:=by
  refine Qi λi=>?_;rw[OH];by_cases h:i<xs.length
  . rw[PC h,OG h];simp[List.getD,h]
  . rw[Ph (by omega),Ph (by simpa using h)];rfl
 conv=>rhs;rw[e]
 rw[O4];rfl
theorem kb{sep:Str}{ts:List Str}(h1:ts.length<=1000)(h2:∀ t∈ts,t.length<=1000)(h3:sep.length<=10):JoinOk sep ts=true:=by
 unfold JoinOk;rw[Se];refine StrLaws.joinFits (B:=1000) h2 ?_;have a1:ts.length*1000<=1000*1000:=RM _ h1;have a2:ts.length*sep.length<=1000*10:=S3 h1 h3;omega
abbrev rIsN:R2:=λx y H Q=>y=.non/\Q (.bl (decide (x=.non))) H
abbrev rNotN:R2:=λx y H Q=>y=.non/\Q (.bl (!decide (x=.non))) H
def kStr:List V->Hp->VK->Prop
 | [.int i],H,Q=>i.natAbs.log2<1920/\Q (.str (Str.ofString (toString i))) H
 | _,_,_=>False
section
variable{X:Cx}
theorem cL:CallR X (.type "str") kStr:=by
 intro Ox s σ H xs us Q I r h;unfold kStr at h
 split at h
 . obtain⟨hi,q⟩:=h
   cases r with
   | cons r0 rr=>
    cases rr;obtain⟨t,rfl⟩:=r0;exact PySem.P.str_of_int hi ⟨.str _,H,I.tok _,⟨_,rfl⟩,q⟩
 . exact h.elim
end
section
variable{K:Frag}{H:Hp}{Q:VK}
theorem kc{x:V}:rIsN x .non H Q=Q (.bl (decide (x=.non))) H:=by simp[rIsN]
theorem jg{x:V}:rNotN x .non H Q=Q (.bl (!decide (x=.non))) H:=by simp[rNotN]
theorem lB{i:Int}:kStr [.int i] H Q=(i.natAbs.log2<1920/\Q (.str (Str.ofString (toString i))) H):=rfl
end
structure Bt2(mg:Str->Option Value):Prop extends Bt mg where
 all_:mg "all"=none
 sum_:mg "sum"=none
 enumerate_:mg "enumerate"=none
section
variable{K:Frag}{H:Hp}{Q:VK}{D:Ends}{σ:St}{g:TG}{tb:TS}{ta:TA}{ix:List (Option Nat)}{tt:TT}{te tf:TE}{k:Nat}
theorem lC:tIf tt te tf σ H Q=tt σ H λc H1=>if c=true then te σ H1 Q else tf σ H1 Q:=rfl
theorem dY:tComp ix (rL ta) g tt te σ H Q=ta σ H λvs H1=>∃ i j:Int,vs=[.int i,.int j]/\(-(2^62)<=i/\i<2^62/\ -(2^62)<=j/\j<2^62)/\CompR (Itr i (j-i).toNat) g tt te (λl H'=>Q (.ref l) H') (subσ ix σ) H1:=rfl
theorem cM:sComp k ix (rL ta) g tt te D σ H=ta σ H λvs H1=>∃ i j:Int,vs=[.int i,.int j]/\(-(2^62)<=i/\i<2^62/\ -(2^62)<=j/\j<2^62)/\CompR (Itr i (j-i).toNat) g tt te (λl H'=>D.nx (σ.set k (some (.ref l))) H') (subσ ix σ) H1:=rfl
theorem isiE{x:V}{n t:String}{b:Bool}(hx:mU H x=some t)(hn:rO n=true)(hb:isTy t n=b):kIsi [x,.ty n] H Q=Q (.bl b) H:=by
 subst hb;show(rO n=true/\bnd (mU H x) λt=>Q (.bl (isTy t n)) H)=_;rw[hx];simp only[hn,true_and,bP]
theorem dZ{i:Int}:kIsi [.int i,.ty "int"] H Q=Q (.bl true) H:=isiE (t:="int") rfl (by decide) (by decide)
theorem ei{i:Int}:kIsi [.int i,.ty "bool"] H Q=Q (.bl false) H:=isiE (t:="int") rfl (by decide) (by decide)
theorem eE{i:Int}:kIsi [.int i,.ty "str"] H Q=Q (.bl false) H:=isiE (t:="int") rfl (by decide) (by decide)
theorem eF{i:Bool}:kIsi [.bl i,.ty "bool"] H Q=Q (.bl true) H:=isiE (t:="bool") rfl (by decide) (by decide)
theorem eI{i:Bool}:kIsi [.bl i,.ty "int"] H Q=Q (.bl true) H:=isiE (t:="bool") rfl (by decide) (by decide)
theorem eJ{i:Str}:kIsi [.str i,.ty "str"] H Q=Q (.bl true) H:=isiE (t:="str") rfl (by decide) (by decide)
theorem eK{i:Bool}:kIsi [.bl i,.ty "str"] H Q=Q (.bl false) H:=isiE (t:="bool") rfl (by decide) (by decide)
theorem jh{A B:Prop}:(if true=true then A else B)=A:=O6 rfl
theorem ji{A B:Prop}:(if false=true then A else B)=B:=O0 OI
theorem jj{i:Int}:rU (λi=>.int (-i)) (.int i) H Q=Q (.int (-i)) H:=by
 refine propext ⟨?_,λh=>⟨i,rfl,h⟩⟩;rintro⟨j,e,h⟩;cases e;exact h
theorem ixT{p:Addr}{i:Int}{xs:List V}{v:V}(h:H p=some (.tup xs))(e:atI xs i=some v)(q:Q v H):cIx (.ref p) (.int i) H Q:=by
 rw[AF h];exact cH e q
theorem ixL{p:Addr}{i:Int}{xs:List V}{v:V}(h:H p=some (.lst xs))(e:atI xs i=some v)(q:Q v H):cIx (.ref p) (.int i) H Q:=by
 rw[Gs h];exact cH e q
theorem ixI{p:Addr}{i:Int}{ns:List Int}(h:H p=some (.lst (ns.map V.int)))(h0:0<=i)(h1:i<ns.length)(q:Q (.int (ns.getD i.toNat 0)) H):cIx (.ref p) (.int i) H Q:=ixL h (tw h0 h1) q
end
variable{P:Program}
theorem ObjOk.ob{w:World}{H:Hp}{h:Heap}{a:Addr}{o:HO}(x:ObjOk P w H h a o):∃ u,h.get? a=some u:=by
 cases o with
 | lst xs=>obtain⟨_,_,_,_,e⟩:=x;exact⟨_,e⟩
 | tup xs=>obtain⟨_,_,_,ob,e,_⟩:=x;exact⟨_,e⟩
 | dK Oz=>obtain⟨_,_,_,_,o,_,_,e,_⟩:=x;exact⟨_,e⟩
 | dT Oz=>obtain⟨_,_,_,_,o,_,_,e,_⟩:=x;exact⟨_,e⟩
 | set S n=>obtain⟨o,_,_,_,e,_⟩:=x;exact⟨_,e⟩
 | ins C dx fs=>obtain⟨_,_,_,e,_⟩:=x;exact⟨_,e⟩
 | own y=>exact x
 | xd fs=>obtain⟨_,⟨_,_,_,e,_⟩,_⟩:=x;exact⟨_,e⟩
 | rng lo hi=>obtain⟨_,_,_,e⟩:=x;exact⟨_,e⟩
 | frz ob u=>obtain⟨e,_⟩:=x;exact⟨_,e⟩
 | tbl ps=>exact⟨_,(show h.get? a=some _ from x)⟩
 | met f y=>exact⟨_,(show h.get? a=some _ from x)⟩
 | ext φ=>obtain⟨_,e,_⟩:=x;exact e
def Tr(h:Heap)(x T C:Addr)(fl:Value):Prop:=∃ oe vs oT ts a0,h.get? x=some oe/\oe.cls=.ref C/\vs[0]? =some a0/\oe.data=.fields vs/\vs[1]? =some (.ref T)/\T≠x/\h.get? T=some oT/\oT.data=.fields ts/\ts[3]? =some fl
structure Fly(P:Program)(w:World)(outer:List Env)(H:Hp)(s:Shared)(x T C:Addr)(H':Hp)(s':Shared):Prop where
 os:s'.os=s.os
 bare:AllBare s'.gens
 un:Un (frs outer) [] H H' s.heap s'.heap
 hok:HOk P w H' s'.heap
 fx:H' x=none
 fT:H' T=none
 nx:s.heap.get? x=none
 nT:s.heap.get? T=none
 tr:Tr s'.heap x T C .none
def CX1(P:Program)(w:World):CXT:=λouter H s E e s'=>∃ x T C H',e=.ref x/\Fly P w outer H s x T C H' s'/\E (.ref C) none H'
theorem yo {w:World} {env:Env} {outer:List Env} {base:Heap} {H₀ H H':Hp} {s₀ s sA:Shared} {x T' C L:Addr} {h':Heap} {ex:List Addr}
  (hos:sA.os=s₀.os) (hbare:AllBare sA.gens) (hL:env.frame=some L) (nL:s₀.heap.get? L=none)
  (U0:Un (frs outer) [] H₀ H s₀.heap s.heap) (fun0:s.heap.FunFrames base (env::outer)) (hfr:∀ b∈frs (env::outer),H b=none)
  (UA:Un (frs (env::outer)) [] H H' s.heap sA.heap) (okA:HOk P w H' sA.heap)
  (exn:∀ b∈ex,s.heap.get? b=none/\H' b=none)
  (keepAll:∀ b o,sA.heap.get? b=some o->b∉frs (env::outer)->b∉ex->h'.get? b=some o) (up:sA.heap.UpToSlots h')
  (nx:s.heap.get? x=none) (fx:H' x=none) (hT:∀ o,sA.heap.get? T'=some o->T'∈frs (env::outer)\/T'∈ex)
  (tr:Tr h' x T' C .none):Fly P w outer H₀ s₀ x T' C H' {sA with heap:=h'}:=by
 have frD:∀ b∈frs (env::outer),∃ o,s.heap.get? b=some o/\∀ vs,o.data≠.fields vs:=λb hb=>(fun0.mem hb).2
 have frA:∀ b∈frs (env::outer),∃ o,sA.heap.get? b=some o/\∀ vs,o.data≠.fields vs:=λb hb=>by
  obtain⟨o,e,d⟩:=frD b hb;obtain⟨sl,e2⟩:=UA.slot b o e (hfr b hb) hb (by simp);exact⟨_,e2,d⟩
 have frH:∀ b∈frs (env::outer),H' b=none:=λb hb=>by
  obtain⟨o,e,d⟩:=frD b hb;exact UA.free b o e (hfr b hb) (by simp)
 have Tfr:T'∉frs (env::outer):=λhb=>by
  obtain⟨o,e,d⟩:=frA T' hb;obtain⟨sl,e2⟩:=up T' o e d;obtain⟨_,_,oT,ts,_,_,_,_,_,_,_,e3,d3,_⟩:=tr;rw[e2]at e3;cases e3;exact d _ d3
 have sub:∀ b,b∈frs outer->b∈frs (env::outer):=λb hb=>by
  unfold frs at hb ⊢;rw[Pu,hL];exact OT _ hb
 have isL:∀ b,b∈frs (env::outer)->b=L\/b∈frs outer:=λb hb=>by
  unfold frs at hb ⊢;rw[Pu,hL]at hb;exact OM.mp hb
 have thereA:∀ b o,sA.heap.get? b=some o->b∉ex->∃ o',h'.get? b=some o':=λb o e hx=>by
  by_cases hb:b∈frs (env::outer)
  . obtain⟨o1,e1,d1⟩:=frA b hb;rw[e]at e1;cases e1;obtain⟨sl,e2⟩:=up b o e d1;exact⟨_,e2⟩
  . exact⟨o,keepAll b o e hb hx⟩
 have nex:∀ b o,s.heap.get? b=some o->b∉ex:=λb o e hx=>by rw[(exn b hx).1]at e;cases e
 refine⟨hos,hbare,⟨λb o e n hb _=>?_,λb o e n hb _=>?_,λb o e n _=>?_,λb o e _=>?_,λb xs e=>UA.tups b xs (U0.tups b xs e),λb o u e=>UA.frzs b o u (U0.frzs b o u e),λb ps e=>?_⟩,?_,fx,?_,?_,?_,tr⟩
 . have e1:=U0.keep b o e n hb (by simp);have n1:=U0.free b o e n (by simp)
   have nb:b∉frs (env::outer):=λz=>by
    rcases isL b z with z | z
    . rw[z,nL]at e;cases e
    . exact hb z
   exact keepAll b o (UA.keep b o e1 n1 nb (by simp)) nb (nex b o e1)
 . obtain⟨sl,e1⟩:=U0.slot b o e n hb (by simp);have n1:=U0.free b o e n (by simp);obtain⟨sl2,e2⟩:=UA.slot b _ e1 n1 (sub b hb) (by simp);obtain⟨o3,e3,d3⟩:=frA b (sub b hb);rw[e2]at e3;cases e3;obtain⟨sl4,e4⟩:=up b _ e2 d3;exact⟨sl4,e4⟩
 . have n1:=U0.free b o e n (by simp);obtain⟨o1,e1⟩:=U0.there b o e (by simp);exact UA.free b o1 e1 n1 (by simp)
 . obtain⟨o1,e1⟩:=U0.there b o e (by simp);obtain⟨o2,e2⟩:=UA.there b o1 e1 (by simp);exact thereA b o2 e2 (nex b o1 e1)
 . obtain⟨m1,e1⟩:=U0.tbls b ps e;obtain⟨m2,e2⟩:=UA.tbls b _ e1;exact⟨m1++m2,by rw[e2,RX]⟩
 . intro a o e;have key:∀ b,H' b≠none->b∉frs (env::outer)/\b∉ex:=λb hb=>⟨λz=>hb (frH b z),λz=>hb (exn b z).2⟩;refine(okA a o e).stay (λb u hb q=>?_) (λ_ q=>q) λ_ _ q=>q
   have hb':H' b≠none:=by
    rcases hb with rfl | hb
    . rw[e];simp
    . rw[hb];simp
   exact keepAll b u q (key b hb').1 (key b hb').2
 . cases q:H' T' with
   | none=>rfl
   | some o=>
    obtain⟨u,e⟩:=(okA T' o q).ob;rcases hT u e with z | z
    . exact absurd z Tfr
    . rw[(exn T' z).2]at q;cases q
 . cases q:s₀.heap.get? x with
   | none=>rfl
   | some o=>
    obtain⟨o1,e1⟩:=U0.there x o q (by simp);rw[nx]at e1;cases e1
 . cases q:s₀.heap.get? T' with
   | none=>rfl
   | some o=>
    obtain⟨o1,e1⟩:=U0.there T' o q (by simp);obtain⟨o2,e2⟩:=UA.there T' o1 e1 (by simp);rcases hT o2 e2 with z | z
    . exact absurd z Tfr
    . rw[(exn T' z).1]at e1;cases e1
theorem mW{h base:Heap}{as:List Addr}:∀{l:List Env},h.FunFrames base l->(∀ b∈frs l,b∈as)->h.FunFrames (PySem.W.hideAll h as) l
 | [],_,_=>trivial
 | env::r,⟨hk,⟨L,o,hf,_,ho,hd⟩,hr⟩,hin=>⟨hk,⟨L,o,hf,PQ as (hin L (by unfold frs;rw[Pu,hf];exact OV)),ho,hd⟩,mW hr λb hb=>hin b (by
   unfold frs at hb ⊢;rw[Pu,hf];exact OT _ hb)⟩
theorem rR{h h1 base:Heap}{H H':Hp}{fs:List Addr}:∀{l:List Env},h.FunFrames base l->(∀ b∈frs l,b∈fs/\H b=none)->Un fs [] H H' h h1->h1.FunFrames base l
 | [],_,_,_=>trivial
 | env::r,⟨hk,⟨L,o,hf,hn,ho,hd⟩,hr⟩,hin,u=>by
  obtain⟨h1,h2⟩:=hin L (by unfold frs;rw[Pu,hf];exact OV);obtain⟨sl,e⟩:=u.slot L o ho h2 h1 (by simp);exact⟨hk,⟨L,_,hf,hn,e,hd⟩,rR hr (λb hb=>hin b (by unfold frs at hb ⊢;rw[Pu,hf];exact OT _ hb)) u⟩
section
variable{P:Program}{w:World}{K:Frag}{mg:Str->Option Value}{base:Heap}{N:List Str}{qual:Str}{scope:Scope}{f:Addr}{cd:Value}{A:Around}{outer:List Env}{s₀:Shared}{H₀:Hp}{E:XK}
abbrev cx1(P:Program)(w:World)(K:Frag)(mg:Str->Option Value)(base:Heap)(N:List Str)(qual:Str)(scope:Scope)(f:Addr)(cd:Value)(A:Around)(outer:List Env)(s:Shared)(H:Hp)(E:XK):Cx:=
 cxOf (CX1 P w) P w K mg base N qual scope f cd A outer s H E
theorem cf{E':XK}(himp:∀ c d H,E' c d H->E c d H):j3 (CX1 P w) (cx1 P w K mg base N qual scope f cd A outer s₀ H₀ E) E':=by
 intro Ox σ H s e s' I h;obtain⟨x,T,C,H',rfl,F,q⟩:=h;obtain⟨oe,vs,oT,ts,a0,he,hc,h0,hd,h1,hTx,hT,hdT,h3⟩:=F.tr;have hstk:∀ b∈frs (envOfC qual scope s₀.heap.objs.size f cd::outer),H b=none:=I.stkFree;have ff:s'.heap.FunFrames base (envOfC qual scope s₀.heap.objs.size f cd::outer):=rR I.stack (λb hb=>⟨hb,hstk b hb⟩) F.un;show wpAny (model P w) (A.deeper (envOfC qual scope s₀.heap.objs.size f cd)) (leaving (envOfC qual scope s₀.heap.objs.size f cd) (.ref x)) _ _ s';have hin:∀ b∈frs (envOfC qual scope s₀.heap.objs.size f cd::outer),b∈frs (envOfC qual scope s₀.heap.objs.size f cd::outer)++[x,T]:=λb hb=>Qq _ hb
 refine wpAny_leaves_onW (base:=PySem.W.hideAll s'.heap (frs (envOfC qual scope s₀.heap.objs.size f cd::outer)++[x,T])) (cls:=.ref C) (a0:=a0) (L:=s₀.heap.objs.size) I.ok.frames rfl
  ⟨λb o e=>QT _ e,PQ _ (by simp),mW ff hin,oe,vs,T,oT,ts,he,⟨hc,h0⟩,hd,h1,PQ _ (by simp),hTx,hT,hdT,h3⟩ λh' fl up=>?_
 obtain⟨k1,k2,k3,oe',vs',T',oT',ts',a1,a2,a3,a4,a5,a6,a7,a8,a9⟩:=fl;have keepAll:∀ b o,s'.heap.get? b=some o->b∉frs (envOfC qual scope s₀.heap.objs.size f cd::outer)->b∉[x,T]->h'.get? b=some o:=λb o e hb hx=>k1 b o (Qb _ e λz=>(OY.mp z).elim hb hx);refine⟨x,T',C,H',rfl,yo (env:=envOfC qual scope s₀.heap.objs.size f cd) (base:=base) (s:=s) (sA:=s') (L:=s₀.heap.objs.size) (ex:=[x,T]) (F.os.trans I.os) F.bare rfl (Qp (OQ _)) I.base I.stack hstk F.un F.hok (λb hb=>?_) keepAll up F.nx F.fx (λo e=>?_) ⟨oe',vs',oT',ts',a0,a1,a2.1,a2.2,a3,a4,a6,a7,a8,a9⟩,himp _ _ _ q⟩
 . simp only[OM,Pn,Qg]at hb;rcases hb with rfl | rfl
   . exact⟨F.nx,F.fx⟩
   . exact⟨F.nT,F.fT⟩
 . by_cases z:T'∈frs (envOfC qual scope s₀.heap.objs.size f cd::outer)++[x,T]
   . exact OY.mp z
   . rw[Qb _ e z]at a5;cases a5
theorem Dd{Ox:List (Addr × Obj)}{σ:St}{H:Hp}{s:Shared}{h1:Heap}{x C:Addr}{args:List Value}(I:Inv (cx1 P w K mg base N qual scope f cd A outer s₀ H₀ E) Ox σ H s)(hm:Heap.MadeExcOf s.heap h1 x (.ref C) args)(q:E (.ref C) none H):
  (cx1 P w K mg base N qual scope f cd A outer s₀ H₀ E).xe (.ref x) {s with heap:=h1}:=by
 have hstk:∀ b∈frs (envOfC qual scope s₀.heap.objs.size f cd::outer),H b=none:=I.stkFree;have ff:s.heap.FunFrames base (envOfC qual scope s₀.heap.objs.size f cd::outer):=I.stack;show wpAny (model P w) (A.deeper (envOfC qual scope s₀.heap.objs.size f cd)) (leaving (envOfC qual scope s₀.heap.objs.size f cd) (.ref x)) _ _ {s with heap:=h1};refine wpAny_leaves_madeW (s:={s with heap:=h1}) (base:=PySem.W.hideAll s.heap (frs (envOfC qual scope s₀.heap.objs.size f cd::outer))) (h:=s.heap) (L:=s₀.heap.objs.size) I.ok.frames rfl (λb o e=>QT _ e) (mW ff λb hb=>hb) hm λh' t fl _ _ up=>?_;obtain⟨k1,k2,k3,oe',vs',T',oT',ts',a1,a2,a3,a4,a5,a6,a7,a8,a9⟩:=fl;have keepAll:∀ b o,s.heap.get? b=some o->b∉frs (envOfC qual scope s₀.heap.objs.size f cd::outer)->b∉([]:List Addr)->h'.get? b=some o:=λb o e hb _=>k1 b o (Qb _ e hb);refine⟨x,T',C,H,rfl,yo (env:=envOfC qual scope s₀.heap.objs.size f cd) (base:=base) (s:=s) (sA:=s) (L:=s₀.heap.objs.size) (ex:=[]) I.os I.bare rfl (Qp (OQ _)) I.base ff hstk Un.refl I.hok (λb hb=>nomatch hb) keepAll ((Heap.UpToSlots.of_keeps hm.keeps).trans up) hm.new ?_ (λo e=>?_) ⟨oe',vs',oT',ts',_,a1,a2.1,a2.2,a3,a4,a6,a7,a8,a9⟩,q⟩
 . cases z:H x with
   | none=>rfl
   | some o=>
    obtain⟨u,e⟩:=(I.hok x o z).ob;rw[hm.new]at e;cases e
 . by_cases z:T'∈frs (envOfC qual scope s₀.heap.objs.size f cd::outer)
   . exact .inl z
   . rw[Qb _ e z]at a5;cases a5
end
section
variable{prog:Program}{w:World}{A:Around}{E:Value->Shared->Prop}{h:Heap}{g:Array GenState}{d:Drawn}{t:Nat}{os:OsState}{K:Frag}{a C:Addr}{o:Obj}
structure XIs(K:Frag)(C:Addr):Prop where
 ga:findIn K (.ref C) "__getattribute__"=some (some (.builtin "BaseException.__getattribute__"))
 gx:findIn K (.ref C) "__getattr__"=some none
 cl:findIn K (.ref C) "__class__"=some (some (.builtin "object.__class__"))
 mo:PySem.W.mroIn K C (.type "object")=some true
 mb:PySem.W.mroIn K C (.type "BaseException")=some true
theorem Aa{M:Model}{T:Value}{v:Bool}(X:K.In h)(hm:PySem.W.mroIn K C T=some v):PySem.W.Looks M h (isSubtype (.ref C) T) v:=PySem.W.looks_mroIn X hm
theorem Gy{R:Result->Shared->Prop}(X:K.In h)(Z:XIs K C)(hx:h.get? a=some o)(hc:o.cls=.ref C)(hq:R (.ok (.ret (.ref C))) ⟨h,g,d,t,os⟩):
  codeAny (model prog w) A (.call (.builtin "getset_descriptor.__get__") ⟨[.builtin "object.__class__",.ref a,.ref C],[]⟩) R ⟨h,g,d,t,os⟩:=by
 have hT5:(⟨h,g,d,t,os⟩:Shared).TypeIs (.builtin "object.__class__") "getset_descriptor":=RE;have L1:PySem.W.Looks (model prog w) h (isSubtype (.ref C) (.type (".".intercalate ("object.__class__".cutAt '.').dropLast))) true:=by rw[F.owner_object_class];exact Aa X Z.mo
 refine codeAny_call_builtin S8.plain F.entry_gs_get (S8.check _ _ _ _ _ _ _ _ hT5 (F.args_gs_get _ _ _) ?_)
 repeat (any_goals (first | assumption | (with_reducible refine Re hx ?_;rw[hc]) | with_reducible refine L1.at ?_ | wp_step))
 refine⟨Code.quiet_builtin _ (by decide+kernel),QX F.entry_object_class ?_⟩
 repeat (any_goals (first | assumption | (with_reducible refine Re hx ?_;rw[hc]) | wp_step))
theorem Er{tk:Tok}{Q:Fin->Shared->Prop}(X:K.In h)(Z:XIs K C)(hx:h.get? a=some o)(hc:o.cls=.ref C)(hq:Q (.done (.ret (.ref C))) ⟨h,g,d,t,os⟩):
  wpAny (model prog w) A (Builtin.«object.__getattribute__» ⟨[.ref a,.str "__class__" tk],[]⟩) Q E ⟨h,g,d,t,os⟩:=by
 have hT5:(⟨h,g,d,t,os⟩:Shared).TypeIs (.builtin "object.__class__") "getset_descriptor":=RE;have f5:=RE;have f6:=S8.lookup;have f7:=F.slot_gs_set.lookup;have L1:=Rh (M:=model prog w) X Z.cl
 repeat (any_goals (first | assumption | (with_reducible refine Re hx ?_;rw[hc]) | with_reducible refine L1.at ?_ | wp_step))
 refine Gy X Z hx hc ?_
 repeat (any_goals (first | assumption | wp_step))
theorem Es{M:Model}{nameV:Value}{Q:Unit->Shared->Prop}(X:K.In h)(Z:XIs K C)(hx:h.get? a=some o)(hc:o.cls=.ref C)(hq:Q () ⟨h,g,d,t,os⟩):wpAny M A (checkBuiltinCall "BaseException.__getattribute__" ⟨[.ref a,nameV],[]⟩) Q E ⟨h,g,d,t,os⟩:=by
 have hk:builtinKind "BaseException.__getattribute__"=some .slot:=by decide+kernel
 have hsplit:splitId "BaseException.__getattribute__"=some ("BaseException","__getattribute__"):=by decide+kernel
 have L1:=Aa (M:=M) X Z.mb;have ha:=F.args_bexc_ga (.ref a) nameV;simp only[checkBuiltinCall,hk,hsplit];refine OO ?_
 . unfold isInstance
   repeat (first | (with_reducible refine Re hx ?_;rw[hc]) | with_reducible refine L1.at ?_ | wp_step)
   exact hq
theorem FF{tk:Tok}{R:Result->Shared->Prop}(X:K.In h)(Z:XIs K C)(hx:h.get? a=some o)(hc:o.cls=.ref C)(hq:R (.ok (.ret (.ref C))) ⟨h,g,d,t,os⟩):
  codeAny (model prog w) A (.call (.builtin "BaseException.__getattribute__") ⟨[.ref a,.str "__class__" tk],[]⟩) R ⟨h,g,d,t,os⟩:=
 codeAny_call_builtin F.attr_ValueError.ga.plain F.entry_bexc_ga (Es X Z hx hc (Er X Z hx hc hq))
theorem GS{tk:Tok}{fill expr:Bool}{Q:Value->Shared->Prop}(X:K.In h)(Z:XIs K C)(hx:h.get? a=some o)(hc:o.cls=.ref C)(hq:Q (.ref C) ⟨h,g,d,t,os⟩):
  wpAny (model prog w) A (getAttrBy (.ref a) (.str "__class__" tk) fill expr) Q E ⟨h,g,d,t,os⟩:=by
 have f3:=F.attr_ValueError.ga.bind (.ref a);have hx0:(expr&&onTheHeap (Value.builtin "BaseException.__getattribute__"))=false:=by cases expr <;> rfl
 have hx2:(Value.builtin "BaseException.__getattribute__"==Value.builtin "object.__getattribute__")=false:=by decide+kernel
 have hx1:(onTheHeap (Value.ref C)&&Value.builtin "BaseException.__getattribute__"==Value.builtin "object.__getattribute__")=false:=by rw[hx2];rfl
 have L1:=Rh (M:=model prog w) X Z.ga;have L2:=Rh (M:=model prog w) X Z.gx
 repeat (any_goals (first | assumption | (with_reducible refine Re hx ?_;rw[hc]) | with_reducible refine L1.at ?_ | with_reducible refine L2.at ?_ | wp_step))
 refine FF X Z hx hc ?_
 repeat (any_goals (first | assumption | wp_step))
theorem FG{Q:Option Value->Shared->Prop}(X:K.In h)(Z:XIs K C)(hx:h.get? a=some o)(hc:o.cls=.ref C)(hq:Q (some (.ref C)) ⟨h,g,d,t+1,os⟩):
  wpAny (model prog w) A (getAttr? (.ref a) "__class__") Q E ⟨h,g,d,t,os⟩:=by
 unfold getAttr? getAttrBy?
 repeat (any_goals (first | assumption | with_reducible apply GS X Z hx hc | wp_step))
def XO(a C:Addr):Heap->Prop:=λh=>∃ o vs,h.get? a=some o/\o.cls=.ref C/\o.data=.fields vs
theorem Ab(Z:XIs K C):∃ c' d' cd sl,K.lookup C=some ⟨c',d',.cls cd,sl⟩:=by
 have:=Z.mo;unfold PySem.W.mroIn PySem.W.clsIn at this
 split at this
 . rename_i c' d' cd' sl' ho
   exact⟨_,_,_,_,ho⟩
 . cases this
theorem De(Z:XIs K C):PySem.W.KitX K (.ref a) (.ref C) (XO a C) where
 ty:=λM h _ ⟨o,vs,hx,hc,_⟩=>by
  intro A Q E s k q;unfold typeOf;refine OO (RZ (k _ _ hx) ?_);rw[hc];exact Pf q
 it:=λM h X _=>by
  obtain⟨c',d',cd,sl,ho⟩:=Ab Z;intro A Q E s k q;unfold isType loadHead;exact OO (RZ (k _ _ (X _ _ ho)) (Pf q))
 ne:=λh tp dd OA n sl X htp=>by
  obtain⟨c',d',cd,sl',ho⟩:=Ab Z;refine Sf.mpr λq=>?_;have e:C=tp:=Value.ref.inj (QD.mp q);subst e;have z:=(X _ _ ho).symm.trans htp;cases z
 ca:=λ{prog w A E Q s} X ⟨o,vs,hx,hc,_⟩ hq=>by
  obtain⟨h,g,d,t,os⟩:=s;exact FG X Z hx hc hq
end
def cvOf:V->Option Value
 | .ref p=>some (.ref p)
 | .ty n=>some (.type n)
 | _=>none
theorem Df{c:V}{cv u:Value}(h:cvOf c=some cv)(r:RelV c u):u=cv:=by
 cases c with
 | ref p=>cases h;cases r;rfl
 | ty n=>cases h;cases r;rfl
 | _=>cases h
def kIsX(K:Frag):List V->Hp->VK->Prop:=λvs H Q=>∃ a C c cv b,vs=[.ref a,c]/\H a=some (.ext (XO a C))/\XIs K C/\cvOf c=some cv/\PySem.W.kitOne K (.ref C) cv=some b/\Q (.bl b) H
theorem qM{X:Cx}:CallR X (.builtin "isinstance") (kIsX X.K):=by
 intro Ox s σ H xs us Q I r h;obtain⟨a,C,c,cv,b,rfl,hH,Z,rc,hk,q⟩:=h;obtain⟨u,w',rfl,ru,rw'⟩:=xJ r;cases ru;have e:w'=cv:=Df rc rw';subst e;obtain⟨p,_⟩:=I.hok a _ hH;exact PZ (De Z) I.kIn p hk (λz=>nomatch z) λtk=>⟨.bl b,H,I.tok tk,rfl,q⟩
abbrev VE:List Value:=[.type "ValueError",.type "Exception",.type "BaseException",.type "object"]
def tz(e:DictEntry):Bool:=match e.key with | .str _ _=>true | _=>false
def kd(K:Frag)(N:Addr):Bool:=match K.lookup N with
 | some ⟨_,_,.dict es _,_⟩=>es.toList.all tz&&(nsFind es "__init__").isNone
 | _=>false
theorem oA{K:Frag}{N:Addr}{h:Heap}(X:K.In h)(e:kd K N=true):∃ mN,h.Ns N mN/\mN "__init__"=none:=by
 unfold kd at e
 split at e
 . rename_i c d es ep sl ho
   simp only[QB]at e;refine⟨nsFind es,⟨_,es,ep,X _ _ ho,rfl,λen hm=>?_,λ_=>rfl⟩,Option.isNone_iff_eq_none.mp e.2⟩;have:=Pb.mp e.1 en (Array.mem_def.mp hm);unfold tz at this
   split at this
   . rename_i n t q;exact⟨n,t,q⟩
   . cases this
 . cases e
structure XC(K:Frag)(C D:Addr):Prop where
 oC:∃ nm q N bs hdct sn sub ab col dd k0 k1 k2 k3 k5,K.lookup C=some (excClassObj nm q C N bs (.ref D::VE) hdct sn sub ab col dd k0 k1 k2 k3 k5 "ValueError.__new__")/\kd K N=true
 oD:∃ c0 dd cd sl,K.lookup D=some ⟨c0,dd,.cls cd,sl⟩/\kd K cd.ns=true
theorem XC.mk' {K:Frag} {C D:Addr} {nm q:Str} {N:Addr} {bs:List Value} {hdct:Bool} {sn:List Str} {sub:List Value} {ab:Bool} {col:Option Bool} {dd:Option Addr} {k0 k1 k2 k3 k5:Option Value} {c0:Value} {dD:Option Addr} {cd:ClassData} {sl:Array (Option Value)}
  (l1:K.lookup C=some (excClassObj nm q C N bs (.ref D::VE) hdct sn sub ab col dd k0 k1 k2 k3 k5 "ValueError.__new__")) (n1:kd K N=true) (l2:K.lookup D=some ⟨c0,dD,.cls cd,sl⟩) (n2:kd K cd.ns=true):XC K C D:=
 ⟨⟨_,_,_,_,_,_,_,_,_,_,_,_,_,_,_,l1,n1⟩,⟨_,_,_,_,l2,n2⟩⟩
def pC(E:XK)(C:Addr)(t:TA):TS:=λ_ σ H=>t σ H λvs H1=>vs.length<=sizeLine/\E (.ref C) none H1
section
variable{P:Program}{w:World}{K:Frag}{mg:Str->Option Value}{base:Heap}{N:List Str}{qual:Str}{scope:Scope}{f:Addr}{cd:Value}{A:Around}{outer:List Env}{s₀:Shared}{H₀:Hp}{E:XK}
theorem p8 {C D:Addr} {x:Str} {np cpos pos:Pos} {e₀:Expr} {rest:List Expr} {t:TA} (Z:XC K C D) (hg:Gl (cx1 P w K mg base N qual scope f cd A outer s₀ H₀ E) x) (hm:mg x=some (.ref C))
  (ha:PA (cx1 P w K mg base N qual scope f cd A outer s₀ H₀ E) (e₀::rest) t) (hdb:(x==("__debug__":Str))=false:=by decide)
  (he:starEach (e₀::rest) (envOfC qual scope s₀.heap.objs.size f cd)=(false,eval e₀ (envOfC qual scope s₀.heap.objs.size f cd))::starEach rest (envOfC qual scope s₀.heap.objs.size f cd):=by rfl)
  (hplain:(backTo cpos (starEach rest (envOfC qual scope s₀.heap.objs.size f cd))).any (·.1)=false:=by rfl):
  PS (cx1 P w K mg base N qual scope f cd A outer s₀ H₀ E) (.Raise (some (.Call (.Name x np) (e₀::rest) [] cpos)) none pos) (pC E C t):=by
 intro Ox s σ H D' I h;obtain⟨⟨nm,q,Nc,bs,hdct,sn,sub,ab,col,dd,k0,k1,k2,k3,k5,l1,n1⟩,⟨c0,dD,cdD,sl,l2,n2⟩⟩:=Z;obtain⟨mN,hN,hni⟩:=oA I.kIn n1;obtain⟨mD,hD,hnd⟩:=oA I.kIn n2;have hb:=I.ok.hd rfl
 refine wpAny_Raise_call_subU (C:=C) (nm:=nm) (q:=q) (N:=Nc) (bs:=bs) (bm:=.ref D::VE) (bmB:=VE) (hdct:=hdct) (sn:=sn) (sub:=sub) (ab:=ab) (col:=col) (dd:=dd) (k0:=k0) (k1:=k1) (k2:=k2) (k3:=k3) (k5:=k5)
  F.excBase_ValueError (by decide+kernel) F.excBase_ValueError (mN:=mN) (by rw[List.contains_cons,show VE.contains (.type "BaseException")=true by decide+kernel,Bool.or_true]) hb (by rw[show starEach (e₀::rest) (cx1 P w K mg base N qual scope f cd A outer s₀ H₀ E).env=_ from he];show(false||(backTo cpos (starEach rest (envOfC qual scope s₀.heap.objs.size f cd))).any (·.1))=false;rw[hplain];rfl) hni (mC I hg hm ⟨rfl,?_⟩ hdb)
 have h1:=ha cpos Ox s σ H _ I h;rw[show starEach (e₀::rest) (cx1 P w K mg base N qual scope f cd A outer s₀ H₀ E).env=_ from he]at h1 ⊢;refine RL (PF h1 (λvs s₂ h₂=>?_) λ_ _ y=>y);obtain⟨xs,H2,I2,rv,hl,hE⟩:=h₂;obtain⟨mN2,hN2,hni2⟩:=oA I2.kIn n1;obtain⟨mD2,hD2,hnd2⟩:=oA I2.kIn n2
 have kk:s.heap.Ns Nc mN->s₂.heap.Ns Nc mN:=λ⟨o,es,ep,a1,a2⟩=>by
  obtain⟨o2,es2,ep2,b1,b2⟩:=hN2;unfold kd at n1
  split at n1
  . rename_i c d es' ep' sl' ho
    have e1:=I.kIn _ _ ho;have e2:=I2.kIn _ _ ho;rw[a1]at e1;cases e1;exact⟨_,es,ep,e2,a2⟩
  . cases n1
 refine⟨rfl,by rw[← rv.length];exact hl,I2.kIn _ _ l1,kk hN,.own (I2.kIn _ _ l2) hD2 hnd2 .base,λh' e hm'=>?_⟩;exact Dd I2 hm' hE
end
theorem uu{P:Program}{w:World}{X:Cx}:j3 (CX1 P w) X E0:=λ_ _ _ _ _ _ _ h=>by obtain⟨_,_,_,_,_,_,q⟩:=h;exact(show False from q).elim
section
variable{P:Program}{w:World}{K:Frag}{mg:Str->Option Value}{base:Heap}
theorem Fun.ok1 {x qual:Str} {st:Stmt} {f:Addr} {fd:FuncData} {N ps:List Str} {k:Nat} {sp:Sp} (F:Fun K x qual st f fd) (S:am N ps (ai st)) (len:∀ vs H Q E,sp vs H Q E->vs.length=ps.length)
  (hbody:∀(Oy:Value) (A:Around) (outer:List Env) (s:Shared) (H:Hp) (vs:List V) (Q:VK) (E:XK),Room k (A.deeper (envOfC qual (ai st) s.heap.objs.size f Oy))->sp vs H Q E->
   ∃ t,PSs (cx1 P w K mg base N qual (ai st) f Oy A outer s H E) (aV st) t/\t {nx:=λ_ H'=>Q .non H',rt:=Q} (start N vs) H):FnOk P w K mg base (CX1 P w) (k+1) f fd ps sp:=by
 obtain⟨oc,od,kV,doc,pm,an,Oy,ct,osl,rfl,lk,hcd⟩:=F.ex;exact AC lk hcd S len λA outer s H vs Q E hr hsp=>hbody Oy A outer s H vs Q E hr hsp
end
section
variable{X:Cx}{Ox:List (Addr × Obj)}{σ:St}{H:Hp}{s s':Shared}
theorem BT{H':Hp}{x T C:Addr}{a0:Value}{h5:Heap}(I:Inv X Ox σ H s)(F:Fly X.prog X.w X.stack H s x T C H' s')(fl:Heap.FlyingW (PySem.W.hideAll s'.heap (frs X.stack++[x,T])) X.stack x (.ref C) a0 h5)(up:s'.heap.UpToSlots h5):
  Inv X Ox σ (upd H' x (.ext (XO x C))) {s' with heap:=h5}:=by
 obtain⟨k1,_,_,oe,vs,T',oT,ts,he,hc,hd,_⟩:=fl;have keepAll:∀ b o,s'.heap.get? b=some o->b∉frs X.stack->b∉[x,T]->h5.get? b=some o:=λb o e hb hx=>k1 b o (Qb _ e λz=>(OY.mp z).elim hb hx);have frD:∀ b∈frs X.stack,∃ o,s.heap.get? b=some o/\∀ vs,o.data≠.fields vs:=λb hb=>(I.stack.mem hb).2;have hstk:=I.stkFree
 have nxT:∀ b o,s.heap.get? b=some o->b∉[x,T]:=λb o e z=>by
  simp only[OM,Pn,Qg]at z;rcases z with rfl | rfl
  . rw[F.nx]at e;cases e
  . rw[F.nT]at e;cases e
 have slots:∀ b o,s.heap.get? b=some o->H b=none->b∈frs X.stack->∃ sl,h5.get? b=some {o with slots:=sl}:=λb o e n hb=>by
  obtain⟨sl,e1⟩:=F.un.slot b o e n hb (by simp);obtain⟨o2,e2,d2⟩:=frD b hb;rw[e]at e2;cases e2;obtain⟨sl2,e3⟩:=up b _ e1 d2;exact⟨sl2,e3⟩
 have frH:∀ b∈frs X.stack,H' b=none:=λb hb=>by
  obtain⟨o,e,d⟩:=frD b hb;exact F.un.free b o e (hstk b hb) (by simp)
 have ne:∀ b o,H' b=some o->b≠x:=λb o e z=>by rw[z,F.fx]at e;cases e
 have okx:ObjOk X.prog X.w (upd H' x (.ext (XO x C))) h5 x (.ext (XO x C)):=⟨⟨oe,vs,he,hc.1,hd⟩,⟨oe,he⟩,λh1 h2 ⟨o,vs,q,r⟩ k=>⟨o,vs,k o q,r⟩⟩;refine I.call' (ch:=[]) F.os ⟨λb o e n hb _=>?_,λb o e n hb _=>?_,λb o e n _=>?_,λb o e _=>?_,λb xs e=>?_,λb o u e=>?_,λb ps e=>?_⟩ (λa o e=>?_) F.bare λb z=>absurd z (by simp)
 . exact keepAll b o (F.un.keep b o e n hb (by simp)) hb (nxT b o e)
 . exact slots b o e n hb
 . have n1:=F.un.free b o e n (by simp);rw[ah λz=>nxT b o e (by rw[z];simp)];exact n1
 . by_cases hb:b∈frs X.stack
   . obtain⟨sl,e1⟩:=slots b o e (hstk b hb) hb;exact⟨_,e1⟩
   . obtain⟨o',e1⟩:=F.un.there b o e (by simp);exact⟨o',keepAll b o' e1 hb (nxT b o e)⟩
 . have q:=F.un.tups b xs e;rw[ah (ne b _ q)];exact q
 . have q:=F.un.frzs b o u e;rw[ah (ne b _ q)];exact q
 . obtain⟨m,q⟩:=F.un.tbls b ps e;exact⟨m,by rw[ah (ne b _ q)];exact q⟩
 . by_cases ha:a=x
   . subst ha;rw[ag]at e;cases e;exact okx
   . rw[ah ha]at e;refine(F.hok a o e).stay (λb u hb q=>?_) (λb q=>?_) λb xs q=>?_
     . have hb':H' b≠none:=by
        rcases hb with rfl | hb
        . rw[e];simp
        . rw[hb];simp
       refine keepAll b u q (λz=>hb' (frH b z)) λz=>?_;simp only[OM,Pn,Qg]at z;rcases z with rfl | rfl
       . exact hb' F.fx
       . exact hb' F.fT
     . rw[ah (ne b _ q)];exact q
     . rw[ah (ne b _ q)];exact q
theorem rS {M:Model} {A:Around} {E:Value->Shared->Prop} {i:Nat} {x:Str} {pos:Pos} {Q:Unit->Shared->Prop} (I:Inv X Ox σ H s) (hN:X.N.Nodup) (hi:X.N[i]? =some x) (hk:X.env.kindOf x=some .local)
  (h:∀ s',Inv X Ox (σ.set i none) H s'->Q () s'):wpAny M A (do bindName X.env x .none;unbindBehindTheSuite X.env x pos) Q E s:=by
 obtain⟨m,hn,hl⟩:=id I.loc;have hcls:(X.env.scope.kind==.class||(X.env.scope.kind==.module&&X.env.locals != X.env.globals))=false:=by rw[I.ok.kind];rfl
 have hiσ:i<σ.length:=by rw[I.len];exact(OK.mp hi).1
 have cne:=I.cne;refine wpAny_nameGoes_keeps hk hn hcls λh' v hn' hs=>?_;obtain⟨oL,_,_,hoL,_⟩:=id hn
 have tracked:HOk X.prog X.w H h':=λb ob e=>by
  refine(I.hok b ob e).stay (λc w' hc q=>(hs.2 c ?_).trans q) (λ_ q=>q) λ_ _ q=>q;rintro rfl;rcases hc with rfl | hc
  . rw[I.free]at e;cases e
  . rw[I.free]at hc;cases hc
 refine h _ ⟨I.ok,I.os,I.bare,⟨λb o e n hb hx=>?_,λb o e n hb hx=>?_,I.base.free,λb o e hx=>?_,I.base.tups,I.base.frzs,I.base.tbls⟩,⟨_,hn',λj y v' e1 e2 e3=>?_⟩,λy c e=>?_,I.free,I.freeC,λp hp=>?_,tracked,by simpa using I.len⟩
 . exact(hs.2 b (Po (Pe (OZ e) I.ok.above))).trans (I.base.keep b o e n hb hx)
 . obtain⟨sl,e1⟩:=I.base.slot b o e n hb hx;exact⟨sl,(hs.2 b (Po (Pe (OZ e) I.ok.above))).trans e1⟩
 . obtain⟨o',e1⟩:=I.base.there b o e hx;exact⟨o',(hs.2 b (Po (Pe (OZ e) I.ok.above))).trans e1⟩
 . by_cases hj:j=i
   . subst hj;rw[QU hiσ]at e2;cases e2
   . rw[RJ (Rk hj)]at e2;obtain⟨u',r',q⟩:=hl j y v' e1 e2 e3;refine⟨u',r',?_⟩;rcases q with ⟨k,e⟩ | ⟨k,c,e,z⟩
     . refine .inl ⟨k,?_⟩;have:y≠x:=λe=>hj (sV hN e1 (e ▸ hi));simp[this,e]
     . exact .inr ⟨k,c,e,z.sameBut hs (cne y c e)⟩
 . obtain⟨w',z⟩:=I.cell y c e;exact⟨w',z.sameBut hs (cne y c e)⟩
 . obtain⟨e,n,ne,nf,d⟩:=I.pin p hp;exact⟨(hs.2 p.1 ne).trans e,n,ne,nf,d⟩
end
abbrev Cx.caught(X:Cx)(x:Addr):Cx:={X with A:=X.A.mark (some (.ref x)),calm:=false,xe:=λ_ _=>False}
section
variable{X:Cx}{Ox:List (Addr × Obj)}{σ:St}{H:Hp}{s:Shared}{x:Addr}
theorem Cx.Ok.caught(ok:X.Ok):(X.caught x).Ok:=
 ⟨ok.mod,ok.kind,ok.glob,ok.blt,ok.above,ok.inj,ok.has,ok.cab,(λz=>nomatch z),ok.frames,ok.stk,ok.exf,ok.bs,ok.bsz,ok.noex,ok.exfs,ok.funs,ok.frf⟩
theorem Inv.caught(I:Inv X Ox σ H s):Inv (X.caught x) Ox σ H s:=⟨I.ok.caught,I.os,I.bare,I.base,I.loc,I.cell,I.free,I.freeC,I.pin,I.hok,I.len⟩
theorem Inv.uncaught(ok:X.Ok)(I:Inv (X.caught x) Ox σ H s):Inv X Ox σ H s:=⟨ok,I.os,I.bare,I.base,I.loc,I.cell,I.free,I.freeC,I.pin,I.hok,I.len⟩
end
def Came(X:Cx)(Ox:List (Addr × Obj))(σ:St)(E:XK)(e:Value)(s':Shared):Prop:=∃ H1 s1,Inv X Ox σ H1 s1/\CX1 X.prog X.w X.stack H1 s1 E e s'
section
variable{X:Cx}{k:Nat}{f:Addr}{fd:FuncData}{ps:List Str}{sp:Sp}{x:Str}{p pos:Pos}{e:Expr}{es:List Expr}{t:TA}
theorem Ac {Ox:List (Addr × Obj)} {s:Shared} {σ:St} {H:Hp} {Q:VK} (E:XK) (hnx:∀ e s,X.xe e s->False) (F:FnOk X.prog X.w X.K X.mg X.base (CX1 X.prog X.w) k f fd ps sp) (hr:Room k X.A) (hg:Gl X x) (hm:X.mg x=some (.ref f)) (hk:keepIn X.K (.ref f)=true) (hb:Binds X.K fd ps [])
  (ha:PA X (e::es) t) (I:Inv X Ox σ H s) (h:t σ H λvs H1=>sp vs H1 Q E) (hdb:(x==("__debug__":Str))=false:=by decide) (he:starEach (e::es) X.env=(false,eval e X.env)::starEach es X.env:=by rfl) (hpl:(backTo pos (starEach es X.env)).any (·.1)=false:=by rfl):
  wpAny (model X.prog X.w) X.A (eval (.Call (.Name x p) (e::es) [] pos) X.env) (EP X Ox σ Q) (Came X Ox σ E) s:=by
 refine PU (mC I hg hm ?_ hdb);refine R0 (h₀:=X.base) I.ok.mod.kin hk (PF (ha pos Ox s σ H _ I h) (λus s1 ⟨vs,H1,I1,r,q⟩=>⟨I1.kIn,?_⟩) λe s z=>(hnx e s z).elim) he hpl;have r2:Vals vs (us++[]):=by simpa using r
 have hl:(us++[]).length=ps.length:=by rw[← r2.length];exact F.len _ _ _ _ q
 refine wpAny_call (Sy (F.run X.A X.stack s1 H1 ⟨us,[]⟩ (us++[]) vs Q E hr I1.env0 (hb s1 us I1.kIn hl) r2 q) λr s' hq=>?_)
 cases r with
 | error e=>exact⟨H1,s1,I1,hq⟩
 | ok fl=>
  cases fl with
  | ret u=>exact I1.after hq
  | next=>exact False.elim hq
  | brk=>exact False.elim hq
  | cont=>exact False.elim hq
def BU(K:Frag)(cv:Value)(i:Nat)(E:XK)(th:TS):TS:=λD σ _=>∀ C H2,E (.ref C) none H2->PySem.W.exmOne K (.ref C) cv=some true/\∀ x,H2 x=none->
 th {nx:=λσ' H'=>D.nx (σ'.set i none) H',rt:=D.rt,bk:=λσ' H'=>D.bk (σ'.set i none) H',ct:=λσ' H'=>D.ct (σ'.set i none) H'} (σ.set i (some (.ref x))) (upd H2 x (.ext (XO x C)))
theorem Et{M:Model}{a C:Addr}{h:Heap}(z:XO a C h):PySem.W.Looks M h (typeOf (.ref a)) (.ref C):=by
 obtain⟨o,vs,hx,hc,_⟩:=z;intro A Q E s k q;unfold typeOf;refine OO (RZ (k _ _ hx) ?_);rw[hc];exact Pf q
theorem yp {Ox:List (Addr × Obj)} {s':Shared} {σ:St} {H:Hp} {D:Ends} {E:XK} {i:Nat} {n cn:Str} {cv e:Value} {np hpos:Pos} {b₀:Stmt} {suite:List Stmt} {th:TS} (hN:X.N.Nodup) (hi:X.N[i]? =some n) (hkn:X.env.kindOf n=some .local) (hg:Gl X cn) (hm:X.mg cn=some cv)
  (hst:X.stack=X.env::X.outer) (hf:X.env.frame=some X.env.locals) (hs:∀ x,PSs (X.caught x) (b₀::suite) th) (hc:Came X Ox σ E e s') (h:BU X.K cv i E th D σ H) (hdb:(cn==("__debug__":Str))=false:=by decide):
  wpAny (model X.prog X.w) X.A (noteFrame e X.env) (λ_ s₂=>wpAny (model X.prog X.w) X.A (setFlight e none) (λ_ s₃=>wpAny (model X.prog X.w) X.A (handleBy e X.env [.ExceptHandler (some (.Name cn np)) (some n) (b₀::suite) hpos]) (SP X Ox D) X.xe s₃) X.xe s₂) X.xe s':=by
 obtain⟨H1,s1,I,x,T,C,H',rfl,F,q⟩:=hc;obtain⟨hC,hth⟩:=h C H' q;obtain⟨oe,vs,oT,ts,a0,he,hcl,h0,hd,h1,hTx,hT,hdT,h3⟩:=F.tr;have ff:s'.heap.FunFrames X.base X.stack:=rR I.stack (λb hb=>⟨hb,I.stkFree b hb⟩) F.un
 have fl:Heap.FlyingW (PySem.W.hideAll s'.heap (frs X.stack++[x,T])) X.stack x (.ref C) a0 s'.heap:=
  ⟨λb o e=>QT _ e,PQ _ (by simp),mW ff λb hb=>Qq _ hb,oe,vs,T,oT,ts,he,⟨hcl,h0⟩,hd,h1,PQ _ (by simp),hTx,hT,hdT,h3⟩
 have fl':=fl;rw[hst]at fl';have hfr:X.A.frames=some (X.env::X.outer):=by rw[I.ok.frames,hst]
 refine wpAny_looks_onW hfr hf fl' λh4 held up4=>?_;refine wpAny_landsW held λh5 fl5 up5=>?_;have I5:=BT (a0:=a0) (h5:=h5) I F (by rw[hst];exact fl5) (up4.trans up5);refine wpAny_handleBy_cons (codeAny_handlers_test (mC (X:=X.caught x) I5.caught hg hm ?_ hdb)) (by intro q;cases q);have hx5:XO x C h5:=(I5.hok x _ ag).1;refine(PySem.W.exm_one (M:=model X.prog X.w) (h:=h5) I5.kIn (Et hx5) hC).here ?_;refine codeAny_handlers_suite_as ?_;refine lands_againW fl5 λh6 fl6 up6=>?_;have I6:=BT (a0:=a0) (h5:=h6) I F (by rw[hst];exact fl6) ((up4.trans up5).trans up6);refine sW (X:=X.caught x) (v:=.ref x) I6.caught hN hi (.inl hkn) rfl (λs7 I7=>?_) (.inr hkn);refine PF (hs x Ox s7 _ _ _ I7 (hth x F.fx)) (λfw s8 h8=>?_) λ_ _ z=>z.elim
 cases fw with
 | next=>obtain⟨σ',H9,I9,q9⟩:=h8;exact rS (I9.uncaught I.ok) hN hi hkn λs' I'=>⟨_,H9,I',q9⟩
 | brk=>obtain⟨σ',H9,I9,q9⟩:=h8;exact rS (I9.uncaught I.ok) hN hi hkn λs' I'=>⟨_,H9,I',q9⟩
 | cont=>obtain⟨σ',H9,I9,q9⟩:=h8;exact rS (I9.uncaught I.ok) hN hi hkn λs' I'=>⟨_,H9,I',q9⟩
 | ret u=>obtain⟨v,σ',H9,I9,r9,q9⟩:=h8;exact rS (I9.uncaught I.ok) hN hi hkn λs' I'=>⟨v,_,H9,I',r9,q9⟩
end
def mH(es:Array DictEntry):Bool:=es.toList.all tz&&(nsFind es "__init__").isNone
variable{K:Frag}{sl:Array (Option Value)}
theorem wJ{N:Addr}{c:Value}{d:Option Addr}{es:Array DictEntry}{n:Nat}(l:K.lookup N=some ⟨c,d,.dict es n,sl⟩)(h:mH es=true):kd K N=true:=by
 unfold kd;rw[l];exact h
structure EA where
 ClueError:Addr
 NoFloor:Addr
 NoFilling:Addr
 NoRule:Addr
 NoPuzzle:Addr
 TooMany:Addr
 NotOne:Addr
 NoMove:Addr
 NoText:Addr
 NoName:Addr
 NoRow:Addr
 BadThought:Addr
abbrev Glb(K:Frag)(x:Str)(C:Addr):Prop:=nsIn K mainGlobals x=some (some (.ref C))
variable{C:Addr}
theorem Glb.eq{x:Str}{D:Addr}(h:Glb K x C)(h':Glb K x D):C=D:=by
 have:=h.symm.trans h';cases this;rfl
structure gY(K:Frag)(a:EA)(x:Str)(C:Addr)(os:List Addr):Prop where
 g:Glb K x C
 xc:XC K C a.ClueError
 xis:XIs K C
 ve:PySem.W.kitOne K (.ref C) (.type "ValueError")=some true
 ex:PySem.W.exmOne K (.ref C) (.ref a.ClueError)=some true
 no:∀ y∈os,PySem.W.kitOne K (.ref C) (.ref y)=some false
theorem Dg:PySem.W.kitOne K (.ref C) (.ref C)=some true:=by
 unfold PySem.W.kitOne;rw[O6 (by simp)]
theorem DT{x y:Addr}{b:Bool}{H:Hp}{Q:VK}(Z:XIs K C)(hx:H x=some (.ext (XO x C)))(hk:PySem.W.kitOne K (.ref C) (.ref y)=some b)(h:Q (.bl b) H):kIsX K [.ref x,.ref y] H Q:=⟨x,C,_,_,b,rfl,hx,Z,rfl,hk,h⟩
theorem DU {D:Addr} {nm q:Str} {N ND:Addr} {bs:List Value} {hdct:Bool} {sn:List Str} {sub:List Value} {ab:Bool} {col:Option Bool} {dd:Option Addr} {k0 k1 k2 k3 k5:Option Value} {c0:Value} {dD:Option Addr} {cd:ClassData}
  {cN cE:Value} {dN dE:Option Addr} {es es':Array DictEntry} {n n':Nat} {sN sE:Array (Option Value)}
  (l1:K.lookup C=some (excClassObj nm q C N bs (.ref D::VE) hdct sn sub ab col dd k0 k1 k2 k3 k5 "ValueError.__new__")) (m1:K.lookup N=some ⟨cN,dN,.dict es n,sN⟩) (n1:mH es=true)
  (l2:K.lookup D=some ⟨c0,dD,.cls cd,sl⟩) (e2:cd.ns=ND) (m2:K.lookup ND=some ⟨cE,dE,.dict es' n',sE⟩) (n2:mH es'=true):XC K C D:=.mk' l1 (wJ m1 n1) l2 (wJ (by rw[e2];exact m2) n2)
structure bf(P:Program)(w:World)(K:Frag)(mg:Str->Option Value)(base:Heap)(k:Nat)(x:Str)(ps:List Str)(sp:Sp):Prop where
 ex:∃(f:Addr) (fd:FuncData),FnOk P w K mg base (CX1 P w) k f fd ps sp/\mg x=some (.ref f)/\keepIn K (.ref f)=true/\Binds K fd ps []
theorem bg {X:Cx} {k n:Nat} {x:Str} {ps:List Str} {sp:Sp} {p pos:Pos} {e:Expr} {es:List Expr} {t:TA} {E:XK} (hE:j3 (CX1 X.prog X.w) X E) (C:bf X.prog X.w X.K X.mg X.base k x ps sp) (hr:Room n X.A) (hk:k<=n) (hg:Gl X x) (ha:PA X (e::es) t)
  (hdb:(x==("__debug__":Str))=false:=by decide) (he:starEach (e::es) X.env=(false,eval e X.env)::starEach es X.env:=by rfl) (hpl:(backTo pos (starEach es X.env)).any (·.1)=false:=by rfl):
  PE X (.Call (.Name x p) (e::es) [] pos) (tCall sp [] E t):=by
 obtain⟨f,fd,F,hm,hkp,hb⟩:=C.ex;exact zY F (hr.mono hk) hg hm hkp hb .nil hE ha hdb he hpl
def cMulB:R2
 | .int i,.int j,H,Q=>IntMulOk i j/\Q (.int (i*j)) H
 | _,_,_,_=>False
end L2
namespace Att
open PySem PySem.W PySem.Calls PyProof.Rows
end Att
namespace L2
open PySem PySem.Spec PyProof.Rows
section
variable{K:Frag}{H:Hp}{Q:VK}{D:Ends}{σ:St}
theorem HP{i j:Int}:cMulB (.int i) (.int j) H Q=(IntMulOk i j/\Q (.int (i*j)) H):=rfl
theorem lD{i j:Int}:cPow (.int i) (.int j) H Q=(CPow i j/\Q (.int (i^j.toNat)) H):=rfl
theorem pD{E:XK}{C:Addr}{t:TA}:pC E C t D σ H=t σ H λvs H1=>vs.length<=sizeLine/\E (.ref C) none H1:=rfl
theorem Gz{p:Addr}{bs:List Bool}(hp:H p=some (.lst (bs.map V.bl)))(h:Q (.bl (bs.any id)) H):kAny [.ref p] H Q:=by
 show bnd (unL (H p)) _;rw[hp];exact cH (a:=bs.map V.bl) rfl ⟨bs,rfl,h⟩
theorem pE{p q:Addr}{xs ys:List V}(hp:H p=some (.lst xs))(hq:H q=some (.lst ys))(hn:xs.length+ys.length<=1000)(h:∀ r,H r=none->Q (.ref r) (upd H r (.lst (xs++ys)))):cAdd (.ref p) (.ref q) H Q:=by
 show bnd (unM (H p)) _;rw[hp];refine cH (a:=xs) rfl ?_;rw[hq];exact cH (a:=ys) rfl ⟨PD (aE hn),h⟩
end
inductive RK where
 | Rule | Unlike | Sum | Rising | Seen | Count | Joined | NoSquare | Ring
 deriving DecidableEq
structure RCl (ι:Type) where
 A:ι->Addr
 ok:ι->Bool
section
variable{ι:Type}
def tFldK(c:RCl ι)(ta:TE)(f:Str):TE:=λσ H Q=>ta σ H λx H1=>∃ a k dx fs v,x=.ref a/\c.ok k=true/\H1 a=some (.ins (c.A k) dx fs)/\fs.lookup f=some v/\Q v H1
def sFldK(c:RCl ι)(ta tv:TE)(f:Str):TS:=λD σ H=>tv σ H λy H1=>ta σ H1 λx H2=>∃ a k dx fs,x=.ref a/\c.ok k=true/\H2 a=some (.ins (c.A k) dx fs)/\fs.length<1000/\
 D.nx σ (upd H2 a (.ins (c.A k) dx (putF f y fs)))
def aL(c:RCl ι)(okm:ι->Bool)(m:Str)(sp:ι->Sp)(ta:TE)(t:TA):TE:=λσ H Q=>ta σ H λx H1=>∃ a k dx fs,x=.ref a/\okm k=true/\H1 a=some (.ins (c.A k) dx fs)/\fs.lookup m=none/\
 t σ H1 λvs H2=>sp k (x::vs) H2 Q E0
structure FldK(K:Frag)(c:RCl ι)(f:Str):Prop where
 ex:∀ k,c.ok k=true->Cls K (c.A k)/\NoAttr K (c.A k) f
structure MCal(P:Program)(w:World)(K:Frag)(mg:Str->Option Value)(base:Heap)(c:RCl ι)(okm:ι->Bool)(k:Nat)(m:Str)(ps:List Str)(sp:ι->Sp):Prop where
 ex:∀ i,okm i=true->∃(f:Addr) (fd:FuncData),Cls K (c.A i)/\Meth K (c.A i) m f/\FnOk P w K mg base CX0 k f fd ps (sp i)/\Binds K fd ps []
structure KCal(P:Program)(w:World)(K:Frag)(mg:Str->Option Value)(base:Heap)(k:Nat)(x:Str)(C:Addr)(ps:List Str)(sp:Sp):Prop where
 ex:∃(f:Addr) (fd:FuncData),Mk K C f/\FnOk P w K mg base CX0 k f fd ps sp/\mg x=some (.ref C)/\Binds K fd ps []
end
section
variable{ι:Type}{X:Cx}{c:RCl ι}{o e value:Expr}{es:List Expr}{f x m:Str}{p pos pos' apos:Pos}{ta tv:TE}{t:TA}{okm:ι->Bool}{k n:Nat}{ps:List Str}{sp:ι->Sp}{sp1:Sp}{C:Addr}
theorem fM(he:PE X e ta)(F:FldK X.K c f)(hb:attributeBase e f X.env (eval e X.env)=eval e X.env:=by rfl):PE X (.Attribute e f pos) (tFldK c ta f):=by
 intro Ox s σ H Q I h;refine Ec hb (thn (he Ox s σ H _ I h) λu s1 ⟨x,H1,I1,rx,a,k,dx,fs,v,ex,hk,ea,l,q⟩=>?_);subst ex;obtain rfl:u=Value.ref a:=rx;obtain⟨cl,na⟩:=F.ex k hk;exact Ax I1 ea cl na l λu' s2 I2 ru=>⟨v,H1,I2,ru,q⟩
theorem jV(ha:PE X o ta)(hv:PE X value tv)(F:FldK X.K c f)(hs:swapsWith value (some (.Attribute o f pos')) pos.line X.env=pure false:=by rfl):PS X (.Assign [.Attribute o f pos'] value pos) (sFldK c ta tv f):=by
 intro Ox s σ H D I h;refine plainObj_wpAny_Assign_Attribute (thn (hv Ox s σ H _ I h) λu s1 ⟨y,H1,I1,ry,q⟩=>thn (ha Ox s1 σ H1 _ I1 q) λov s2 ⟨x,H2,I2,rx,a,k,dx,fs,ex,hk,ea,l,q2⟩=>?_) hs;subst ex;obtain rfl:ov=Value.ref a:=rx;obtain⟨cl,na⟩:=F.ex k hk;exact Az I2 ea cl na l ry λs3 I3=>⟨σ,_,I3,q2⟩
theorem aC {pl:Sem Bool} (M:MCal X.prog X.w X.K X.mg X.base c okm k m ps sp) (hr:Room n X.A) (hk:k<=n) (he:PE X o ta)
  (ht:eval (.Call (.Attribute o m apos) [] [] pos) X.env=(do
   let ov ← eval o X.env
   standAt apos.atName
   let (f,first) ← holding [ov] (getMethod ov m pl)
   callWith pos f first (backTo pos (starEach [] X.env)) (backToKw pos (keywordEach [] X.env))):=by rfl):
  PE X (.Call (.Attribute o m apos) [] [] pos) (aL c okm m sp ta tNil):=by
 intro Ox s σ H Q I h;refine PySem.W.methodCall_KW (pl:=pl) (thn (he Ox s σ H _ I h) λu s1 ⟨x,H1,I1,rx,a,i,dx,fs,ex,hi,ea,l,q⟩=>?_) ht;subst ex;obtain rfl:u=Value.ref a:=rx;obtain⟨f,fd,cl,hm,F,hb⟩:=M.ex i hi;refine Ay I1 ea cl hm l ?_;exact PySem.W.callWith_K0 (first:=[.ref a]) I1.kIn hm.kp (Bm (us:=[.ref a]) (vs:=[.ref a]) F (hr.mono hk) hb .nil AD I1 (.cons rfl .nil) q)
theorem iN (M:KCal X.prog X.w X.K X.mg X.base k x C ps sp1) (hr:Room n X.A) (hk:k+1<=n) (hg:Gl X x) (ha:PA X (e::es) t)
  (hdb:(x==("__debug__":Str))=false:=by decide) (he:starEach (e::es) X.env=(false,eval e X.env)::starEach es X.env:=by rfl) (hpl:(backTo pos (starEach es X.env)).any (·.1)=false:=by rfl):
  PE X (.Call (.Name x p) (e::es) [] pos) (tMake C sp1 [] E0 t):=by
 obtain⟨f,fd,mk,F,hm,hb⟩:=M.ex;exact Ed mk F (hr.mono hk) hg hm hb .nil AD ha hdb he hpl
end
def mX(K:Frag):List V->Hp->VK->Prop
 | [.ref p],H,Q=>bnd (unM (H p)) λys=>∀ l,H l=none->Q (.ref l) (upd H l (.tup ys))
 | _,_,_=>False
def tInG(ws:List Str)(neg:Bool)(te:TE):TE:=λσ H Q=>te σ H λx H1=>∃ z,x=.str z/\Q (.bl (if neg then !decide (z∈ws) else decide (z∈ws))) H1
structure GTup(K:Frag)(mg:Str->Option Value)(x:Str)(ws:List Str):Prop where
 ex:∃(p:Addr) (o:Obj) (OA:Array Value) (n:Nat),mg x=some (.ref p)/\K.lookup p=some o/\o.cls=.type "tuple"/\o.data=.seq OA n/\OA.size<=sizeLine/\Vals (ws.map V.str) OA.toList
theorem oB:∀ ns:List Str,(ns.map V.str).all flatV=true
 | []=>rfl
 | n::r=>by rw[Pr,Sk,oB r];rfl
theorem tD(i:Str):∀ ns:List Str,inV (.str i) (ns.map V.str)=decide (i∈ns)
 | []=>by simp[inV]
 | n::r=>by
  have ih:=tD i r;unfold inV at ih ⊢;rw[Pr,QJ,ih];show((n==i)||decide (i∈r))=decide (i∈n::r);rw[Pw,SO,QD,Pp,Pp,OM];exact⟨λh=>h.elim (λe=>.inl e.symm) .inr,λh=>h.elim (λe=>.inl e.symm) .inr⟩
section
variable{X:Cx}{a:Expr}{ta:TE}{pos p:Pos}{x:Str}{ws:List Str}
theorem sP:CallR X (.type "tuple") (mX X.K):=by
 intro Ox s σ H xs us Q I r h;unfold mX at h
 split at h
 . obtain⟨ys,e,q⟩:=aZ h;exact wW Ox s σ H _ us Q I r ⟨_,ys,rfl,.inl ⟨Pc (gS e),q⟩⟩
 . exact h.elim
theorem FH{ws:List Str}{q:Addr}(hq:∃(o:Obj) (OA:Array Value) (n:Nat),X.K.lookup q=some o/\o.cls=.type "tuple"/\o.data=.seq OA n/\OA.size<=sizeLine/\Vals (ws.map V.str) OA.toList):
  OpR X (compareOp .In) (λx y H Q=>∃ z,x=.str z/\y=.ref q/\Q (.bl (decide (z∈ws))) H):=by
 intro Ox s σ H x y v u Q I rx ry h;obtain⟨z,rfl,rfl,h⟩:=h;refine wC Ox s σ H _ _ v u Q I rx ry ⟨q,ws.map V.str,rfl,.inr (.inr hq),rfl,oB ws,?_⟩;rw[tD];exact h
theorem Eu{ws:List Str}{q:Addr}(hq:∃(o:Obj) (OA:Array Value) (n:Nat),X.K.lookup q=some o/\o.cls=.type "tuple"/\o.data=.seq OA n/\OA.size<=sizeLine/\Vals (ws.map V.str) OA.toList):
  OpR X (compareOp .NotIn) (λx y H Q=>∃ z,x=.str z/\y=.ref q/\Q (.bl (!decide (z∈ws))) H):=by
 intro Ox s σ H x y v u Q I rx ry h;obtain⟨z,rfl,rfl,h⟩:=h;refine qG Ox s σ H _ _ v u Q I rx ry ⟨q,ws.map V.str,rfl,.inr (.inr hq),rfl,oB ws,?_⟩;rw[tD];exact h
end
section
variable{ι:Type}{c:RCl ι}{ta tv:TE}{t:TA}{f m:Str}{σ:St}{H:Hp}{Q:VK}{D:Ends}{okm:ι->Bool}{sp:ι->Sp}{sp1:Sp}{C:Addr}{K:Frag}
theorem jk:tMake C sp1 [] E0 t σ H Q=t σ H λvs H1=>∀ x dx,H1 x=none->H1 dx=none->dx≠x->sp1 (.ref x::(vs++[])) (upd (upd H1 dx (.own x)) x (.ins C dx [])) (λv H2=>v=.non/\Q (.ref x) H2) E0:=rfl
theorem jv{ws:List Str}{neg:Bool}{te:TE}:tInG ws neg te σ H Q=te σ H λx H1=>∃ z,x=.str z/\Q (.bl (if neg then !decide (z∈ws) else decide (z∈ws))) H1:=rfl
theorem Ev{p:Addr}{xs:List V}(hp:H p=some (.lst xs))(h:∀ l,H l=none->Q (.ref l) (upd H l (.tup xs))):mX K [.ref p] H Q:=by
 unfold mX
 try dsimp only
 rw[hp];exact h
end
def cntD(ns:List Int):Nat:=(firstMet (λi=>ns.getD i 0) ns.length).length
def vw(te:TE):TE:=λσ H Q=>te σ H λx H1=>∃ p ns,x=.ref p/\H1 p=some (.lst (ns.map V.int))/\ns.length<=900/\Q (.int (cntD ns:Nat)) H1
theorem eP{te:TE}{σ:St}{H:Hp}{Q:VK}:vw te σ H Q=te σ H λx H1=>∃ p ns,x=.ref p/\H1 p=some (.lst (ns.map V.int))/\ns.length<=900/\Q (.int (cntD ns:Nat)) H1:=rfl
theorem Ew:bootBuiltins "set"=some (.type "set"):=by decide+kernel
theorem BW {X:Cx} {e:Expr} {te:TE} {p p2 pos pos2:Pos} (hc:X.calm=true) (hgl:Gl X "len") (hgs:Gl X "set") (hl:X.mg "len"=none) (hs:X.mg "set"=none) (he:PE X e te)
  (hs1:starEach [.Call (.Name "set" p2) [e] [] pos2] X.env=[(false,eval (.Call (.Name "set" p2) [e] [] pos2) X.env)]:=by rfl) (hs2:starEach [e] X.env=[(false,eval e X.env)]:=by rfl):
  PE X (.Call (.Name "len" p) [.Call (.Name "set" p2) [e] [] pos2] [] pos) (vw te):=by
 intro Ox s σ H Q I h;refine PU (cW I hgl hl bG ?_ (by decide) (by decide));refine RF ?_ hs1 rfl;rw[hs1];show wpAny _ _ (spliced [(false,eval (.Call (.Name "set" p2) [e] [] pos2) X.env)]) _ _ s;refine P7 ?_;refine PU (cW I hgs hs Ew ?_ (by decide) (by decide));refine Pm ?_ hs2 rfl;rw[hs2];show wpAny _ _ (spliced [(false,eval e X.env)]) _ _ s;refine P7 (thn (he Ox s σ H _ I h) λu s1 ⟨x,H1,I1,r1,q1⟩=>?_);refine Qh ?_;obtain⟨l,ns,rfl,hys,hn,q⟩:=q1;cases r1;obtain⟨OA,n,rv,ho,hz⟩:=I1.lst hys;have hL:s1.heap.IsList l OA.toArray:=⟨_,ho,rfl,n,rfl⟩;have hI:IntsAre OA ns:=uc rv;have OC:=rv.length;rw[OF]at OC;refine call_set_list (ns:=ns) (I.ok.hd hc) hL (by simpa using hI) (by rw[OX,← OC];exact PK (Nat.succ_le_succ hn) (by decide)) λh' tk hS old=>?_;refine Qh ?_;obtain⟨o,es,ep,t,h1,h2,h3,h4,h5,h6,h7,h8⟩:=hS;have hb:(firstMet (λi=>ns.getD i 0) OA.toArray.size).length<=900:=O7 (firstMet_length_le _ _) (by rw[OX,← OC];exact hn);refine call_len_set h1 h2 h3 h7 (by omega) ?_;have I2:Inv X Ox σ H1 {s1 with heap:=h',toks:=tk}:=I1.kept λb o' e=>old b o' (OZ e) e;refine⟨.int _,H1,I2.tok _,⟨_,rfl⟩,?_⟩;rw[h8,OX,← OC];exact q
def jl:V->List V->Hp->VK->Prop
 | .str sep,[.ref p],H,Q=>bnd (unS (H p)) λys=>∃ ts:List Str,ys=ts.map V.str/\JoinOk sep ts=true/\Q (.str (Txt.join sep ts)) H
 | _,_,_,_=>False
theorem oE{X:Cx}:MtR X "str.join" jl:=by
 intro Ox s σ H x vs v us Q I rx rv h;unfold jl at h
 split at h
 . rename_i sep p
   obtain⟨ys,e,ts,rfl,hok,q⟩:=aZ h;rcases px (K:=X.K) e with hq | hq
   . obtain⟨t,rfl⟩:=rx;obtain⟨u,rfl,ru⟩:=dh rv;cases ru;obtain⟨OA,rvv,pl,hz⟩:=I.list hq;obtain⟨l,rfl,hl⟩:=vp rvv;exact SC.join pl.isList hl hok λt' k=>⟨.str _,H,I.tok k,⟨t',rfl⟩,q⟩
   . obtain⟨t,rfl⟩:=rx;obtain⟨u,rfl,ru⟩:=dh rv;cases ru;obtain⟨OA,rvv,pl,hz⟩:=I.tuple hq;obtain⟨l,rfl,hl⟩:=vp rvv;subst hl;obtain⟨o,h1,h2,n,h3⟩:=pl;have hok':=hok;unfold JoinOk at hok';rw[Se]at hok';exact QV F.slot_str_join (RH _ _ _) F.entry_str_join (F.args_str_join_2 _ _) (meets_str_join_tuple sep t p l hok') ⟨⟨o,n,h1,h2,h3⟩,post_join l ⟨joinFit_length hok',λt' k=>⟨.str _,H,I.tok k,⟨t',rfl⟩,q⟩⟩⟩
 . exact h.elim
section
variable{X:Cx}{e:Expr}{te:TE}{p2 p3 p4 pos:Pos}{z0:Nat}
def qN:V->List V->Hp->VK->Prop
 | .ref l,[.int i],H,Q=>bnd (unM (H l)) λxs=>0<=i/\i<xs.length/\bnd (xs[i.toNat]?) λy=>Q y (upd H l (.lst (xs.eraseIdx i.toNat)))
 | _,_,_,_=>False
theorem seqIx{i:Int}{n:Nat}(h0:0<=i)(h1:i<n):seqIndex? i n=some i.toNat:=by
 obtain⟨k,rfl⟩:=Sq h0;have hk:k<n:=by omega
 unfold seqIndex?;have hn:¬ ((k:Int)<0):=by omega
 simp[hk,hn]
theorem wK:MtR X "list.pop" qN:=by
 intro Ox s σ H x vs v us Q I rx rv h;unfold qN at h
 split at h
 . obtain⟨xs,e,h0,h1,h⟩:=aZ h;obtain⟨y,ey,q⟩:=aZ h;have hz:xs.length<=sizeLine:=(I.lstM (gS e)).1;have hs:(sizeLine:Int)<2^63:=by decide
   exact CV Ox s σ H _ _ v us Q I rx rv ⟨_,xs,_,_,y,rfl,rfl,gS e,by omega,by omega,seqIx h0 h1,ey,q⟩
 . exact h.elim
def tRevL(te:TE):TE:=λσ H Q=>te σ H λx H1=>∃ p xs,x=.ref p/\H1 p=some (.lst xs)/\∀ l,H1 l=none->Q (.ref l) (upd H1 l (.lst xs.reverse))
end
section
variable{σ:St}{H:Hp}{Q:VK}{te:TE}
theorem ke{i j:Int}{H:Hp}{Q:VK}:kMax [.int i,.int j] H Q=Q (.int (if j>i then j else i)) H:=rfl
theorem jm:tRevL te σ H Q=te σ H λx H1=>∃ p xs,x=.ref p/\H1 p=some (.lst xs)/\∀ l,H1 l=none->Q (.ref l) (upd H1 l (.lst xs.reverse)):=rfl
theorem Ad{l:Addr}{i:Int}{xs:List V}{y:V}(hl:H l=some (.lst xs))(h0:0<=i)(h1:i<xs.length)(ey:xs[i.toNat]? =some y)(q:Q y (upd H l (.lst (xs.eraseIdx i.toNat)))):qN (.ref l) [.int i] H Q:=by
 show bnd (unM (H l)) _;rw[hl];exact cH (a:=xs) rfl ⟨h0,h1,cH ey q⟩
end
theorem AL:typeLookup (.type "str") (Str.ofString "__int__")=pure none:=by rw[Rs,QE];kernel_rfl
theorem yq:typeLookup (.type "str") (Str.ofString "__index__")=pure none:=by rw[Rs,QE];kernel_rfl
theorem yr:typeLookup (.type "str") (Str.ofString "__trunc__")=pure none:=by rw[Rs,QE];kernel_rfl
def numC(n:Nat):List Nat:=if n<10 then [48+n] else [48+n/10,48+n%10]
variable{n:Nat}
theorem BX(h:n<100):((tx (numC n)).cps.all λx=>decide (x<128))=true:=by
 have t:((List.range 100).all λn=>(tx (numC n)).cps.all λx=>decide (x<128))=true:=by decide+kernel
 exact Pb.mp t n (O5.mpr h)
theorem BY{α:Type}{M:Model}{A:Around}{E:Value->Shared->Prop}{s:Shared}{Q:α->Shared->Prop}{m m':Sem α}(e:m=m')(h:wpAny M A m' Q E s):wpAny M A m Q E s:=e ▸ h
theorem gis(n:Nat)(hn:n<100)(u:Tok):Gives (Builtin.«int.__new__» ⟨[.type "int",.str (tx (numC n)) u],[]⟩) (.int n):=
 .of_wp λM A E s Q h=>by
  obtain⟨hp,g,d,tk,os⟩:=s;have f1:=PySem.F.conv_sub_int;have f2:=PySem.F.madeHere_int;have f3:=AL;have f4:=yq;have f5:=yr
  iterate 44 (any_goals (first | assumption | wp_step))
  refine OO (Sg (a:=some (tx (numC n))) rfl ?_);refine Sg (a:=some (numC n)) ?e1 ?_
  case e1=>
   show(pure (some (if ((tx (numC n)).cps.all λx=>decide (x<128))=true then(tx (numC n)).cps.toList else _)):Sem _)=_;rw[O6 (BX hn),ka]
  refine BY (m':=mkInt (n:Int)) ?e2 ?_
  case e2=>
   clear h f1 f2 f3 f4 f5
   match n,hn with |0,_ |1,_ |2,_ |3,_ |4,_ |5,_ |6,_ |7,_ |8,_ |9,_ |10,_ |11,_ |12,_ |13,_ |14,_ |15,_ |16,_ |17,_ |18,_ |19,_ |20,_ |21,_ |22,_ |23,_ |24,_ |25,_ |26,_ |27,_ |28,_ |29,_ |30,_ |31,_ |32,_ |33,_ |34,_ |35,_ |36,_ |37,_ |38,_ |39,_ |40,_ |41,_ |42,_ |43,_ |44,_ |45,_ |46,_ |47,_ |48,_ |49,_ |50,_ |51,_ |52,_ |53,_ |54,_ |55,_ |56,_ |57,_ |58,_ |59,_ |60,_ |61,_ |62,_ |63,_ |64,_ |65,_ |66,_ |67,_ |68,_ |69,_ |70,_ |71,_ |72,_ |73,_ |74,_ |75,_ |76,_ |77,_ |78,_ |79,_ |80,_ |81,_ |82,_ |83,_ |84,_ |85,_ |86,_ |87,_ |88,_ |89,_ |90,_ |91,_ |92,_ |93,_ |94,_ |95,_ |96,_ |97,_ |98,_ |99,_=>kernel_rfl | (m+100),hm=>exact absurd hm (by omega)
  repeat (any_goals (first | assumption | wp_step))
  all_goals first | exact⟨_,rfl,h⟩ | skip
def mm:List V->Hp->VK->Prop
 | [.int i],H,Q=>Q (.int i) H
 | [.bl k],H,Q=>Q (.int (if k then 1 else 0)) H
 | [.str z],H,Q=>∃ n:Nat,n<100/\z=tx (numC n)/\Q (.int n) H
 | _,_,_=>False
theorem uv{X:Cx}:CallR X (.type "int") mm:=by
 intro Ox s σ H xs us Q I r h;unfold mm at h
 split at h
 . exact wx Ox s σ H _ us Q I r (.inl ⟨_,rfl,h⟩)
 . exact wx Ox s σ H _ us Q I r (.inr ⟨_,rfl,h⟩)
 . obtain⟨n,hn,rfl,q⟩:=h;obtain⟨u,rfl,ru⟩:=dh r;obtain⟨t,rfl⟩:=ru;exact call_int_1 (gis n hn t).meets (show(Made.int (n:Int)).post _ s from⟨rfl,⟨.int n,H,I.tok _,⟨_,rfl⟩,q⟩⟩)
 . exact h.elim
theorem gF{k:Bool}{H:Hp}{Q:VK}:mm [.bl k] H Q=Q (.int (if k then 1 else 0)) H:=rfl
theorem gG{i:Int}{H:Hp}{Q:VK}:mm [.int i] H Q=Q (.int i) H:=rfl
theorem pG(h:n<100):Str.ofString (toString (n:Int))=tx (numC n):=by
 have t:((List.range 100).all λ(n:Nat)=>decide (Str.ofString (toString (n:Int))=tx (numC n)))=true:=by decide+kernel
 simpa using Pb.mp t n (O5.mpr h)
theorem tE(h:n<100):32∉numC n:=by
 have t:((List.range 100).all λ(n:Nat)=>decide (32∉numC n))=true:=by decide+kernel
 simpa using Pb.mp t n (O5.mpr h)
theorem FI(h:n<100):numC n≠[]:=by unfold numC;split <;> simp
theorem gH:(numC n).length<=2:=by unfold numC;split <;> simp
theorem Dh(h:n<100):((numC n).head? =some 48->n=0)/\numC 0=[48]:=by
 have t:((List.range 100).all λ(n:Nat)=>decide ((numC n).head? =some 48->n=0))=true:=by decide+kernel
 exact⟨QH (Pb.mp t n (O5.mpr h)),rfl⟩
theorem mI(h:n<100):∀ c∈numC n,48<=c/\c<=57:=by
 have t:((List.range 100).all λ(n:Nat)=>(numC n).all λc=>decide (48<=c/\c<=57))=true:=by decide+kernel
 intro c hc
 simpa using Pb.mp (Pb.mp t n (O5.mpr h)) c hc
local macro_rules|`(tactic|walk_at "w")=>wk9 ws1
local macro_rules|`(tactic|symm)=>`(tactic|walk_at "w")
def ba(K:Frag):Sp:=λvs H Q _=>∃(a:Addr) (h w g:Int),vs=[.ref a]/\IsFl H a h w g/\1<=h/\h<=6/\Q (.int (h*w)) H
def lN(K:Frag):TS:=
 by exists ":leQen0df#0 en0df#1 "
theorem wZ{K:Frag}{vs:List V}{H:Hp}{Q:VK}{E:XK}(h:ba K vs H Q E):lN K {nx:=λ_ H'=>Q .non H',rt:=Q} (start ["floor"] vs) H:=by
 obtain⟨a,h,w,g,rfl,ha,h0,h1,q⟩:=h;show lN K _ [some (.ref a)] H;unfold lN;symm;rw[AF ha];refine cH (a:=V.int h) rfl ?_;symm;rw[AF ha];refine cH (a:=V.int w) rfl ?_;symm;exact⟨oy h0 h1,q⟩
def ws4:String:="az jk jv eP jm gF gG ke kc jg lD if_true if_false Bool.false_eq_true decide_true decide_false gD gE lC dY cM gB je gC dX jb jd dW lz dZ ei eF eI eJ eK eE jh ji jj i9 lB Bool.not_true Bool.not_false az "++ws1
local macro_rules|`(tactic|walk_at "w")=>wk9 ws4
def nmC:RK->List Nat
 | .Rule=>[]
 | .Unlike=>[117,110,108,105,107,101]
 | .Sum=>[115,117,109]
 | .Rising=>[114,105,115,105,110,103]
 | .Seen=>[115,101,101,110]
 | .Count=>[99,111,117,110,116]
 | .Joined=>[106,111,105,110,101,100]
 | .NoSquare=>[110,111,115,113,117,97,114,101]
 | .Ring=>[114,105,110,103]
def cT:List Str:=[tx [115,117,109],tx [115,101,101,110],tx [99,111,117,110,116]]
def cZ:List Str:=[tx [99,111,117,110,116],tx [106,111,105,110,101,100],tx [110,111,115,113,117,97,114,101],tx [114,105,110,103]]
def cy:List Str:=[tx [106,111,105,110,101,100],tx [110,111,115,113,117,97,114,101],tx [114,105,110,103]]
def rFs(p W C:Addr)(n m:Int):List (Str × V):=[("floor",.ref p),("words",.ref W),("cells",.ref C),("amount",.int n),("mark",.int m)]
structure IsRule(H:Hp)(c:RCl RK)(k:RK)(r p:Addr)(ws:List (List Nat))(cs:List Int)(n m:Int):Prop where
 ok:c.ok k=true
 ex:∃ dx W C,H r=some (.ins (c.A k) dx (rFs p W C n m))/\H W=some (.tup ((ws.map tx).map V.str))/\H C=some (.tup (cs.map V.int))
variable{H:Hp}{c:RCl RK}{p:Addr}{cs:List Int}
theorem IsRule.same{H':Hp}{k:RK}{r:Addr}{ws:List (List Nat)}{n m:Int}(x:IsRule H c k r p ws cs n m)(s:Same H H'):IsRule H' c k r p ws cs n m:=by
 obtain⟨dx,W,C,h1,h2,h3⟩:=x.ex;exact⟨x.ok,dx,W,C,s _ _ h1,s _ _ h2,s _ _ h3⟩
section
variable{ι:Type}{c:RCl ι}{σ:St}{H:Hp}{Q:VK}{i:Nat}{r dx:Addr}{k:ι}{fs:List (Str × V)}{f m:Str}{v:V}{okm:ι->Bool}{sp:ι->Sp}{t:TA}{D:Ends}{tv:TE}{y:V}{H1:Hp}
theorem fldE(hσ:σ[i]? =some (some (.ref r)))(ok:c.ok k=true)(hr:H r=some (.ins (c.A k) dx fs))(hl:fs.lookup f=some v)(q:Q v H):tFldK c (tVar i) f σ H Q:=pN hσ ⟨r,k,dx,fs,v,rfl,ok,hr,hl,q⟩
theorem methE(hσ:σ[i]? =some (some (.ref r)))(ok:okm k=true)(hr:H r=some (.ins (c.A k) dx fs))(hl:fs.lookup m=none)(q:t σ H λvs H2=>sp k (.ref r::vs) H2 Q E0):aL c okm m sp (tVar i) t σ H Q:=pN hσ ⟨r,k,dx,fs,rfl,ok,hr,hl,q⟩
theorem sfldV{j:Nat}{x:V}(hj:σ[j]? =some (some x))(hσ:σ[i]? =some (some (.ref r)))(ok:c.ok k=true)(hr:H r=some (.ins (c.A k) dx fs))(hn:fs.length<1000)(q:D.nx σ (upd H r (.ins (c.A k) dx (putF f x fs)))):sFldK c (tVar i) (tVar j) f D σ H:=
 pN hj (pN hσ ⟨r,k,dx,fs,rfl,ok,hr,hn,q⟩)
theorem sfldT {K:Frag} {j:Nat} {p:Addr} {xs:List V} (hj:σ[j]? =some (some (.ref p))) (hp:H p=some (.lst xs)) (hσ:σ[i]? =some (some (.ref r))) (ok:c.ok k=true) (hr:H r=some (.ins (c.A k) dx fs)) (hn:fs.length<1000)
  (q:∀ l,H l=none->D.nx σ (upd (upd H l (.tup xs)) r (.ins (c.A k) dx (putF f (.ref l) fs)))):sFldK c (tVar i) (tCB (mX K) (tCons (tVar j) tNil)) f D σ H:=by
 unfold sFldK;symm;refine pN hj (Ev hp λl hl=>?_);exact pN hσ ⟨r,k,dx,fs,rfl,ok,by rw[ah (ar hr hl)];exact hr,hn,q l hl⟩
end
variable{Q:VK}
theorem Ex{xs:List V}(hp:H p=some (.tup xs))(h:∀ l,H l=none->Q (.ref l) (upd H l (.lst xs))):kList [.ref p] H Q:=by
 unfold kList
 try dsimp only
 rw[hp];exact h
variable{ts:List Str}
theorem Ey{sep:Str}(hp:H p=some (.tup (ts.map V.str)))(hok:JoinOk sep ts=true)(h:Q (.str (Txt.join sep ts)) H):jl (.str sep) [.ref p] H Q:=by
 unfold jl
 try dsimp only
 rw[hp];exact⟨ts,rfl,hok,h⟩
theorem vx{sep:Str}(hp:H p=some (.lst (ts.map V.str)))(hok:JoinOk sep ts=true)(h:Q (.str (Txt.join sep ts)) H):jl (.str sep) [.ref p] H Q:=by
 unfold jl
 try dsimp only
 rw[hp];exact⟨ts,rfl,hok,h⟩
def mJ(K:Frag)(c:RCl RK)(k:RK):Sp:=λvs H Q _=>∃(r p:Addr) (w:List Nat) (ws:List (List Nat)) (cs:List Int) (n m:Int),vs=[.ref r]/\IsRule H c k r p (w::ws) cs n m/\Q (.str (tx w)) H
def jA(K:Frag)(c:RCl RK)(k:RK):Sp:=λvs H Q _=>∃(r p:Addr) (ws:List (List Nat)) (cs:List Int) (n m:Int),vs=[.ref r]/\IsRule H c k r p ws cs n m/\∀ l,H l=none->Q (.ref l) (upd H l (.lst (cs.map V.int)))
def jW(K:Frag)(c:RCl RK)(k:RK):Sp:=λvs H Q _=>∃(r p:Addr) (ws:List (List Nat)) (cs:List Int) (n m:Int),vs=[.ref r]/\IsRule H c k r p ws cs n m/\Q (.int n) H
def mK(K:Frag)(c:RCl RK)(k:RK):Sp:=λvs H Q _=>∃(r p:Addr) (ws:List (List Nat)) (cs:List Int) (n m:Int),vs=[.ref r]/\IsRule H c k r p ws cs n m/\Q (.int m) H
def pH(K:Frag)(c:RCl RK)(k:RK):Sp:=λvs H Q _=>∃(r p:Addr) (ws:List (List Nat)) (cs:List Int) (n m:Int),vs=[.ref r]/\IsRule H c k r p ws cs n m/\ws.length<=100/\(∀ w∈ws,w.length<=100)/\Q (.str (tx (catL 32 ws))) H
def recB:RK->Bool
 | .Sum=>true
 | .Rising=>true
 | .Seen=>true
 | _=>false
def fY(K:Frag)(c:RCl RK)(k:RK):Sp:=λvs H Q _=>∃(r p:Addr) (ws:List (List Nat)) (cs:List Int) (n m:Int),vs=[.ref r]/\IsRule H c k r p ws cs n m/\Q (.bl (recB k)) H
def aq(K:Frag)(c:RCl RK):Sp:=λvs H Q _=>∃(k:RK) (x dx p W C:Addr) (ws:List (List Nat)) (cs:List Int) (n m:Int),vs=[.ref x,.ref p,.ref W,.ref C,.int n,.int m]/\c.ok k=true/\H x=some (.ins (c.A k) dx [])/\W≠x/\C≠x/\
 H W=some (.lst ((ws.map tx).map V.str))/\H C=some (.lst (cs.map V.int))/\∀ H',(∀ b o,b≠x->H b=some o->H' b=some o)->IsRule H' c k x p ws cs n m->Q .non H'
def jB(K:Frag)(c:RCl RK):TS:=
 by exists ":g?i01~qg?i0q~/ba2c~Jg?i0q~/ba3c~:g?i04~;?i05~?"
variable{K:Frag}{vs:List V}{E:XK}
theorem tF(h:aq K c vs H Q E):jB K c {nx:=λ_ H'=>Q .non H',rt:=Q} (start ["self","floor","words","cells","amount","mark"] vs) H:=by
 obtain⟨k,x,dx,p,W,C,ws,cs,n,m,rfl,ok,hx,nW,nC,hW,hC,q⟩:=h;show jB K c _ [some (.ref x),some (.ref p),some (.ref W),some (.ref C),some (.int n),some (.int m)] H;unfold jB;symm;refine sfldV (k:=k) (j:=1) rfl rfl ok hx (by decide) ?_;symm;refine sfldT (k:=k) (j:=2) (p:=W) rfl (by rw[ah nW];exact hW) rfl ok ag (by show(1:Nat)<1000;decide) λl1 h1=>?_;have n1:l1≠x:=λe=>by rw[e,ag]at h1;cases h1
 have g1:H l1=none:=by rw[ah n1]at h1;exact h1
 symm;refine sfldT (k:=k) (j:=3) (p:=C) rfl (by rw[ah nC,ah (ar hC g1),ah nC];exact hC) rfl ok ag (by show(2:Nat)<1000;decide) λl2 h2=>?_;have n2:l2≠x:=λe=>by rw[e,ag]at h2;cases h2
 have n21:l2≠l1:=λe=>by rw[e,ah n1,ag]at h2;cases h2
 have g2:H l2=none:=by rw[ah n2,ah n21,ah n2]at h2;exact h2
 symm;refine sfldV (k:=k) (j:=4) rfl rfl ok ag (by show(3:Nat)<1000;decide) ?_;symm;refine sfldV (k:=k) (j:=5) rfl rfl ok ag (by show(4:Nat)<1000;decide) ?_;refine q _ (λb o hb e=>?_) ⟨ok,dx,l1,l2,by rw[ag];rfl,?_,?_⟩
 . rw[ah hb,ah hb,ah hb,ah (ar e g2),ah hb,ah (ar e g1),ah hb];exact e
 . rw[ah n1,ah n1,ah n1,ah n21.symm,ah n1,ag]
 . rw[ah n2,ah n2,ah n2,ag]
def mY(K:Frag)(c:RCl RK):Sp:=λvs H Q E=>∃ k,mJ K c k vs H Q E
def mZ(K:Frag)(c:RCl RK):TS:=
 by exists ":len-i0~Jdf#0 "
theorem yt(h:mY K c vs H Q E):mZ K c {nx:=λ_ H'=>Q .non H',rt:=Q} (start ["self"] vs) H:=by
 obtain⟨k,r,p,w,ws,cs,n,m,rfl,x,q⟩:=h;obtain⟨dx,W,C,h1,h2,h3⟩:=x.ex;show mZ K c _ [some (.ref r)] H;unfold mZ;symm;refine fldE rfl x.ok h1 (v:=.ref W) (by rfl) ?_;symm;have e0:atI (((w::ws).map tx).map V.str) 0=some (V.str (tx w)):=dr (j:=0) rfl;exact ixT h2 e0 q
def lO(K:Frag)(c:RCl RK):Sp:=λvs H Q E=>∃ k,jA K c k vs H Q E
def lP(K:Frag)(c:RCl RK):TS:=
 by exists ":lq~ra-i0~:c"
theorem w5(h:lO K c vs H Q E):lP K c {nx:=λ_ H'=>Q .non H',rt:=Q} (start ["self"] vs) H:=by
 obtain⟨k,r,p,ws,cs,n,m,rfl,x,q⟩:=h;obtain⟨dx,W,C,h1,h2,h3⟩:=x.ex;show lP K c _ [some (.ref r)] H;unfold lP;symm;refine fldE rfl x.ok h1 (v:=.ref C) (by rfl) ?_;symm;exact Ex h3 q
def kY(K:Frag)(c:RCl RK):Sp:=λvs H Q E=>∃ k,jW K c k vs H Q E
def kZ(K:Frag)(c:RCl RK):TS:=
 by exists ":l-i0~;"
theorem vy(h:kY K c vs H Q E):kZ K c {nx:=λ_ H'=>Q .non H',rt:=Q} (start ["self"] vs) H:=by
 obtain⟨k,r,p,ws,cs,n,m,rfl,x,q⟩:=h;obtain⟨dx,W,C,h1,h2,h3⟩:=x.ex;show kZ K c _ [some (.ref r)] H;unfold kZ;symm;exact fldE rfl x.ok h1 (v:=.int n) (by rfl) q
def m5(K:Frag)(c:RCl RK):Sp:=λvs H Q E=>∃ k,mK K c k vs H Q E
def m6(K:Frag)(c:RCl RK):TS:=
 by exists ":l-i0~?"
theorem yu(h:m5 K c vs H Q E):m6 K c {nx:=λ_ H'=>Q .non H',rt:=Q} (start ["self"] vs) H:=by
 obtain⟨k,r,p,ws,cs,n,m,rfl,x,q⟩:=h;obtain⟨dx,W,C,h1,h2,h3⟩:=x.ex;show m6 K c _ [some (.ref r)] H;unfold m6;symm;exact fldE rfl x.ok h1 (v:=.int m) (by rfl) q
def m7(K:Frag)(c:RCl RK):Sp:=λvs H Q E=>∃ k,pH K c k vs H Q E
def ng(K:Frag)(c:RCl RK):TS:=
 by exists ":lFb[~xdtu`0a-i0~Jc",[32]
theorem yw(h:m7 K c vs H Q E):ng K c {nx:=λ_ H'=>Q .non H',rt:=Q} (start ["self"] vs) H:=by
 obtain⟨k,r,p,ws,cs,n,m,rfl,x,hn,hw,q⟩:=h;obtain⟨dx,W,C,h1,h2,h3⟩:=x.ex;show ng K c _ [some (.ref r)] H;unfold ng;symm;refine⟨pX,fldE rfl x.ok h1 (v:=.ref W) (by rfl) ?_⟩;symm;refine Ey h2 (kb (by rw[OF];omega) (λt ht=>by obtain⟨y,hy,rfl⟩:=OP.mp ht;rw[cr];have:=hw y hy;omega) (by rw[cr];decide)) ?_;rw[p7,mG];exact q
def kf(K:Frag)(c:RCl RK):Sp:=λvs H Q E=>∃ k,recB k=false/\fY K c k vs H Q E
def kg(K:Frag)(c:RCl RK):TS:=
 by exists ":ldVG"
theorem uw(h:kf K c vs H Q E):kg K c {nx:=λ_ H'=>Q .non H',rt:=Q} (start ["self"] vs) H:=by
 obtain⟨k,hk,r,p,ws,cs,n,m,rfl,x,q⟩:=h;rw[hk]at q;show kg K c _ [some (.ref r)] H;unfold kg;symm;exact q
def gZ(K:Frag):Sp:=λvs H Q _=>∃ n:Nat,vs=[.str (tx (numC n))]/\n<100/\∀ H',Same H H'->Q (.int n) H'
def nh(K:Frag):TS:=
 by exists ":goWmesb0dtu=Wme>qKa0cdf#9 ~jmesben0df#0 dtu`0meXb0dtu`0ld]pgoMCq~KaD&-- 'N0h#1 Be~kbG1dtu`1cld]plq~[a0c",[48],[48,49,50,51,52,53,54,55,56,57]
theorem FJ{c:Nat}(h0:48<=c)(h1:c<=57):(!(Builtin.Str.occurrences (tx [48,49,50,51,52,53,54,55,56,57]) ⟨#[c]⟩ 0 (tx [48,49,50,51,52,53,54,55,56,57]).length 1).isEmpty)=true:=by
 have t:((List.range 58).all λc=>!decide (48<=c)||!(Builtin.Str.occurrences (tx [48,49,50,51,52,53,54,55,56,57]) ⟨#[c]⟩ 0 (tx [48,49,50,51,52,53,54,55,56,57]).length 1).isEmpty)=true:=by decide+kernel
 have:=Pb.mp t c (O5.mpr (by omega))
 simpa [h0] using this
theorem yx(h:gZ K vs H Q E):nh K {nx:=λ_ H'=>Q .non H',rt:=Q} (start ["word"] vs) H:=by
 obtain⟨n,rfl,hn,q⟩:=h;have hne:=FI hn;have hl:=gH (n:=n);show nh K _ [some (.str (tx (numC n)))] H;unfold nh;rw[az,aN];symm;rw[ut,OW hne];refine iteF ⟨by rw[cr];exact bd (by omega),?_⟩;symm;rw[cr,OW (show ¬ (9:Int) < ((numC n).length:Nat) by omega)];refine iteF ?_;rw[Gw,cr,ka]
 obtain⟨c,r,ec⟩:∃ c r,numC n=c::r:=by
  cases e:numC n with
  | nil=>exact absurd e hne
  | cons c r=>exact⟨c,r,rfl⟩
 refine⟨bd (by omega),cH (a:=c) (by rw[ec];exact dr (j:=0) rfl) ?_⟩;symm
 have e1:decide ((⟨#[c]⟩:Str)=tx [48])=decide (c=48):=by
  have:(⟨#[c]⟩:Str)=tx [c]:=rfl;rw[this,ut];simp
 rw[e1,ut]
 have e2:(decide (c=48)=true->decide (numC n=[48])=true):=by
  intro h;rw[Pp]at h;have:=(Dh hn).1 (by rw[ec,h];rfl);subst this;decide
 have goal2:tSeq (tIfS (tNot (tB (tCB kAll (tCons (tComp [none,none] (iStr (tVar 0)) (gName 1) tTrue (tOp (cIn K false) (tVar 1) (tC (.str (tx [48,49,50,51,52,53,54,55,56,57]))))) tNil)))) (tRet (tC .non)) tNext) (tRet (tCB mm (tCons (tVar 0) tNil)))
   {nx:=λ_ H'=>Q .non H',rt:=Q} [some (.str (tx (numC n)))] H:=by
  rw[az,aN];symm;refine BS (cs:=numC n) (λ_=>true) (λ_=>.bl true) (by omega) ?_ ?_ ?_
  . intro i c H1 R hc s1 k1;exact k1 _ (OL _)
  . intro i c H1 Q1 hc hb s1 k1;have hd:=mI hn c (ON hc);show tOp (cIn K false) _ _ [none,some (.str (tx [c]))] H1 Q1;symm;have q1:=k1 _ (OL H1);show Q1 (.bl (if false=true then _ else !(Builtin.Str.occurrences (tx [48,49,50,51,52,53,54,55,56,57]) (tx [c]) 0 (tx [48,49,50,51,52,53,54,55,56,57]).length 1).isEmpty)) H1;rw[O0 OI,show tx [c]=⟨#[c]⟩ from rfl,FJ hd.1 hd.2];exact q1
  . intro l H1 hl1 s1 el
    have eb:((List.range (numC n).length).filter λ_=>true).map (λ_=>V.bl true)=(List.replicate (numC n).length true).map V.bl:=by
     rw[aU,List.map_const',PY,List.map_replicate]
    rw[eb]at el;refine AG el ?_
    have ea:(List.replicate (numC n).length true).all id=true:=by
     rw[Pb];intro b hb;exact(List.mem_replicate.mp hb).2
    rw[ea];symm;exact⟨n,hn,rfl,q _ s1⟩
 cases hc:decide (c=48) with
 | false=>
  refine iteF ?_;exact goal2
 | true=>
  refine iteT ?_;rw[e2 hc];exact goal2
def bB(K:Frag):Sp:=λvs H Q _=>∃(n:Nat) (lo hi:Int),vs=[.str (tx (numC n)),.int lo,.int hi]/\n<100/\lo<=n/\n<=hi/\∀ H',Same H H'->Q (.int n) H'
def jC(K:Frag):TS:=
 by exists ":gk,'Oba0ch#3 goWme~]3d]Wme<31me>32Npl3"
theorem tG(h:bB K vs H Q E):jC K {nx:=λ_ H'=>Q .non H',rt:=Q} (start ["word","least","most","number"] vs) H:=by
 obtain⟨n,lo,hi,rfl,hn,h0,h1,q⟩:=h;show jC K _ [some (.str (tx (numC n))),some (.int lo),some (.int hi),none] H;unfold jC;symm;refine⟨n,rfl,hn,λH1 s1=>?_⟩;symm;rw[aN];symm;rw[OW (show ¬ V.int n=V.non from λe=>nomatch e)];refine iteF ?_;rw[OW (show ¬ (n:Int)<lo by omega)];refine iteF ?_;rw[OW (show ¬ hi < (n:Int) by omega)];refine iteF ?_;symm;exact q _ s1
def WOk(ws:List (List Nat)):Prop:=∀ w∈ws,∀ c∈w,c<128
variable{w:List Nat}
theorem WOk.cons{ws:List (List Nat)}(h:∀ c∈w,c<128)(hs:WOk ws):WOk (w::ws):=λv hv=>by
 rcases OM.mp hv with rfl | hv
 . exact h
 . exact hs v hv
variable{n:Nat}
theorem mL(h:n<100):∀ c∈numC n,c<128:=λc hc=>by have:=mI h c hc;omega
theorem AM(h:∀ c∈w,c<128):PyData.strOk (tx w)=true:=by
 unfold PyData.strOk;simp[tx];intro c hc;have:=h c hc;omega
theorem WOk.strs{ws:List (List Nat)}(h:WOk ws):∀ x∈ws.map tx,PyData.strOk x=true:=λx hx=>by
 obtain⟨w,hw,rfl⟩:=OP.mp hx;exact AM (h w hw)
def bQ(K:Frag):Sp:=λvs H Q _=>∃(p:Addr) (n:Nat) (ws:List (List Nat)) (lo hi:Int),vs=[.ref p,.int lo,.int hi]/\H p=some (.lst (((numC n::ws).map tx).map V.str))/\n<100/\WOk ws/\lo<=n/\n<=hi/\∀ H',Same H H'->Q (.int n) H'
def kh(K:Frag):TS:=
 by exists ":gomesb0vcNpl,~^baen0df#0 a1a2c"
theorem DVs.strs{K:Frag}{H:Hp}:∀ ns:List Str,DVs K H (ns.map V.str) (ns.map PyData.str)
 | []=>.nil
 | n::r=>.cons (.str n) (DVs.strs r)
theorem qO(a b:Str):PyData.eqv (.str a) (.str b)=decide (a=b):=by
 rw[PyData.eqv];by_cases h:a=b
 . subst h;simp
 . simp[h]
theorem lE(ns:List Str)(hs:∀ x∈ns,PyData.strOk x=true):SeqAt.shaped (.list (ns.map PyData.str))=true:=by
 have h1:PyData.canLayAll0 (ns.map PyData.str)=true:=pB λd hd=>by obtain⟨x,hx,rfl⟩:=OP.mp hd;rw[PyData.canLay0];exact hs x hx
 have h2:PyData.depthAll (ns.map PyData.str)<=0:=lJ λd hd=>by obtain⟨x,_,rfl⟩:=OP.mp hd;exact OQ _
 simp[SeqAt.shaped,PyData.canLay0,h1,PyData.depth];omega
variable{xs:List Str}
theorem FK{q:Addr}{ys:List Str}(hp:H p=some (.lst (xs.map V.str)))(hq:H q=some (.lst (ys.map V.str)))(h1:∀ x∈xs,PyData.strOk x=true)(h2:∀ x∈ys,PyData.strOk x=true)(h:Q (.bl (decide (xs=ys))) H):cEq K (.ref p) (.ref q) H Q:=by
 show rEqD K (.ref p) (.ref q) H Q;refine⟨.list (xs.map PyData.str),.list (ys.map PyData.str),.lst (Pc hp) (.strs xs),.lst (Pc hq) (.strs ys),lE xs h1,lE ys h2,?_⟩;rw[PyData.eqv,kX PyData.str qO];exact h
theorem FL{q:Addr}{ys:List Str}(hp:H p=some (.lst (xs.map V.str)))(hq:H q=some (.lst (ys.map V.str)))(h1:∀ x∈xs,PyData.strOk x=true)(h2:∀ x∈ys,PyData.strOk x=true)(h:Q (.bl (!decide (xs=ys))) H):cNe K (.ref p) (.ref q) H Q:=by
 show rNeD K (.ref p) (.ref q) H Q;refine⟨.list (xs.map PyData.str),.list (ys.map PyData.str),.lst (Pc hp) (.strs xs),.lst (Pc hq) (.strs ys),lE xs h1,lE ys h2,?_⟩;rw[PyData.eqv,kX PyData.str qO];exact h
theorem ux(h:bQ K vs H Q E):kh K {nx:=λ_ H'=>Q .non H',rt:=Q} (start ["words","least","most"] vs) H:=by
 obtain⟨p,n,ws,lo,hi,rfl,hp,hn,hw,h0,h1,q⟩:=h;show kh K _ [some (.ref p),some (.int lo),some (.int hi)] H;unfold kh;rw[az,aN];symm;refine⟨bd (by decide),λl hl=>?_⟩;have s1:Same H (upd H l (.lst [])):=(OL H).laid hl;refine FK (s1 _ _ hp) (ys:=[]) ag (WOk.strs (WOk.cons (mL hn) hw)) (λx hx=>nomatch hx) ?_;generalize upd H l (.lst [])=H1 at*;symm;rw[OW (by simp)];refine iteF ?_;symm;have e0:atI (((numC n::ws).map tx).map V.str) 0=some (V.str (tx (numC n))):=dr (j:=0) rfl;refine ixL (s1 _ _ hp) e0 ?_;symm;exact⟨n,lo,hi,rfl,hn,h0,h1,λH2 s2=>q _ (s1.trans s2)⟩
theorem Di(acc:List Int)(v:Int):(step_dedup acc v).length<=acc.length+1:=by
 unfold step_dedup
 split <;> simp
theorem yy:∀(l acc:List Int),(l.foldl step_dedup acc).length<=acc.length+l.length
 | [],acc=>by simp
 | x::r,acc=>by
  have h1:=yy r (step_dedup acc x);have h2:=Di acc x;rw[QF,Pq];omega
theorem sQ:∀(l acc:List Int),acc.Nodup->((l.foldl step_dedup acc).length=acc.length+l.length↔(acc++l).Nodup)
 | [],acc,h=>by simpa using h
 | x::r,acc,h=>by
  rw[QF];by_cases hx:x∈acc
  . have e:step_dedup acc x=acc:=by
     unfold step_dedup;rw[O6 (by simpa using hx)]
    rw[e];have:=yy r acc;constructor
    . intro z;rw[Pq]at z;omega
    . intro z;have:=(Rc.mp z).2.2 x hx x OV;exact absurd rfl this
  . have e:step_dedup acc x=acc++[x]:=by
     unfold step_dedup;rw[O0 (by simpa using hx)]
    rw[e];have hn:(acc++[x]).Nodup:=Rc.mpr ⟨h,by simp,λa ha b hb z=>hx (by rw[OR.mp hb]at z;exact z ▸ ha)⟩;have ih:=sQ r (acc++[x]) hn;rw[OU,ST]at ih;rw[Pq,show acc.length+(r.length+1)=acc.length+1+r.length by omega,show acc++x::r=acc++[x]++r by simp];exact ih
theorem vz(ns:List Int):(List.range ns.length).map (λi=>ns.getD i 0)=ns:=by
 have:=qy ns (λx=>x)
 simpa using this
theorem Dj(ns:List Int):cntD ns=ns.length↔ns.Nodup:=by
 unfold cntD firstMet;rw[vz];have:=sQ ns [] QP
 simpa using this
def gl(K:Frag):Sp:=λvs H Q _=>∃(a p:Addr) (h w g:Int) (ns:List Nat),vs=[.ref a,.ref p]/\IsFl H a h w g/\FlOk h w g/\H p=some (.lst (((ns.map numC).map tx).map V.str))/\ns≠[]/\ns.length<=16/\(∀ n∈ns,(n:Int)<h*w)/\ns.Nodup/\
 ∀ l H',Same H H'->H l=none->H' l=some (.lst ((ns.map λ(n:Nat)=>(n:Int)).map V.int))->Q (.ref l) H'
def lQ(K:Frag):TS:=
 by exists ":g^#2 &--0 zb1h#1 B,~^ba1adf#0 ae~e,~sba2cdf#1 cgomesb2vcNpgomeXb'P2qKa2cNpl2"
variable{ns:List Nat}
theorem p9(h:ns.Nodup):(ns.map λ(n:Nat)=>(n:Int)).Nodup:=by
 induction ns with
 | nil=>exact QP
 | cons a r ih=>
  rw[P0]at h;rw[Pr,P0];refine⟨λz=>?_,ih h.2⟩;obtain⟨b,hb,e⟩:=OP.mp z
  exact h.1 (by have:b=a:=by omega
                exact this ▸ hb)
theorem w6(h:gl K vs H Q E):lQ K {nx:=λ_ H'=>Q .non H',rt:=Q} (start ["floor","words","cells"] vs) H:=by
 obtain⟨a,p,h,w,g,ns,rfl,ha,F,hp,hne,hn16,hlt,hnd,q⟩:=h;obtain⟨h0,h1,w0,w1,m16,g0,g1⟩:=F;show lQ K _ [some (.ref a),some (.ref p),none] H;unfold lQ;symm;refine⟨⟨_,Pc hp⟩,?_⟩;refine bn (xs:=((ns.map numC).map tx).map V.str) (λ_=>true) (λi=>.int (ns.getD i 0:Nat)) (by simp;omega) (Pc hp) ?_ ?_ ?_
 . intro i x H1 R hx s1 k1;exact k1 _ (OL _)
 . intro i x H1 Q1 hx hb s1 k1;rw[OH,OH,OH]at hx
   cases e:ns[i]? with
   | none=>rw[e]at hx;cases hx
   | some n=>
    rw[e]at hx;cases hx;have hm:=hlt n (ON e);show tCall _ _ _ _ [none,some (.str (tx (numC n))),some (.ref a)] H1 Q1;symm;refine⟨a,h,w,g,rfl,s1 _ _ ha,h0,h1,?_⟩;symm;refine⟨n,0,_,rfl,by omega,by omega,by omega,λH2 s2=>?_⟩;have q1:=k1 _ s2;have eg:ns.getD i 0=n:=by rw[List.getD,e];rfl
    rw[eg]at q1;exact q1
 . intro l H1 hl s1 el
   have ec:((List.range (((ns.map numC).map tx).map V.str).length).filter λ_=>true).map (λi=>V.int (ns.getD i 0:Nat))=(ns.map λ(n:Nat)=>(n:Int)).map V.int:=by
    rw[aU,OF,OF,OF,O4];refine Qi λi=>?_;rw[OH,OH];by_cases h:i<ns.length
    . rw[PC h,OG h];simp[List.getD,h]
    . rw[Ph (by simpa using h),Ph (by omega)];rfl
   rw[ec]at el;symm;rw[aN];symm;refine⟨bd (by decide),λz hz=>?_⟩;have s2:Same H1 (upd H1 z (.lst [])):=(OL H1).laid hz;refine DP (s2 _ _ el) (ys:=[]) ag ?_;generalize upd H1 z (.lst [])=H2 at*;symm;rw[OW (by simpa using hne)];refine iteF ?_;symm;rw[aN];symm;refine⟨l,_,rfl,s2 _ _ el,by rw[OF];omega,?_⟩;rw[gM (s2 _ _ el),OF];symm;rw[O3 (by rw[(Dj _).mpr (p9 hnd)])];refine iteF ?_;symm;exact q l _ (s1.trans s2) hl (s2 _ _ el)
def allK:RK->Bool
 | .Joined=>true
 | .NoSquare=>true
 | .Ring=>true
 | _=>false
def numK:RK->Bool
 | .Sum=>true
 | .Seen=>true
 | .Count=>true
 | _=>false
def sgnK:RK->Bool
 | .Count=>true
 | .Joined=>true
 | .NoSquare=>true
 | .Ring=>true
 | _=>false
theorem BZ(k:RK):decide (tx (nmC k)∈cy)=allK k:=by cases k <;> decide+kernel
theorem B0(k:RK):decide (tx (nmC k)∈cT)=numK k:=by cases k <;> decide+kernel
theorem B5(k:RK):decide (tx (nmC k)∈cZ)=sgnK k:=by cases k <;> decide+kernel
structure vA(k:RK)(h w:Int)(ns:List Nat)(cs:List Int):Prop where
 told:allK k=false->ns≠[]/\ns.length<=16/\(∀ n∈ns,(n:Int)<h*w)/\ns.Nodup/\cs=ns.map λ(n:Nat)=>(n:Int)
 all:allK k=true->ns=[]/\cs=rngL 0 (h*w)
def jn(K:Frag):Sp:=λvs H Q _=>∃(k:RK) (a p:Addr) (h w g:Int) (ns:List Nat) (cs:List Int),vs=[.ref a,.str (tx (nmC k)),.ref p]/\IsFl H a h w g/\FlOk h w g/\H p=some (.lst (((ns.map numC).map tx).map V.str))/\vA k h w ns cs/\(∀ n∈ns,n<100)/\
 ∀ l H',Same H H'->H l=none->H' l=some (.lst (cs.map V.int))->Q (.ref l) H'
def oM(K:Frag):TS:=
 by exists ":goC~f'a~l1l,'Qba0a2cpgomeXb2vcNpl'ba,~sba0cc"
theorem zC(h:jn K vs H Q E):oM K {nx:=λ_ H'=>Q .non H',rt:=Q} (start ["floor","name","words"] vs) H:=by
 obtain⟨k,a,p,h,w,g,ns,cs,rfl,ha,F,hp,hc,hn,q⟩:=h;obtain⟨h0,h1,w0,w1,m16,g0,g1⟩:=id F;have mpos:0<=h*w:=Qt (by omega) (by omega);show oM K _ [some (.ref a),some (.str (tx (nmC k))),some (.ref p)] H;unfold oM;rw[az,aN];symm;rw[BZ]
 cases hk:allK k with
 | false=>
  obtain⟨c1,c2,c3,c4,rfl⟩:=hc.told hk;symm;exact⟨a,p,h,w,g,ns,rfl,ha,F,hp,c1,c2,c3,c4,q⟩
 | true=>
  obtain⟨rfl,rfl⟩:=hc.all hk;symm;rw[aN];symm;refine⟨bd (by decide),λz hz=>?_⟩;have s1:Same H (upd H z (.lst [])):=(OL H).laid hz;refine FL (xs:=[]) (ys:=[]) (s1 _ _ hp) ag (λx hx=>nomatch hx) (λx hx=>nomatch hx) ?_;generalize upd H z (.lst [])=H1 at*;symm;refine⟨a,h,w,g,rfl,s1 _ _ ha,h0,h1,?_⟩;symm;refine⟨h*w,rfl,by omega,by omega,λl hl=>?_⟩;exact q l _ (s1.laid hl) (s1.free hl) ag
def ki(K:Frag)(c:RCl RK):Sp:=λvs H Q _=>∃(k:RK) (p W C:Addr) (ws:List (List Nat)) (cs:List Int) (n m:Int),vs=[.ref p,.ref W,.ref C,.int n,.int m]/\k≠.Rule/\c.ok k=true/\H W=some (.lst (((nmC k::ws).map tx).map V.str))/\H C=some (.lst (cs.map V.int))/\
 ∀ r H',Same H H'->H r=none->IsRule H' c k r p (nmC k::ws) cs n m->Q (.ref r) H'
def qa(K:Frag)(c:RCl RK):TS:=
 by exists ":gken1df#0 h#5 gomesb5dtu`0lR~a'R~bbi=Sa0a1a2a3a4cpgomesb5dtu`1lR~a'S~bbi=Sa0a1a2a3a4cpgomesb5dtu`2lR~a'T~bbi=Sa0a1a2a3a4cpgomesb5dtu`3lR~a'U~bbi=Sa0a1a2a3a4cpgomesb5dtu`4lR~a'V~bbi=Sa0a1a2a3a4cpgomesb5dtu`5lR~a'W~bbi=Sa0a1a2a3a4cpgomesb5dtu`6lR~a'X~bbi=Sa0a1a2a3a4cpgomesb5dtu`7lR~a'Y~bbi=Sa0a1a2a3a4cpN",[117,110,108,105,107,101],[115,117,109],[114,105,115,105,110,103],[115,101,101,110],[99,111,117,110,116],[106,111,105,110,101,100],[110,111,115,113,117,97,114,101],[114,105,110,103]
theorem Ez{k:RK}{W C:Addr}{ws:List (List Nat)}{n m:Int}(ok:c.ok k=true)(hW:H W=some (.lst ((ws.map tx).map V.str)))(hC:H C=some (.lst (cs.map V.int)))(q:∀ r H',Same H H'->H r=none->IsRule H' c k r p ws cs n m->Q (.ref r) H'):
  ∀ x dx,H x=none->H dx=none->dx≠x->aq K c (.ref x::([.ref p,.ref W,.ref C,.int n,.int m]++[])) (upd (upd H dx (.own x)) x (.ins (c.A k) dx [])) (λv H2=>v=.non/\Q (.ref x) H2) E0:=by
 intro x dx hx hd ne;refine⟨k,x,dx,p,W,C,ws,cs,n,m,rfl,ok,ag,ar hW hx,ar hC hx,?_,?_,λH' hs hr=>⟨rfl,q x H' (λb o e=>hs b o (ar e hx) ?_) hx hr⟩⟩
 . rw[ah (ar hW hx),ah (ar hW hd)];exact hW
 . rw[ah (ar hC hx),ah (ar hC hd)];exact hC
 . rw[ah (ar e hx),ah (ar e hd)];exact e
theorem AN(h:ki K c vs H Q E):qa K c {nx:=λ_ H'=>Q .non H',rt:=Q} (start ["floor","words","cells","amount","mark","name"] vs) H:=by
 obtain⟨k,p,W,C,ws,cs,n,m,rfl,hk,ok,hW,hC,q⟩:=h;have mk:=Ez (K:=K) ok hW hC q;have e0:atI (((nmC k::ws).map tx).map V.str) 0=some (V.str (tx (nmC k))):=dr (j:=0) rfl;show qa K c _ [some (.ref p),some (.ref W),some (.ref C),some (.int n),some (.int m),none] H;unfold qa;symm;refine ixL hW e0 ?_
 have D:∀(l:List Nat) (t:TS) (u:TS) (D:Ends) (b:Bool),decide (nmC k=l)=b->(if b=true then t D [some (.ref p),some (.ref W),some (.ref C),some (.int n),some (.int m),some (.str (tx (nmC k)))] H else u D [some (.ref p),some (.ref W),some (.ref C),some (.int n),some (.int m),some (.str (tx (nmC k)))] H)->
   tIfS (tTest (tOp (cEq K) (tVar 5) (tC (.str (tx l))))) t u D [some (.ref p),some (.ref W),some (.ref C),some (.int n),some (.int m),some (.str (tx (nmC k)))] H:=λl t u D b hb hq=>by
  rw[aN];symm;rw[ut,hb];exact hq
 have R:∀(D:Ends),D.rt=Q->tRet (tMake (c.A k) (aq K c) [] E0 (tCons (tVar 0) (tCons (tVar 1) (tCons (tVar 2) (tCons (tVar 3) (tCons (tVar 4) tNil)))))) D [some (.ref p),some (.ref W),some (.ref C),some (.int n),some (.int m),some (.str (tx (nmC k)))] H:=λD hD=>by
  symm;rw[hD];exact mk
 cases k with
 | Rule=>exact absurd rfl hk
 | Unlike=>exact D _ _ _ _ true (by decide) (iteT (R _ rfl))
 | Sum=>exact D _ _ _ _ false (by decide) (iteF (D _ _ _ _ true (by decide) (iteT (R _ rfl))))
 | Rising=>exact D _ _ _ _ false (by decide) (iteF (D _ _ _ _ false (by decide) (iteF (D _ _ _ _ true (by decide) (iteT (R _ rfl))))))
 | Seen=>exact D _ _ _ _ false (by decide) (iteF (D _ _ _ _ false (by decide) (iteF (D _ _ _ _ false (by decide) (iteF (D _ _ _ _ true (by decide) (iteT (R _ rfl))))))))
 | Count=>exact D _ _ _ _ false (by decide) (iteF (D _ _ _ _ false (by decide) (iteF (D _ _ _ _ false (by decide) (iteF (D _ _ _ _ false (by decide) (iteF (D _ _ _ _ true (by decide) (iteT (R _ rfl))))))))))
 | Joined=>exact D _ _ _ _ false (by decide) (iteF (D _ _ _ _ false (by decide) (iteF (D _ _ _ _ false (by decide) (iteF (D _ _ _ _ false (by decide) (iteF (D _ _ _ _ false (by decide) (iteF (D _ _ _ _ true (by decide) (iteT (R _ rfl))))))))))))
 | NoSquare=>exact D _ _ _ _ false (by decide) (iteF (D _ _ _ _ false (by decide) (iteF (D _ _ _ _ false (by decide) (iteF (D _ _ _ _ false (by decide) (iteF (D _ _ _ _ false (by decide) (iteF (D _ _ _ _ false (by decide) (iteF (D _ _ _ _ true (by decide) (iteT (R _ rfl))))))))))))))
 | Ring=>exact D _ _ _ _ false (by decide) (iteF (D _ _ _ _ false (by decide) (iteF (D _ _ _ _ false (by decide) (iteF (D _ _ _ _ false (by decide) (iteF (D _ _ _ _ false (by decide) (iteF (D _ _ _ _ false (by decide) (iteF (D _ _ _ _ false (by decide) (iteF (D _ _ _ _ true (by decide) (iteT (R _ rfl))))))))))))))))
def rowW(k:RK)(n m:Nat)(ns:List Nat):List (List Nat):=nmC k::((if numK k then [numC n] else [])++(if sgnK k then [numC m] else [])++ns.map numC)
structure yz(k:RK)(h w g:Int)(n m:Nat)(ns:List Nat)(cs:List Int):Prop where
 k0:k≠.Rule
 n0:n<=99
 nz:numK k=false->n=0
 m0:sgnK k=true->1<=(m:Int)/\(m:Int)<=g
 mz:sgnK k=false->m=0
 cl:vA k h w ns cs
 ns0:∀ x∈ns,x<100
 len:ns.length<=16
def g7(K:Frag)(c:RCl RK):Sp:=λvs H Q _=>∃(k:RK) (p:Addr) (h w g:Int) (n m:Nat) (ns:List Nat) (cs:List Int),vs=[.ref p,.str (tx (catL 32 (rowW k n m ns)))]/\IsFl H p h w g/\FlOk h w g/\yz k h w g n m ns cs/\c.ok k=true/\
 ∀ r H',Same H H'->H r=none->IsRule H' c k r p (rowW k n m ns) cs n m->Q (.ref r) H'
def gN(K:Frag)(c:RCl RK):TS:=
 by exists ":l,'Zbia0a2a,'*ba0a3a4ca5a6c"
def kj(K:Frag)(c:RCl RK):TS:=
 by exists ":gken2df#0 h#3 gkYZ2*df#1 +h#4 gkdf#0 h#5 gkdf#0 h#6 goC~f'cG3gk,'dba4adf#0 adf#99 ch#5 kYZ4*df#1 +h#4 pgoC~f'eG3gk,'dba4adf#1 aen0df#2 ch#6 kYZ4*df#1 +h#4 p'+bi"
def nj(K:Frag)(c:RCl RK):TS:=
 by exists ":goMCq~ga1ad~h[cNpgkFb[~L1adtu`0ch#2 '-bi",[32]
theorem EB(k:RK):32∉nmC k:=by cases k <;> decide
theorem GA(k:RK):∀ c∈nmC k,c<128:=by cases k <;> decide
variable{m:Nat}
theorem wL{k:RK}(hn:n<100)(hm:m<100)(hs:∀ x∈ns,x<100):∀ r∈rowW k n m ns,32∉r:=by
 intro r hr;unfold rowW at hr;rcases OM.mp hr with rfl | hr
 . exact EB k
 rcases OY.mp hr with hr | hr
 . rcases OY.mp hr with hr | hr
   . split at hr
     . rw[OR.mp hr];exact tE hn
     . cases hr
   . split at hr
     . rw[OR.mp hr];exact tE hm
     . cases hr
 . obtain⟨x,hx,rfl⟩:=OP.mp hr;exact tE (hs x hx)
theorem Dk(xs:List V):cutV xs (some 1) none=xs.drop 1:=by
 unfold cutV;have h1:HT.sIx xs.length 0 (some 1)=min 1 xs.length:=HT.sIx_nat ..;have h2:HT.sIx xs.length xs.length none=xs.length:=rfl;rw[h1,h2]
 cases xs with
 | nil=>rfl
 | cons x r=>
  have:min 1 (x::r).length=1:=by simp
  rw[this];show(r).take _=r;rw[PR (by simp)]
theorem oF {k:RK} {W R:Addr} {h w g:Int} {ws:List (List Nat)} {lv:V} (F:FlOk h w g) (ha:IsFl H p h w g) (hW:H W=some (.lst (((nmC k::ws).map tx).map V.str))) (hR:H R=some (.lst (((ns.map numC).map tx).map V.str))) (hc:vA k h w ns cs) (hn:∀ x∈ns,x<100) (k0:k≠.Rule) (ok:c.ok k=true)
  (q:∀ r H',Same H H'->H r=none->IsRule H' c k r p (nmC k::ws) cs n m->Q (.ref r) H'):
  gN K c {nx:=λ_ H'=>Q .non H',rt:=Q} [some (.ref p),some lv,some (.ref W),some (.str (tx (nmC k))),some (.ref R),some (.int n),some (.int m)] H:=by
 unfold gN;symm;refine⟨k,p,R,h,w,g,ns,cs,rfl,ha,F,hR,hc,hn,λl H1 s1 hl el=>?_⟩;symm;exact⟨k,p,W,l,ws,cs,n,m,rfl,k0,ok,s1 _ _ hW,el,λr H2 s2 hr x=>q r H2 (s1.trans s2) (s1.free hr) x⟩
theorem oN{k:RK}(h:ns.length<=16):(rowW k n m ns).length<=100/\∀ w∈rowW k n m ns,w.length<=100:=by
 unfold rowW;refine⟨?_,λw hw=>?_⟩
 . simp only[Pq,OU,OF]
   split <;> split <;> simp <;> omega
 . rcases OM.mp hw with rfl | hw
   . cases k <;> decide
   have h2:∀ x,(numC x).length<=100:=λx=>O7 gH (by decide);rcases OY.mp hw with hw | hw
   . rcases OY.mp hw with hw | hw
     . split at hw
       . rw[OR.mp hw];exact h2 _
       . cases hw
     . split at hw
       . rw[OR.mp hw];exact h2 _
       . cases hw
   . obtain⟨x,hx,rfl⟩:=OP.mp hw;exact h2 _
theorem qb:∀(rows:List (List Nat)),(∀ r∈rows,r.length<=100)->(catL 32 rows).length<=101*rows.length
 | [],_=>Py _
 | [x],h=>by
  have:=h x OV;show x.length<=101*1;omega
 | x::y::r,h=>by
  have h1:=h x OV;have ih:=qb (y::r) λz hz=>h z (OT _ hz);have e:catL 32 (x::y::r)=x++32::catL 32 (y::r):=by first | rfl | simp[catL]
  rw[e,OU,Pq,Pq];omega
theorem vC{x:Str}(hp:H p=some (.lst ((x::xs).map V.str)))(q:∀ l,H l=none->Q (.ref l) (upd H l (.lst (xs.map V.str)))):iS (.ref p) (some 1) none H Q:=by
 refine ly hp λl hl=>?_;rw[Dk];exact q l hl
theorem uy {k:RK} {W:Addr} {h w g:Int} {lv:V} (F:FlOk h w g) (ha:IsFl H p h w g) (hW:H W=some (.lst (((rowW k n m ns).map tx).map V.str))) (O:yz k h w g n m ns cs) (ok:c.ok k=true)
  (q:∀ r H',Same H H'->H r=none->IsRule H' c k r p (rowW k n m ns) cs n m->Q (.ref r) H'):
  kj K c {nx:=λ_ H'=>Q .non H',rt:=Q} [some (.ref p),some lv,some (.ref W),none,none,none,none] H:=by
 obtain⟨k0,n0,nz,m0,mz,cl,ns0,len⟩:=O;obtain⟨h0,h1,w0,w1,m16,g0,g1⟩:=id F;have e0:atI (((rowW k n m ns).map tx).map V.str) 0=some (V.str (tx (nmC k))):=dr (j:=0) rfl;have hns:WOk (ns.map numC):=λv hv=>by obtain⟨x,hx,rfl⟩:=OP.mp hv;exact mL (ns0 x hx)
 unfold kj;symm;refine ixL hW e0 ?_;symm;refine vC hW λR hR=>?_;obtain⟨H1,z9,s1,eR⟩:=aX (.lst ((((if numK k then [numC n] else [])++(if sgnK k then [numC m] else [])++ns.map numC).map tx).map V.str)) hR;rw[z9];symm
 have two:∀{H2:Hp} {R2:Addr},Same H H2->H2 R2=some (.lst ((((if sgnK k then [numC m] else [])++ns.map numC).map tx).map V.str))->
   tSeq (tIfS (tB (tInG cZ false (tVar 3))) (tSeq (tAsg (tCall (bQ K) [] E0 (tCons (tVar 4) (tCons (tC (.int 1)) (tCons (tOp cIx (tVar 0) (tC (.int 2))) tNil)))) (gName 6)) (tAsg (tSl iS (tVar 4) (tPart (tC (.int 1))) bW) (gName 4))) tNext) (gN K c) {nx:=λ_ H'=>Q .non H',rt:=Q}
    [some (.ref p),some lv,some (.ref W),some (.str (tx (nmC k))),some (.ref R2),some (.int n),some (.int 0)] H2:=by
  intro H2 R2 s2 eR2;rw[az,aN];symm;rw[B5]
  cases hs:sgnK k with
  | false=>
   rw[hs]at eR2;have:=mz hs;subst this;symm;exact oF F (s2 _ _ ha) (s2 _ _ hW) eR2 cl ns0 k0 ok λr H3 s3 hr x=>q r H3 (s2.trans s3) (s2.free hr) x
  | true=>
   rw[hs]at eR2;have hm:=m0 hs;symm;refine ixT (s2 _ _ ha) (v:=V.int g) rfl ?_;symm;refine⟨R2,m,ns.map numC,1,g,rfl,eR2,by omega,hns,hm.1,hm.2,λH3 s3=>?_⟩;symm;refine vC (s3 _ _ eR2) λR3 hR3=>?_;have s4:Same H3 (upd H3 R3 (.lst (((ns.map numC).map tx).map V.str))):=(OL H3).laid hR3;have s24:=(s2.trans s3).trans s4;exact oF F (s24 _ _ ha) (s24 _ _ hW) ag cl ns0 k0 ok λr H5 s5 hr x=>q r H5 (s24.trans s5) (s24.free hr) x
 rw[aN];symm;rw[B0]
 cases hn:numK k with
 | false=>
  rw[hn]at eR;have:=nz hn;subst this;symm;exact two s1 eR
 | true=>
  rw[hn]at eR;symm;refine⟨R,n,(if sgnK k then [numC m] else [])++ns.map numC,0,99,rfl,eR,by omega,?_,by omega,by omega,λH3 s3=>?_⟩
  . intro v hv;rcases OY.mp hv with hv | hv
    . split at hv
      . rename_i hs
        have:=m0 hs;rw[OR.mp hv];exact mL (by omega)
      . cases hv
    . exact hns v hv
  symm;refine vC (s3 _ _ eR) λR3 hR3=>?_;have s4:Same H3 (upd H3 R3 (.lst ((((if sgnK k then [numC m] else [])++ns.map numC).map tx).map V.str))):=(OL H3).laid hR3;symm;exact two ((s1.trans s3).trans s4) ag
theorem yA(h:g7 K c vs H Q E):nj K c {nx:=λ_ H'=>Q .non H',rt:=Q} (start ["floor","line","words","name","rest","amount","mark"] vs) H:=by
 obtain⟨k,p,h,w,g,n,m,ns,cs,rfl,ha,F,O,ok,q⟩:=h
 have hm:m<100:=by
  by_cases hs:sgnK k=true
  . have:=(O.m0 hs).2;have:=F.g1;omega
  . have:=O.mz (by simpa using hs);omega
 have hsp:Txt.split (tx (catL 32 (rowW k n m ns))) (tx [32])=(rowW k n m ns).map tx:=yn (by simp[rowW]) (wL (by have:=O.n0;omega) hm O.ns0);have hl:=oN (k:=k) (n:=n) (m:=m) O.len;have hl2:=qb _ hl.2;show nj K c _ [some (.ref p),some (.str (tx (catL 32 (rowW k n m ns)))),none,none,none,none,none] H;unfold nj;rw[az,aN];symm;refine⟨pX,?_⟩;rw[z6,hsp];refine⟨by rw[cr];decide,by rw[cr];exact PD (PK hl2 (PK (Nat.mul_le_mul_left 101 hl.1) (by decide))),by rw[OF];exact bd (by omega),λW hW=>?_⟩;have s1:Same H (upd H W (.lst (((rowW k n m ns).map tx).map V.str))):=(OL H).laid hW;exact uy F (s1 _ _ ha) ag O ok λr H2 s2 hr x=>q r H2 (s1.trans s2) (s1.free hr) x
theorem wM{α β:Type}(f:α->β):∀(l:List α) (j:Nat),(l.map f).eraseIdx j=(l.eraseIdx j).map f
 | [],_=>rfl
 | _::_,0=>rfl
 | x::r,j+1=>by
  show f x::(r.map f).eraseIdx j=f x::(r.eraseIdx j).map f;rw[wM f r j]
theorem uz{α:Type}:∀(l:List α) (j:Nat) (h:j<l.length),(l[j]::l.eraseIdx j).Perm l
 | [],_,h=>absurd h (by simp)
 | x::r,0,_=>QQ _
 | x::r,j+1,h=>by
  have hj:j<r.length:=by simpa using h
  have ih:=uz r j hj;show(r[j]::x::r.eraseIdx j).Perm (x::r);exact(List.Perm.swap x r[j] (r.eraseIdx j)).trans (List.Perm.cons x ih)
theorem qP{α β:Type}(f:α->β):∀{l:List α},(l.map f).Nodup->l.Nodup
 | [],_=>QP
 | a::r,h=>by
  rw[Pr,P0]at h;rw[P0];exact⟨λz=>h.1 (OP.mpr ⟨a,z,rfl⟩),qP f h.2⟩
theorem B6(n:Int):(rngL 0 n).Nodup:=by
 unfold rngL;have e:(List.range (n-0).toNat).map (λ(k:Nat)=>0+(k:Int))=(List.range (n-0).toNat).map λ(k:Nat)=>(k:Int):=Pl λk _=>by omega
 rw[e];exact p9 List.nodup_range
theorem EC{n x:Int}(h:x∈rngL 0 n):0<=x/\x<n:=by
 unfold rngL at h;obtain⟨k,hk,rfl⟩:=OP.mp h;have:=O5.mp hk;omega
theorem pI(h:n<100):((n:Int)).natAbs.log2<1920:=by
 have t:((List.range 100).all λn=>decide (n.log2<1920))=true:=by decide+kernel
 have:=Pb.mp t n (O5.mpr h)
 simpa using this
theorem vD(h:n<100)(q:Q (.str (tx (numC n))) H):kStr [.int (n:Int)] H Q:=by
 refine⟨pI h,?_⟩;rw[pG h];exact q
theorem wN {C:Addr} {cs:List Nat} {fin:Addr->Hp->Prop} (hC:H C=some (.lst ((cs.map λ(n:Nat)=>(n:Int)).map V.int))) (hl:cs.length<=100) (hc:∀ c∈cs,c<100)
  (hd:∀ l H',H l=none->Same H H'->H' l=some (.lst (((cs.map numC).map tx).map V.str))->fin l H'):CompR (Itl K C) (gName 1) tTrue (tCB kStr (tCons (tVar 1) tNil)) fin [none,none] H:=by
 refine bn (xs:=(cs.map λ(n:Nat)=>(n:Int)).map V.int) (λ_=>true) (λi=>.str (tx (numC (cs.getD i 0)))) (by simp;omega) (Pc hC) ?_ ?_ ?_
 . intro i x H1 R hx s1 k1;exact k1 _ (OL _)
 . intro i x H1 Q1 hx hb s1 k1;rw[OH,OH]at hx
   cases e:cs[i]? with
   | none=>rw[e]at hx;cases hx
   | some n=>
    rw[e]at hx;cases hx;show tCB kStr _ [none,some (.int (n:Int))] H1 Q1;symm;have q1:=k1 _ (OL H1);have eg:cs.getD i 0=n:=by rw[List.getD,e];rfl
    rw[eg]at q1;have:=vD (H:=H1) (Q:=Q1) (hc n (ON e)) q1;exact this
 . intro l H1 hl1 s1 el;refine hd l H1 hl1 s1 ?_;rw[el,aU,OF,OF,O4,O4]
   congr 2
   refine Qi λi=>?_;rw[OH,OH];by_cases h:i<cs.length
   . rw[PC h,OG h];simp[List.getD,h]
   . rw[Ph (by simpa using h),Ph (by omega)];rfl
theorem Dl{c:Nat}{x:List Nat}:∀{rs:List (List Nat)},rs≠[]->catL c (x::rs)=x++c::catL c rs
 | [],h=>absurd rfl h
 | y::r,_=>by first | rfl | simp[catL]
section
variable{X:Cx}{a:Expr}{ta:TE}{pos p:Pos}{x:Str}{ws:List Str}
theorem qQ(G:GTup X.K X.mg x ws)(ha:PE X a ta)(hg:Gl X x)(hdb:(x==("__debug__":Str))=false:=by decide)(hm:behindInMarks .In (.Name x p)=false:=by with_unfolding_all rfl):PT X (.Compare a [.In] [.Name x p] pos) (tB (tInG ws false ta)):=by
 obtain⟨q,o,OA,n,h1,h2⟩:=G.ex;have h0:=ap (pos:=pos) (FH ⟨o,OA,n,h2⟩) ha (br (v:=V.ref q) hg h1 rfl hdb) hm;intro Ox s σ H Q I h;refine h0 Ox s σ H Q I ?_
 have e:(λ(x:V) (H1:Hp)=>∃ z,x=.str z/\∃ k,V.bl (if false=true then !decide (z∈ws) else decide (z∈ws))=.bl k/\Q k H1)=λx H1=>∃ z,x=.str z/\(V.ref q=V.ref q)/\∃ k,V.bl (decide (z∈ws))=.bl k/\Q k H1:=by
  funext x H1;simp
 have h':ta σ H (λ(x:V) (H1:Hp)=>∃ z,x=.str z/\∃ k,V.bl (if false=true then !decide (z∈ws) else decide (z∈ws))=.bl k/\Q k H1):=h;rw[e]at h';exact h'
theorem Ae(G:GTup X.K X.mg x ws)(ha:PE X a ta)(hg:Gl X x)(hdb:(x==("__debug__":Str))=false:=by decide)(hm:behindInMarks .NotIn (.Name x p)=false:=by with_unfolding_all rfl):PT X (.Compare a [.NotIn] [.Name x p] pos) (tB (tInG ws true ta)):=by
 obtain⟨q,o,OA,n,h1,h2⟩:=G.ex;have h0:=ap (pos:=pos) (Eu ⟨o,OA,n,h2⟩) ha (br (v:=V.ref q) hg h1 rfl hdb) hm;intro Ox s σ H Q I h;refine h0 Ox s σ H Q I ?_
 have e:(λ(x:V) (H1:Hp)=>∃ z,x=.str z/\∃ k,V.bl (if true=true then !decide (z∈ws) else decide (z∈ws))=.bl k/\Q k H1)=λx H1=>∃ z,x=.str z/\(V.ref q=V.ref q)/\∃ k,V.bl (!decide (z∈ws))=.bl k/\Q k H1:=by
  funext x H1;simp
 have h':ta σ H (λ(x:V) (H1:Hp)=>∃ z,x=.str z/\∃ k,V.bl (if true=true then !decide (z∈ws) else decide (z∈ws))=.bl k/\Q k H1):=h;rw[e]at h';exact h'
end
inductive PzK where
 | Puzzle
 deriving DecidableEq
structure RR where
 k:RK
 n:Nat
 m:Nat
 ns:List Nat
 cs:List Int
def RR.ws(r:RR):List (List Nat):=rowW r.k r.n r.m r.ns
def RR.txt(r:RR):Str:=tx (catL 32 r.ws)
def RR.Ok(r:RR)(h w g:Int):Prop:=yz r.k h w g r.n r.m r.ns r.cs
theorem yB:∀{rs:List (List Nat)},(∀ r∈rs,∀ c∈r,c<128)->∀ c∈catL 32 rs,c<128
 | [],_,c,hc=>by simp[catL]at hc
 | [x],h,c,hc=>h x OV c (by first | exact hc | simpa [catL] using hc)
 | x::y::r,h,c,hc=>by
  rw[Dl (by simp)]at hc;rcases OY.mp hc with hc | hc
  . exact h x OV c hc
  rcases OM.mp hc with rfl | hc
  . decide
  . exact yB (λz hz=>h z (OT _ hz)) c hc
variable{h w g:Int}
theorem RR.wok{r:RR}(F:FlOk h w g)(O:r.Ok h w g):∀ x∈r.ws,∀ c∈x,c<128:=by
 intro x hx;unfold RR.ws rowW at hx
 have hm:r.m<100:=by
  by_cases hs:sgnK r.k=true
  . have:=(O.m0 hs).2;have:=F.g1;omega
  . have:=O.mz (by simpa using hs);omega
 have hn:=O.n0;rcases OM.mp hx with rfl | hx
 . exact GA r.k
 rcases OY.mp hx with hx | hx
 . rcases OY.mp hx with hx | hx
   . split at hx
     . rw[OR.mp hx];exact mL (by omega)
     . cases hx
   . split at hx
     . rw[OR.mp hx];exact mL hm
     . cases hx
 . obtain⟨y,hy,rfl⟩:=OP.mp hx;exact mL (O.ns0 y hy)
theorem RR.sok{r:RR}(F:FlOk h w g)(O:r.Ok h w g):PyData.strOk r.txt=true:=AM (yB (RR.wok F O))
structure IsRules(H:Hp)(c:RCl RK)(p L:Addr)(rs:List Addr)(rows:List RR):Prop where
 top:H L=some (.lst (rs.map V.ref))
 len:rs.length=rows.length
 at_:∀(i:Nat) (r:Addr) (x:RR),rs[i]? =some r->rows[i]? =some x->IsRule H c x.k r p x.ws x.cs x.n x.m
variable{H H':Hp}{c:RCl RK}{p L:Addr}{rs:List Addr}{rows:List RR}
theorem IsRules.same(x:IsRules H c p L rs rows)(s:Same H H'):IsRules H' c p L rs rows:=
 ⟨s _ _ x.top,x.len,λi r y h1 h2=>(x.at_ i r y h1 h2).same s⟩
variable{o:HO}
theorem IsRule.lst{k:RK}{r a:Addr}{ws:List (List Nat)}{cs:List Int}{n m:Int}{xs:List V}(x:IsRule H c k r p ws cs n m)(ha:H a=some (.lst xs)):IsRule (upd H a o) c k r p ws cs n m:=by
 obtain⟨dx,W,C,h1,h2,h3⟩:=x.ex;refine⟨x.ok,dx,W,C,?_,?_,?_⟩
 . rw[ah (λe=>by rw[e,ha]at h1;cases h1)];exact h1
 . rw[ah (λe=>by rw[e,ha]at h2;cases h2)];exact h2
 . rw[ah (λe=>by rw[e,ha]at h3;cases h3)];exact h3
def pFs(p L G:Addr):List (Str × V):=[("floor",.ref p),("laws",.ref L),("given",.ref G)]
structure c6(c:RCl RK)(h w g:Int)(rows:List RR):Prop where
 F:FlOk h w g
 n:rows.length<=12
 ok:∀ r∈rows,r.Ok h w g
 c:∀ r∈rows,c.ok r.k=true
structure CluesOk(h w g:Int)(cl:List Int):Prop where
 len:cl.length=(h*w).toNat
 ok:∀ x∈cl,0<=x/\x<=g
structure IsPz(H:Hp)(c:RCl RK)(d:RCl PzK)(P L G:Addr)(h w g:Int)(rows:List RR)(cl:List Int):Prop where
 ok:d.ok .Puzzle=true
 R:c6 c h w g rows
 C:CluesOk h w g cl
 gv:H G=some (.lst (cl.map V.int))
 ex:∃ dx p rs,H P=some (.ins (d.A .Puzzle) dx (pFs p L G))/\IsFl H p h w g/\IsRules H c p L rs rows
variable{d:RCl PzK}{cl:List Int}
theorem IsPz.same{P G:Addr}(x:IsPz H c d P L G h w g rows cl)(s:Same H H'):IsPz H' c d P L G h w g rows cl:=by
 obtain⟨dx,p,rs,h1,h2,h3⟩:=x.ex;exact⟨x.ok,x.R,x.C,s _ _ x.gv,dx,p,rs,s _ _ h1,s _ _ h2,h3.same s⟩
def bx(K:Frag):Sp:=λvs H Q _=>∃ i:Int,vs=[.int i]/\Q (.bl true) H
def oO(K:Frag):TS:=
 by exists ":l/q~ga0ad~h'/c~Mq~ga0ad~h':c"
variable{K:Frag}{vs:List V}{Q:VK}{E:XK}
theorem zD(h:bx K vs H Q E):oO K {nx:=λ_ H'=>Q .non H',rt:=Q} (start ["value"] vs) H:=by
 obtain⟨i,rfl,q⟩:=h;show oO K _ [some (.int i)] H;unfold oO;symm;exact q
def bv(K:Frag):Sp:=λvs H Q _=>∃ i m:Int,vs=[.int i,.int m]/\Q (.bl (decide (1<=i)&&decide (i<=m))) H
def iT(K:Frag):TS:=
 by exists ":l/,~yba0c/e(df#1 0e(01"
theorem sk(h:bv K vs H Q E):iT K {nx:=λ_ H'=>Q .non H',rt:=Q} (start ["value","most"] vs) H:=by
 obtain⟨i,m,rfl,q⟩:=h;show iT K _ [some (.int i),some (.int m)] H;unfold iT;symm;refine⟨i,rfl,⟨true,rfl,iteT ?_⟩⟩;symm
 cases hb:decide (1<=i) with
 | false=>
  rw[hb,SZ]at q;exact iteF q
 | true=>
  rw[hb,S9]at q;exact iteT q
def jo(K:Frag):Sp:=λvs H Q _=>∃ h w g:Int,vs=[.int h,.int w,.int g]/\FlOk h w g/\∀ p,H p=none->Q (.ref p) (upd H p (.tup [.int h,.int w,.int g]))
def oP(K:Frag):TS:=
 by exists ":goMC,~Nba0adf#6 cNpgoMC,~Nba1adf#6 cNpgome>eQ01df#16 NpgoMC,~Nba2adf#6 cNplwa0a1a2c"
theorem zE(h:jo K vs H Q E):oP K {nx:=λ_ H'=>Q .non H',rt:=Q} (start ["high","wide","signs"] vs) H:=by
 obtain⟨h,w,g,rfl,F,q⟩:=h;obtain⟨h0,h1,w0,w1,m16,g0,g1⟩:=id F;show oP K _ [some (.int h),some (.int w),some (.int g)] H;unfold oP;rw[az,aN];symm;refine⟨h,6,rfl,⟨_,rfl,?_⟩⟩;rw[O3 h0,O3 h1,Ta];refine iteF ?_;rw[aN];symm;refine⟨w,6,rfl,⟨_,rfl,?_⟩⟩;rw[O3 w0,O3 w1,Ta];refine iteF ?_;rw[aN];symm;refine⟨oy h0 h1,?_⟩;rw[OW (show ¬ (16:Int)<h*w by omega)];refine iteF ?_;rw[aN];symm;refine⟨g,6,rfl,⟨_,rfl,?_⟩⟩;rw[O3 g0,O3 g1,Ta];refine iteF ?_;symm;exact⟨lnR rfl,q⟩
def c8(K:Frag):Sp:=λvs H Q _=>∃(p:Addr) (h w g:Int),vs=[.ref p]/\IsFl H p h w g/\FlOk h w g/\∀ p,H p=none->Q (.ref p) (upd H p (.tup [.int h,.int w,.int g]))
def jD(K:Frag):TS:=
 by exists ":goWMCq~ga0ad~h'fcmeXbqKa0cdf#3 Npl,';baen0df#0 aen0df#1 aen0df#2 c"
theorem tH(h:c8 K vs H Q E):jD K {nx:=λ_ H'=>Q .non H',rt:=Q} (start ["floor"] vs) H:=by
 obtain⟨p,h,w,g,rfl,hp,F,q⟩:=h;show jD K _ [some (.ref p)] H;unfold jD;rw[az,aN];symm;refine BR hp ?_;symm;rw[Fz hp,show(([V.int h,V.int w,V.int g]:List V).length:Int)=3 from rfl];symm;refine ixT hp (v:=V.int h) rfl ?_;symm;refine ixT hp (v:=V.int w) rfl ?_;symm;refine ixT hp (v:=V.int g) rfl ?_;symm;exact⟨h,w,g,rfl,F,q⟩
def gn(K:Frag)(c:RCl RK):Sp:=λvs H Q _=>∃(p a:Addr) (h w g:Int) (rows:List RR),vs=[.ref p,.ref a]/\IsFl H p h w g/\H a=some (.lst ((rows.map RR.txt).map V.str))/\c6 c h w g rows/\
 ∀ l rs H',Same H H'->H l=none->IsRules H' c p l rs rows->Q (.ref l) H'
def lR(K:Frag)(c:RCl RK):TS:=
 by exists ":gome>qKa1cdf#12 NplD&--0 zb1h#1 B,'?bia2a1c"
theorem w9(h:gn K c vs H Q E):lR K c {nx:=λ_ H'=>Q .non H',rt:=Q} (start ["floor","lines"] vs) H:=by
 obtain⟨p,a,h,w,g,rows,rfl,hp,ha,O,q⟩:=h;have hn:=O.n;show lR K c _ [some (.ref p),some (.ref a)] H;unfold lR;rw[az,aN];symm;rw[gM ha,OF,OF];symm;rw[OW (show ¬ (12:Int) < (rows.length:Nat) by omega)];refine iteF ?_;symm;refine⟨⟨_,Pc ha⟩,?_⟩
 refine gX (xs:=(rows.map RR.txt).map V.str) (λl i σ H'=>(∃ cv,σ=[none,cv,some (.ref p)])/\Same H H'/\∃ rs:List Addr,H' l=some (.lst (rs.map V.ref))/\rs.length=i/\∀(j:Nat) (r:Addr) (x:RR),rs[j]? =some r->rows[j]? =some x->IsRule H' c x.k r p x.ws x.cs x.n x.m)
  (λl hl=>⟨⟨none,rfl⟩,(OL H).laid hl,[],by rw[ag];rfl,rfl,λj r x e=>by simp at e⟩) (λl i σ H' _ _ x=>x.2.1.seq (Pc ha)) ?_ ?_
 . rintro l i x σ H1 hl hx ⟨⟨cv,rfl⟩,s1,rs,el,OC,hat⟩;rw[OH,OH]at hx
   cases e:rows[i]? with
   | none=>rw[e]at hx;cases hx
   | some y=>
    rw[e]at hx;cases hx;have hi:=(OK.mp e).1;have hm:=ON e;rw[aS];show tTrue [none,some (.str y.txt),some (.ref p)] H1 _;symm;refine⟨y.k,p,h,w,g,y.n,y.m,y.ns,y.cs,rfl,s1 _ _ hp,O.F,O.ok y hm,O.c y hm,λr H2 s2 hr xr=>?_⟩;have nrl:r≠l:=λz=>by rw[z,el]at hr;cases hr
    refine⟨_,s2 _ _ el,by rw[OF];exact aE (by omega),⟨_,rfl⟩,(s1.trans s2).own hl,rs++[r],by rw[ag];simp,by simp[OC],λj r' x' h1 h2=>?_⟩;by_cases hj:j<rs.length
    . rw[O9 hj]at h1;exact((hat j r' x' h1 h2).same s2).lst (s2 _ _ el)
    . rw[O8 (by omega)]at h1
      have hj0:j-rs.length=0:=by
       have:=(OK.mp h1).1;simp at this;omega
      rw[hj0]at h1;have:j=i:=by omega
      subst this;rw[e]at h2;simp at h1;cases h2;subst h1;exact xr.lst (s2 _ _ el)
 . rintro l σ H1 hl ⟨_,s1,rs,el,OC,hat⟩;exact q l rs H1 s1 hl ⟨el,by rw[OC];simp,hat⟩
def filB(least g:Int)(n:Nat)(xs:List Int):Bool:=decide (xs.length=n)&&xs.all λx=>decide (least<=x)&&decide (x<=g)
def gt(K:Frag):Sp:=λvs H Q _=>∃(p a:Addr) (h w g least:Int) (xs:List Int),vs=[.ref p,.ref a,.int least]/\IsFl H p h w g/\FlOk h w g/\H a=some (.lst (xs.map V.int))/\xs.length<=100/\∀ H',Same H H'->Q (.bl (filB least g (h*w).toNat xs)) H'
def lS(K:Frag):TS:=
 by exists ":goWMCq~ga1ad~hIcmeXbqKa1c,~sba0cldVGplq~KaD&--02 zb1h#1 B/,~yba1c/e(31e(1en2df#2 c"
theorem xa(h:gt K vs H Q E):lS K {nx:=λ_ H'=>Q .non H',rt:=Q} (start ["floor","filling","least"] vs) H:=by
 obtain⟨p,a,h,w,g,least,xs,rfl,hp,F,ha,hn,q⟩:=h;obtain⟨h0,h1,w0,w1,m16,g0,g1⟩:=id F;have mpos:0<=h*w:=Qt (by omega) (by omega);show lS K _ [some (.ref p),some (.ref a),some (.int least)] H;unfold lS;rw[az,aN];symm;refine BQ ha ?_;symm;rw[gM ha,OF];symm;refine⟨p,h,w,g,rfl,hp,h0,h1,?_⟩;symm;unfold filB at q;by_cases hl:xs.length=(h*w).toNat
 . rw[O3 (show(xs.length:Int)=h*w by omega)];rw[O3 hl]at q;symm;refine⟨⟨_,Pc ha⟩,?_⟩;refine bn (xs:=xs.map V.int) (λ_=>true) (λi=>.bl (decide (least<=xs.getD i 0)&&decide (xs.getD i 0<=g))) (by rw[OF];omega) (Pc ha) ?_ ?_ ?_
   . intro i x H1 R hx s1 k1;exact k1 _ (OL _)
   . intro i x H1 Q1 hx hb s1 k1;obtain⟨z,hz,rfl⟩:=cp hx;have q1:=k1 _ (OL H1);rw[jU hz]at q1;show tAndV _ _ [none,some (.int z),some (.ref p),some (.int least)] H1 Q1;symm;refine⟨z,rfl,⟨true,rfl,iteT ?_⟩⟩;symm
     cases hb:decide (least<=z) with
     | false=>
      rw[hb,SZ]at q1;exact iteF q1
     | true=>
      rw[hb,S9]at q1;refine iteT ?_;symm;refine ixT (s1 _ _ hp) (v:=V.int g) rfl ?_;symm;exact q1
   . intro l H1 hl1 s1 el
     have eb:((List.range (xs.map V.int).length).filter λ_=>true).map (λi=>V.bl (decide (least<=xs.getD i 0)&&decide (xs.getD i 0<=g)))=(xs.map λx=>decide (least<=x)&&decide (x<=g)).map V.bl:=by
      rw[aU,OF];refine Qi λi=>?_;rw[OH,OH,OH];by_cases h:i<xs.length
      . rw[PC h,OG h];simp[List.getD,h]
      . rw[Ph (by simpa using h),Ph (by omega)];rfl
     rw[eb]at el;refine AG el ?_;have ea:(xs.map λx=>decide (least<=x)&&decide (x<=g)).all id=xs.all λx=>decide (least<=x)&&decide (x<=g):=by rw[List.all_map];rfl
     rw[ea];exact q _ s1
 . rw[OW (show ¬ (xs.length:Int)=h*w by omega)];rw[OW hl]at q;symm;exact q _ (OL _)
def c9(K:Frag):Sp:=λvs H Q _=>∃(p a:Addr) (h w g:Int) (xs:List Int),vs=[.ref p,.ref a]/\IsFl H p h w g/\FlOk h w g/\H a=some (.lst (xs.map V.int))/\CluesOk h w g xs/\∀ l H',Same H H'->H l=none->H' l=some (.lst (xs.map V.int))->Q (.ref l) H'
def jE(K:Frag):TS:=
 by exists ":goMC,'[ba0a1adf#0 cNplq~ra1c"
variable{xs:List Int}
theorem CluesOk.fil(C:CluesOk h w g xs):filB 0 g (h*w).toNat xs=true:=by
 unfold filB;rw[O3 C.len,S9,Pb];intro x hx;have:=C.ok x hx;simp[this.1,this.2]
theorem tI(h:c9 K vs H Q E):jE K {nx:=λ_ H'=>Q .non H',rt:=Q} (start ["floor","clues"] vs) H:=by
 obtain⟨p,a,h,w,g,xs,rfl,hp,F,ha,C,q⟩:=h;obtain⟨h0,h1,w0,w1,m16,g0,g1⟩:=id F;show jE K _ [some (.ref p),some (.ref a)] H;unfold jE;rw[az,aN];symm;refine⟨p,a,h,w,g,0,xs,rfl,hp,F,ha,by have:=C.len;omega,λH1 s1=>?_⟩;rw[C.fil];refine⟨true,rfl,iteF ?_⟩;symm;refine uj (s1 _ _ ha) λl hl=>?_;exact q l _ (s1.laid hl) (s1.free hl) ag
theorem IsRule.ins{k:RK}{r a:Addr}{ws:List (List Nat)}{cs:List Int}{n m:Int}{C dx:Addr}{fs:List (Str × V)}(x:IsRule H c k r p ws cs n m)(ha:H a=some (.ins C dx fs))(hf:fs.length≠5):IsRule (upd H a o) c k r p ws cs n m:=by
 obtain⟨dx',W,C',h1,h2,h3⟩:=x.ex;refine⟨x.ok,dx',W,C',?_,?_,?_⟩
 . rw[ah (λe=>by rw[e,ha]at h1;cases h1;exact hf rfl)];exact h1
 . rw[ah (λe=>by rw[e,ha]at h2;cases h2)];exact h2
 . rw[ah (λe=>by rw[e,ha]at h3;cases h3)];exact h3
theorem IsRules.ins{a:Addr}{C dx:Addr}{fs:List (Str × V)}(x:IsRules H c p L rs rows)(ha:H a=some (.ins C dx fs))(hf:fs.length≠5):IsRules (upd H a o) c p L rs rows:=
 ⟨by rw[ah (λe=>by have:=x.top;rw[e,ha]at this;cases this)];exact x.top,x.len,λi r y h1 h2=>(x.at_ i r y h1 h2).ins ha hf⟩
def aD(K:Frag)(c:RCl RK)(d:RCl PzK):Sp:=λvs H Q _=>∃(x dx p a b:Addr) (h w g:Int) (rows:List RR) (cl:List Int),vs=[.ref x,.ref p,.ref a,.ref b]/\d.ok .Puzzle=true/\H x=some (.ins (d.A .Puzzle) dx [])/\IsFl H p h w g/\H a=some (.lst ((rows.map RR.txt).map V.str))/\H b=some (.lst (cl.map V.int))/\c6 c h w g rows/\CluesOk h w g cl/\
 ∀ L G H',(∀ y o,y≠x->H y=some o->H' y=some o)->H L=none->H G=none->IsPz H' c d x L G h w g rows cl->Q .non H'
def g8(K:Frag)(c:RCl RK)(d:RCl PzK):TS:=
 by exists ":g?j0,']ba1c~qg?j0,'^bia-j0~qa2c~O?j0,{aba-j0~qa3c'g"
theorem qR(h:aD K c d vs H Q E):g8 K c d {nx:=λ_ H'=>Q .non H',rt:=Q} (start ["self","floor","lines","clues"] vs) H:=by
 obtain⟨x,dx,p,a,b,h,w,g,rows,cl,rfl,ok,hx,hp,ha,hb,R,C,q⟩:=h;show g8 K c d _ [some (.ref x),some (.ref p),some (.ref a),some (.ref b)] H;unfold g8 sFldK;symm;refine⟨p,h,w,g,rfl,hp,R.F,λp1 hp1=>?_⟩;have nxp:x≠p1:=ar hx hp1;refine⟨x,.Puzzle,dx,[],rfl,ok,by rw[ah nxp];exact hx,by show(0:Nat)<1000;decide,?_⟩
 have f1:∀ y o,y≠x->H y=some o->(upd (upd H p1 (.tup [.int h,.int w,.int g])) x (.ins (d.A .Puzzle) dx (putF "floor" (.ref p1) []))) y=some o:=λy o ny e=>by
  rw[ah ny,ah (ar e hp1)];exact e
 have hx1:(upd (upd H p1 (.tup [.int h,.int w,.int g])) x (.ins (d.A .Puzzle) dx (putF "floor" (.ref p1) []))) x=some (.ins (d.A .Puzzle) dx [("floor",.ref p1)]):=ag
 have hp1':IsFl (upd (upd H p1 (.tup [.int h,.int w,.int g])) x (.ins (d.A .Puzzle) dx (putF "floor" (.ref p1) []))) p1 h w g:=by
  show(upd (upd H p1 (.tup [.int h,.int w,.int g])) x _) p1=_;rw[ah nxp.symm,ag]
 have fr1:∀ l,(upd (upd H p1 (.tup [.int h,.int w,.int g])) x (.ins (d.A .Puzzle) dx (putF "floor" (.ref p1) []))) l=none->H l=none:=λl e=>by
  have n1:l≠x:=λz=>by rw[z,ag]at e;cases e
  rw[ah n1]at e;have n2:l≠p1:=λz=>by rw[z,ag]at e;cases e
  rw[ah n2]at e;exact e
 have nax:a≠x:=λz=>by rw[z,hx]at ha;cases ha
 have nbx:b≠x:=λz=>by rw[z,hx]at hb;cases hb
 generalize upd (upd H p1 (.tup [.int h,.int w,.int g])) x (.ins (d.A .Puzzle) dx (putF "floor" (.ref p1) []))=H1 at*;refine fldE (c:=d) (k:=.Puzzle) rfl ok hx1 (v:=.ref p1) (by rfl) ?_;symm;refine⟨p1,a,h,w,g,rows,rfl,hp1',f1 a _ nax ha,R,λL rs H2 s2 hL X=>?_⟩;refine⟨x,.Puzzle,dx,_,rfl,ok,s2 _ _ hx1,by show(1:Nat)<1000;decide,?_⟩;have nxL:L≠x:=λz=>by rw[z,hx1]at hL;cases hL
 have X3:=X.ins (o:=.ins (d.A .Puzzle) dx (putF "laws" (.ref L) [("floor",.ref p1)])) (s2 _ _ hx1) (by show(1:Nat)≠5;decide)
 have f2:∀ y o,y≠x->H y=some o->(upd H2 x (.ins (d.A .Puzzle) dx (putF "laws" (.ref L) [("floor",.ref p1)]))) y=some o:=λy o ny e=>by
  rw[ah ny];exact s2 _ _ (f1 y o ny e)
 have hx3:(upd H2 x (.ins (d.A .Puzzle) dx (putF "laws" (.ref L) [("floor",.ref p1)]))) x=some (.ins (d.A .Puzzle) dx [("floor",.ref p1),("laws",.ref L)]):=ag
 have hp3:IsFl (upd H2 x (.ins (d.A .Puzzle) dx (putF "laws" (.ref L) [("floor",.ref p1)]))) p1 h w g:=by
  show(upd H2 x _) p1=_;rw[ah nxp.symm];exact s2 _ _ hp1'
 have fr3:∀ l,(upd H2 x (.ins (d.A .Puzzle) dx (putF "laws" (.ref L) [("floor",.ref p1)]))) l=none->H1 l=none:=λl e=>by
  have n1:l≠x:=λz=>by rw[z,ag]at e;cases e
  rw[ah n1]at e;exact s2.free e
 generalize upd H2 x (.ins (d.A .Puzzle) dx (putF "laws" (.ref L) [("floor",.ref p1)]))=H3 at*;refine fldE (c:=d) (k:=.Puzzle) rfl ok hx3 (v:=.ref p1) (by rfl) ?_;symm;refine⟨p1,b,h,w,g,cl,rfl,hp3,R.F,f2 b _ nbx hb,C,λG H4 s4 hG eG=>?_⟩;refine⟨x,.Puzzle,dx,_,rfl,ok,s4 _ _ hx3,by show(2:Nat)<1000;decide,?_⟩;have nxG:G≠x:=λz=>by rw[z,hx3]at hG;cases hG
 refine q L G _ (λy o ny e=>?_) (fr1 L hL) (fr1 G (fr3 G hG)) ⟨ok,R,C,?_,dx,p1,rs,?_,?_,?_⟩
 . rw[ah ny];exact s4 _ _ (f2 y o ny e)
 . rw[ah nxG];exact eG
 . rw[ag];rfl
 . show(upd H4 x _) p1=_;rw[ah nxp.symm];exact s4 _ _ hp3
 . exact(X3.same s4).ins (s4 _ _ hx3) (by show(2:Nat)≠5;decide)
theorem qS {Z:Addr->Hp->Prop} {a b:Addr} (ok:d.ok .Puzzle=true) (hp:IsFl H p h w g) (ha:H a=some (.lst ((rows.map RR.txt).map V.str))) (hb:H b=some (.lst (cl.map V.int))) (R:c6 c h w g rows) (C:CluesOk h w g cl)
  (q:∀ P L G H',Same H H'->H P=none->H L=none->H G=none->IsPz H' c d P L G h w g rows cl->Z P H'):
  ∀ x dx,H x=none->H dx=none->dx≠x->aD K c d (.ref x::([.ref p,.ref a,.ref b]++[])) (upd (upd H dx (.own x)) x (.ins (d.A .Puzzle) dx [])) (λv H2=>v=.non/\Z x H2) E0:=by
 intro x dx hx hd ne;have k:∀ y o,H y=some o->(upd (upd H dx (.own x)) x (.ins (d.A .Puzzle) dx [])) y=some o:=λy o e=>by rw[ah (ar e hx),ah (ar e hd)];exact e
 have fr:∀ y,(upd (upd H dx (.own x)) x (.ins (d.A .Puzzle) dx [])) y=none->H y=none:=λy e=>by
  have n1:y≠x:=λz=>by rw[z,ag]at e;cases e
  rw[ah n1]at e;have n2:y≠dx:=λz=>by rw[z,ag]at e;cases e
  rw[ah n2]at e;exact e
 exact⟨x,dx,p,a,b,h,w,g,rows,cl,rfl,ok,ag,k _ _ hp,k _ _ ha,k _ _ hb,R,C,λL G H' hs hL hG X=>⟨rfl,q x L G H' (λy o e=>hs y o (ar e hx) (k _ _ e)) hx (fr L hL) (fr G hG) X⟩⟩
def bo(K:Frag)(c:RCl RK)(d:RCl PzK)(_:PzK):Sp:=λvs H Q _=>∃(P L G:Addr) (h w g:Int) (rows:List RR) (cl:List Int),vs=[.ref P]/\IsPz H c d P L G h w g rows cl/\∀ p,IsFl H p h w g->Q (.ref p) H
def km(K:Frag)(c:RCl RK)(d:RCl PzK):Sp:=bo K c d .Puzzle
def kn(K:Frag)(c:RCl RK)(d:RCl PzK):TS:=
 by exists ":l-j0~q"
theorem uA(h:km K c d vs H Q E):kn K c d {nx:=λ_ H'=>Q .non H',rt:=Q} (start ["self"] vs) H:=by
 obtain⟨P,L,G,h,w,g,rows,cl,rfl,x,q⟩:=h;obtain⟨dx,p,rs,h1,h2,h3⟩:=x.ex;show kn K c d _ [some (.ref P)] H;unfold kn;symm;exact fldE (k:=.Puzzle) rfl x.ok h1 (v:=.ref p) (by rfl) (q p h2)
def bS(K:Frag)(c:RCl RK)(d:RCl PzK)(_:PzK):Sp:=λvs H Q _=>∃(P L G:Addr) (h w g:Int) (rows:List RR) (cl:List Int),vs=[.ref P]/\IsPz H c d P L G h w g rows cl/\∀ l,H l=none->Q (.ref l) (upd H l (.lst (cl.map V.int)))
def ko(K:Frag)(c:RCl RK)(d:RCl PzK):Sp:=bS K c d .Puzzle
def kq(K:Frag)(c:RCl RK)(d:RCl PzK):TS:=
 by exists ":lq~ra-j0'gc"
theorem uB(h:ko K c d vs H Q E):kq K c d {nx:=λ_ H'=>Q .non H',rt:=Q} (start ["self"] vs) H:=by
 obtain⟨P,L,G,h,w,g,rows,cl,rfl,x,q⟩:=h;obtain⟨dx,p,rs,h1,h2,h3⟩:=x.ex;show kq K c d _ [some (.ref P)] H;unfold kq;symm;refine fldE (k:=.Puzzle) rfl x.ok h1 (v:=.ref G) (by rfl) ?_;symm;exact uj x.gv q
def g9(K:Frag)(c:RCl RK)(d:RCl PzK)(_:PzK):Sp:=λvs H Q _=>∃(P L G:Addr) (h w g:Int) (rows:List RR) (cl:List Int),vs=[.ref P]/\IsPz H c d P L G h w g rows cl/\∀ l p rs,H l=none->IsFl (upd H l (.lst (rs.map V.ref))) p h w g->IsRules (upd H l (.lst (rs.map V.ref))) c p l rs rows->Q (.ref l) (upd H l (.lst (rs.map V.ref)))
def kr(K:Frag)(c:RCl RK)(d:RCl PzK):Sp:=g9 K c d .Puzzle
def kt(K:Frag)(c:RCl RK)(d:RCl PzK):TS:=
 by exists ":lq~ra-j0~Oc"
theorem uC(h:kr K c d vs H Q E):kt K c d {nx:=λ_ H'=>Q .non H',rt:=Q} (start ["self"] vs) H:=by
 obtain⟨P,L,G,h,w,g,rows,cl,rfl,x,q⟩:=h;obtain⟨dx,p,rs,h1,h2,h3⟩:=x.ex;show kt K c d _ [some (.ref P)] H;unfold kt;symm;refine fldE (k:=.Puzzle) rfl x.ok h1 (v:=.ref L) (by rfl) ?_;symm;refine uj h3.top λl hl=>?_;have s1:Same H (upd H l (.lst (rs.map V.ref))):=(OL H).laid hl;exact q l p rs hl (s1 _ _ h2) ⟨ag,h3.len,λi r y e1 e2=>(h3.at_ i r y e1 e2).same s1⟩
theorem AO {fin:Addr->Hp->Prop} (X:IsRules H c p L rs rows) (R:c6 c h w g rows)
  (hd:∀ l H',H l=none->Same H H'->H' l=some (.lst ((rows.map RR.txt).map V.str))->fin l H'):CompR (Itl K L) (gName 1) tTrue (aL c c.ok "line" (pH K c) (tVar 1) tNil) fin [none,none] H:=by
 have hn:=R.n;have OC:=X.len;refine bn (xs:=rs.map V.ref) (λ_=>true) (λi=>.str ((rows.map RR.txt).getD i (tx []))) (by rw[OF];omega) (Pc X.top) ?_ ?_ ?_
 . intro i x H1 R hx s1 k1;exact k1 _ (OL _)
 . intro i x H1 Q1 hx hb s1 k1;rw[OH]at hx
   cases e:rs[i]? with
   | none=>rw[e]at hx;cases hx
   | some r=>
    rw[e]at hx;cases hx;have hi:=(OK.mp e).1;have er:rows[i]? =some rows[i]:=OG (by omega);have X1:=X.at_ i r _ e er;obtain⟨dx,W,C,h1,h2,h3⟩:=X1.ex;have q1:=k1 _ (OL H1);have eg:(rows.map RR.txt).getD i (tx [])=rows[i].txt:=by rw[List.getD,OH,er];rfl
    rw[eg]at q1;have O:=R.ok _ (ON er);have ln:=oN (k:=rows[i].k) (n:=rows[i].n) (m:=rows[i].m) O.len;show aL c c.ok "line" _ _ _ [none,some (.ref r)] H1 Q1;refine methE (k:=rows[i].k) rfl X1.ok (s1 _ _ h1) (by rfl) ?_;symm;exact⟨r,p,_,_,_,_,rfl,X1.same s1,ln.1,ln.2,q1⟩
 . intro l H1 hl s1 el;refine hd l H1 hl s1 ?_;rw[el,aU,OF,OC]
   congr 2
   refine Qi λi=>?_;rw[OH,OH,OH];by_cases h:i<rows.length
   . rw[PC h,OG h];simp[List.getD,h]
   . rw[Ph (by simpa using h),Ph (by omega)];rfl
def eQ(K:Frag)(c:RCl RK)(d:RCl PzK)(_:PzK):Sp:=λvs H Q _=>∃(P L G:Addr) (h w g:Int) (rows:List RR) (cl:List Int),vs=[.ref P]/\IsPz H c d P L G h w g rows cl/\∀ l H',Same H H'->H l=none->H' l=some (.lst ((rows.map RR.txt).map V.str))->Q (.ref l) H'
def kx(K:Frag)(c:RCl RK)(d:RCl PzK):Sp:=eQ K c d .Puzzle
def ky(K:Frag)(c:RCl RK)(d:RCl PzK):TS:=
 by exists ":lD&-- zb-j0~Oh#1 BAi:{b{cbi1c"
theorem uD(h:kx K c d vs H Q E):ky K c d {nx:=λ_ H'=>Q .non H',rt:=Q} (start ["self"] vs) H:=by
 obtain⟨P,L,G,h,w,g,rows,cl,rfl,x,q⟩:=h;obtain⟨dx,p,rs,h1,h2,h3⟩:=x.ex;show ky K c d _ [some (.ref P)] H;unfold ky;rw[gJ,cx];refine fldE (k:=.Puzzle) rfl x.ok h1 (v:=.ref L) (by rfl) ?_;refine⟨L,rfl,⟨_,Pc h3.top⟩,?_⟩;exact AO h3 x.R λl H1 hl s1 el=>q l H1 s1 hl el
abbrev nsV(cs:List Nat):List V:=(cs.map λ(n:Nat)=>(n:Int)).map V.int
theorem pJ(cs:List Nat):(nsV cs).length=cs.length:=by simp[nsV]
def fN(K:Frag):Sp:=λvs H Q _=>∃ z m:Int,vs=[.int z,.int m]/\0<=m/\m<=100/\∀(l:Addr) (H':Hp) (ys:List Int),Same H H'->H l=none->H' l=some (.lst (ys.map V.int))->(ys.length:Int)=m->(∀ y∈ys,0<=y)->Q (.ref l) H'
def k7(K:Frag):TS:=
 by exists ":gkerex0df#1000003 df#11 h#2 gkvch#3 gJTa1ch#4 gkexerereQ22eQdf#3 24df#1000003 h#2 HFbI~i3a2cl3"
theorem vE(h:fN K vs H Q E):k7 K {nx:=λ_ H'=>Q .non H',rt:=Q} (start ["_law_cell","_law_many","_law_number","_law_found","_law_k"] vs) H:=by
 obtain⟨z,m,rfl,m0,m1,q⟩:=h;show k7 K _ [some (.int z),some (.int m),none,none,none] H;unfold k7;symm;refine⟨by decide,bd (by decide),λL hL=>?_⟩;have e0:=Pj z (show(1000003:Int)≠0 by decide);have e1:=Pa z (show(0:Int)<1000003 by decide);refine⟨m,rfl,by omega,by omega,?_⟩
 refine cK (λi σ H'=>∃(n:Int) (kv:Option V) (ys:List Int),σ=[some (.int z),some (.int m),some (.int n),some (.ref L),kv]/\0<=n/\n<2000000/\Same H H'/\H' L=some (.lst (ys.map V.int))/\ys.length=i/\∀ y∈ys,0<=y)
  ⟨_,none,[],rfl,by omega,by omega,(OL H).laid hL,by rw[ag];rfl,rfl,λy hy=>nomatch hy⟩ ?_ ?_
 . rintro i σ H1 hi ⟨n,kv,ys,rfl,n0,n1,s1,el,hl,hy⟩;symm;refine⟨.inl ⟨by omega,by omega⟩,.inl ⟨by decide,by decide⟩,by decide,bA el,?_⟩;have c0:=Pj (n*n+3*n+(0+(i:Int))) (show(1000003:Int)≠0 by decide);have c1:=Pa (n*n+3*n+(0+(i:Int))) (show(0:Int)<1000003 by decide);generalize (n*n+3*n+(0+(i:Int)))%1000003=y at*;rw[kT el];refine⟨by rw[OF];exact aE (by omega),y,_,ys++[y],rfl,c0,by omega,s1.own hL,by rw[ag];simp,by simp[hl],λx hx=>?_⟩;rcases OY.mp hx with hx | hx
   . exact hy x hx
   . rw[OR.mp hx];exact c0
 . rintro σ H1 ⟨n,kv,ys,rfl,n0,n1,s1,el,hl,hy⟩;symm;exact q L H1 ys s1 hL el (by rw[hl];omega) hy
def gu(K:Frag):Sp:=λvs H Q _=>∃(X:Addr) (many:Int) (ys:List Int),vs=[.ref X,.int many]/\H X=some (.lst (ys.map V.int))/\0<=many/\many<=16/\many<=ys.length/\
 ∀(l:Addr) (H':Hp) (cs:List Nat),Same H H'->H l=none->H' l=some (.lst (nsV cs))->cs.Nodup->(∀ c∈cs,(c:Int)<many)->(cs.length:Int)=many->Q (.ref l) H'
def lT(K:Frag):TS:=
 by exists ":gk'ba1ch#2 gkvch#3 gJTa1ch#4 HFbI~i3aFbI'h2aexen04qKa2cccl3"
theorem xb(h:gu K vs H Q E):lT K {nx:=λ_ H'=>Q .non H',rt:=Q} (start ["_law_xs","_law_many","_law_left","_law_order_here","_law_k"] vs) H:=by
 obtain⟨X,many,ys,rfl,hX,m0,m1,m2,q⟩:=h;show lT K _ [some (.ref X),some (.int many),none,none,none] H;unfold lT;symm;refine⟨many,rfl,by omega,by omega,λL hL=>?_⟩;obtain⟨H1,z9,s1,eL⟩:=aX (.lst ((rngL 0 many).map V.int)) hL;rw[z9];symm;refine⟨bd (by decide),λR hR=>?_⟩;have nRL:R≠L:=λe=>by rw[e,eL]at hR;cases hR
 refine⟨many,rfl,by omega,by omega,?_⟩
 refine cK (λi σ H'=>∃(kv:Option V) (fs ls:List Int),σ=[some (.ref X),some (.int many),some (.ref L),some (.ref R),kv]/\Same H H'/\H' L=some (.lst (ls.map V.int))/\H' R=some (.lst (fs.map V.int))/\(fs++ls).Perm (rngL 0 many)/\fs.length=i)
  ⟨none,[],rngL 0 many,rfl,s1.laid hR,by rw[ah nRL.symm];exact eL,by rw[ag];rfl,QQ _,rfl⟩ ?_ ?_
 . rintro i σ H2 hi ⟨kv,fs,ls,rfl,s2,e1,e2,hp,hl⟩;have OC:=hp.length_eq;rw[OU,pY]at OC;symm;refine⟨bA e2,bA e1,?_⟩;refine ixI (s2 _ _ hX) (by omega) (by omega) ?_;symm;rw[gM e1,OF];have hpos:0 < (ls.length:Int):=by omega
   generalize ys.getD (0+(i:Int)).toNat 0=y at*;have j0:=Pj y (Tf hpos);have j1:=Pa y hpos;refine⟨hpos,?_⟩;generalize y % (ls.length:Int)=j at*;have hj:j.toNat<ls.length:=by omega
   refine Ad e1 j0 (by rw[OF];omega) (y:=V.int ls[j.toNat]) (by rw[OH,OG hj];rfl) ?_;have e2':(upd H2 L (.lst ((ls.map V.int).eraseIdx j.toNat))) R=some (.lst (fs.map V.int)):=by rw[ah nRL];exact e2
   symm;rw[kT e2'];refine⟨by rw[OF];exact aE (by omega),_,fs++[ls[j.toNat]],ls.eraseIdx j.toNat,rfl,(s2.own hL).own (s1.free hR),?_,?_,?_,by simp[hl]⟩
   . rw[ah nRL.symm,ag,wM]
   . rw[ag];simp
   . have p1:=uz ls j.toNat hj;have p2:=SV fs p1;refine List.Perm.trans ?_ hp;rw[Rb];exact p2
 . rintro σ H2 ⟨kv,fs,ls,rfl,s2,e1,e2,hp,hl⟩;symm;have hnd:(fs++ls).Nodup:=hp.nodup_iff.mpr (B6 many);have hm:∀ x∈fs,0<=x/\x<many:=λx hx=>EC (hp.mem_iff.mp (OY.mpr (.inl hx)))
   have ef:(fs.map Int.toNat).map (λ(n:Nat)=>(n:Int))=fs:=by
    rw[O4]
    conv=>rhs;rw[← QA fs]
    exact Pl λx hx=>by have:=hm x hx;show((x.toNat:Nat):Int)=x;omega
   refine q R H2 (fs.map Int.toNat) s2 (s1.free hR) (by unfold nsV;rw[ef];exact e2) ?_ ?_ ?_
   . have h1:=(Rc.mp hnd).1;rw[← ef]at h1;exact qP _ h1
   . intro c hc;obtain⟨x,hx,rfl⟩:=OP.mp hc;have:=hm x hx;omega
   . rw[OF,hl];omega
theorem qT(cs:List Nat)(b:Int->Bool):((cs.map λ(n:Nat)=>(n:Int)).filter b).map (λx=>x)=(cs.filter λ(n:Nat)=>b (n:Int)).map λ(n:Nat)=>(n:Int):=by
 rw[List.map_id',List.filter_map];rfl
theorem tJ(xs:List V){k:Int}(h:0<=k):cutV xs none (some k)=xs.take k.toNat:=by
 unfold cutV;have e:k=((k.toNat:Nat):Int):=by omega
 have h1:HT.sIx xs.length 0 none=0:=rfl
 have h2:HT.sIx xs.length xs.length (some k)=min k.toNat xs.length:=by
  conv=>lhs;rw[e]
  exact HT.sIx_nat ..
 rw[h1,h2];show(xs.drop 0).take _=_;rw[List.drop_zero];by_cases hk:k.toNat<=xs.length
 . rw[SR hk];rfl
 . rw[Sr (by omega),PR (by omega),PR (by omega)]
theorem vF(cs:List Nat)(k:Nat):(nsV cs).take k=nsV (cs.take k):=by
 unfold nsV;rw[Q5,Q5]
theorem FM(cs ds:List Nat):nsV cs++nsV ds=nsV (cs++ds):=by
 unfold nsV;rw[PB,PB]
variable{cs:List Nat}
theorem uE{x:Int}(h:x∈cs.map λ(n:Nat)=>(n:Int)):∃ c∈cs,(c:Int)=x:=OP.mp h
def sgN(xs:List Int)(c:Nat):Int:=xs.getD c 0
variable{f:Addr}
theorem Af{c:Nat}(hf:H f=some (.lst (xs.map V.int)))(hc:c<xs.length)(q:Q (.int (sgN xs c)) H):cIx (.ref f) (.int (c:Int)) H Q:=by
 refine ixI hf (by omega) (by omega) ?_;rw[Ry];exact q
theorem AQ{c:Nat}{lo hi:Int}(hx:∀ x∈xs,lo<=x/\x<=hi)(hc:c<xs.length):lo<=sgN xs c/\sgN xs c<=hi:=by
 unfold sgN;rw[List.getD,OG hc];exact hx _ (Pt hc)
structure KeepS(H:Hp)(O f:Addr)(cs:List Nat)(xs:List Int):Prop where
 O:H O=some (.lst (nsV cs))
 f:H f=some (.lst (xs.map V.int))
 nd:cs.Nodup
 ne:cs≠[]
 n:cs.length<=16
 lt:∀ c∈cs,c<xs.length
 sg:∀ x∈xs,1<=x/\x<=6
def hJ(K:Frag):Sp:=λvs H Q _=>∃(O f:Addr) (b:Bool) (cs:List Nat) (xs:List Int),vs=[.ref O,.ref f,.bl b]/\KeepS H O f cs xs/\
 ∀(l:Addr) (H':Hp) (ks:List Nat),Same H H'->H l=none->H' l=some (.lst (nsV ks))->ks.Nodup->(∀ k∈ks,k∈cs)->ks≠[]->ks.length<=16->Q (.ref l) H'
def nk(K:Frag):TS:=
 by exists ":gkvch#3 gJ'iadf#1 adf#7 ch#4 g^#5 &--14 zb0h#1 mesben2131ker3YZ5+*df#1 h#3 goC2l3plD&--3 zb0h#1 me~kbG121"
theorem uF{ks:List Nat}(h1:ks.Nodup)(h2:∀ k∈ks,k∈cs):ks.length<=cs.length:=by
 have h:=um (xs:=ks.map λ(n:Nat)=>(n:Int)) (ys:=cs.map λ(n:Nat)=>(n:Int)) (p9 h1) λx hx=>by
  obtain⟨k,hk,rfl⟩:=OP.mp hx;exact OP.mpr ⟨k,h2 k hk,rfl⟩
 simpa using h
theorem yC(h:hJ K vs H Q E):nk K {nx:=λ_ H'=>Q .non H',rt:=Q} (start ["_law_order_here","_law_filling_here","_law_rising","_law_kept_here","_law_sign","_law_some"] vs) H:=by
 obtain⟨O,f,b,cs,xs,rfl,X,q⟩:=h;have hn:=X.n;show nk K _ [some (.ref O),some (.ref f),some (.bl b),none,none,none] H;unfold nk;symm;refine⟨bd (by decide),λL hL=>?_⟩;refine⟨1,7,rfl,by omega,?_⟩
 refine cK (λi σ H'=>∃(R:Addr) (sv mv:Option V) (ks:List Nat),σ=[some (.ref O),some (.ref f),some (.bl b),some (.ref R),sv,mv]/\Same H H'/\H R=none/\H' R=some (.lst (nsV ks))/\ks.Nodup/\(∀ k∈ks,k∈cs/\sgN xs k<=i)/\(∀ c∈cs,sgN xs c<=i->ks≠[]))
  ⟨L,none,none,[],rfl,(OL H).laid hL,hL,by rw[ag];rfl,QP,(λk hk=>by cases hk),λc hc h=>by have:=(AQ X.sg (X.lt c hc)).1;omega⟩ ?_ ?_
 . rintro i σ H1 hi ⟨R,sv,mv,ks,rfl,s1,hR,eR,nd,hk,hne⟩;symm;refine⟨⟨_,s1.seq (Pc X.O)⟩,?_⟩;refine j8 (xs:=cs.map λ(n:Nat)=>(n:Int)) (λx=>decide (xs.getD x.toNat 0=1+(i:Int))) (λx=>x) (by simp;omega) (s1.seq (Pc X.O)) ?_ ?_ ?_
   . intro x H2 R2 hx s2 k2;obtain⟨c,hc,rfl⟩:=uE hx;have hl:=X.lt c hc;show tTest _ [none,some (.int (c:Int)),some (.ref f),some (.int (1+(i:Int)))] H2 R2;symm;refine ixI ((s1.trans s2) _ _ X.f) (by omega) (by omega) ?_;symm;exact k2 _ (OL _)
   . intro x H2 Q2 hx hb s2 k2;show tVar 1 [none,some (.int x),some (.ref f),some (.int (1+(i:Int)))] H2 Q2;symm;exact k2 _ (OL _)
   . intro S H2 hS s2 eS;rw[qT]at eS;have hS':H2 S=some (.lst (nsV (cs.filter λ(n:Nat)=>decide (xs.getD (n:Int).toNat 0=1+(i:Int))))):=eS;have efil:(cs.filter λ(n:Nat)=>decide (xs.getD (n:Int).toNat 0=1+(i:Int)))=cs.filter λ(n:Nat)=>decide (sgN xs n=1+(i:Int)):=rfl;rw[efil]at hS';generalize hfs:(cs.filter λ(n:Nat)=>decide (sgN xs n=1+(i:Int)))=fs at hS';symm;refine ly hS' λT hT=>?_;rw[tJ _ (by decide),vF];obtain⟨H3,z9,s3,eT⟩:=aX (.lst (nsV (fs.take (1:Int).toNat))) hT;rw[z9];have s13:=(s1.trans s2).trans s3;symm;have hkl:=uF nd λk hk'=>(hk k hk').1;refine pE (s3 _ _ (s2 _ _ eR)) eT (by rw[pJ,pJ,PV];have:(1:Int).toNat=1:=rfl;omega) λU hU=>?_;rw[FM];have hU0:H U=none:=s13.free hU
     have memf:∀ k∈fs.take (1:Int).toNat,k∈cs/\sgN xs k=1+(i:Int):=λk hk'=>by
      have:=QG hk';rw[← hfs]at this;have:=Ql.mp this;exact⟨this.1,QH this.2⟩
     refine⟨U,_,_,ks++fs.take (1:Int).toNat,rfl,s13.laid hU,hU0,ag,?_,?_,?_⟩
     . rw[Rc];refine⟨nd,?_,λa ha b hb e=>?_⟩
       . match fs with
         | []=>exact QP
         | x::r=>show([x]:List Nat).Nodup;exact P0.mpr ⟨by simp,QP⟩
       . have h1:=(hk a ha).2;have h2:=(memf b hb).2;rw[e]at h1;omega
     . intro k hk';rcases OY.mp hk' with hk' | hk'
       . have:=hk k hk';exact⟨this.1,by have:=this.2;omega⟩
       . have:=memf k hk';exact⟨this.1,by rw[this.2];omega⟩
     . intro c hc hle e0;obtain⟨e1,e2⟩:=List.append_eq_nil_iff.mp e0;by_cases hlt:sgN xs c<=(i:Int)
       . exact hne c hc hlt e1
       . have hm:c∈fs:=by rw[← hfs];exact Ql.mpr ⟨hc,O3 (by omega)⟩
         match fs,hm,e2 with
         | x::r,_,e2=>cases e2
 . rintro σ H1 ⟨R,sv,mv,ks,rfl,s1,hR,eR,nd,hk,hne⟩;have hsub:∀ k∈ks,k∈cs:=λk hk'=>(hk k hk').1;have hkl:=uF nd hsub
   have hks:ks≠[]:=by
    match ec:cs,X.ne with
    | c::r,_=>
     have hc:c∈cs:=by rw[ec];exact OV
     refine hne c (by rw[← ec];exact hc) ?_;have:=(AQ X.sg (X.lt c (by rw[← ec];exact hc))).2;have:((7-1:Int).toNat:Int)=6:=rfl;omega
   symm;rw[aN];symm
   cases b with
   | true=>exact q R H1 ks s1 hR eR nd hsub hks (by omega)
   | false=>
    refine⟨⟨_,s1.seq (Pc X.O)⟩,?_⟩;refine j8 (xs:=cs.map λ(n:Nat)=>(n:Int)) (λx=>decide (x∈ks.map λ(n:Nat)=>(n:Int))) (λx=>x) (by simp;omega) (s1.seq (Pc X.O)) ?_ ?_ ?_
    . intro x H2 R2 hx s2 k2;show tTest _ [none,some (.int x),some (.ref R)] H2 R2;symm;rw[GR (s2 _ _ eR)];exact⟨_,rfl,k2 _ (OL _)⟩
    . intro x H2 Q2 hx hb s2 k2;show tVar 1 [none,some (.int x),some (.ref R)] H2 Q2;symm;exact k2 _ (OL _)
    . intro S H2 hS s2 eS;rw[qT]at eS;refine q S H2 (cs.filter λ(n:Nat)=>decide ((n:Int)∈ks.map λ(n:Nat)=>(n:Int))) (s1.trans s2) (s1.free hS) eS (X.nd.filter _) (λk hk'=>(Ql.mp hk').1) ?_ (O7 (Qe _ _) (by omega))
      match ks,hks,hsub with
      | k::r,_,hsub=>
       intro e;have:k∈cs.filter λ(n:Nat)=>decide ((n:Int)∈(k::r).map λ(n:Nat)=>(n:Int)):=Ql.mpr ⟨hsub k OV,by simp⟩;rw[e]at this;cases this
def h9(K:Frag):Sp:=λvs H Q _=>∃(f C:Addr) (cs:List Nat) (xs:List Int),vs=[.ref f,.ref C]/\H f=some (.lst (xs.map V.int))/\H C=some (.lst (nsV cs))/\(∀ c∈cs,c<xs.length)/\∀ n:Nat,n<=cs.length->Q (.int n) H
def nq(K:Frag):TS:=
 by exists ":gkdf#0 h#2 gkdf#0 h#3 gJzb1h#4 ome>en042gken04h#2 ker3df#1 h#3 pl3"
theorem yD(h:h9 K vs H Q E):nq K {nx:=λ_ H'=>Q .non H',rt:=Q} (start ["_law_filling_here","_law_cells","_law_greatest","_law_many","_law_cell"] vs) H:=by
 obtain⟨f,C,cs,xs,rfl,hf,hC,hlt,q⟩:=h;show nq K _ [some (.ref f),some (.ref C),none,none,none] H;unfold nq;symm;refine⟨⟨_,Pc hC⟩,kO (K:=K) (xs:=nsV cs) (λi σ H'=>∃(cv:Option V) (g:Int) (n:Nat),σ=[some (.ref f),some (.ref C),some (.int g),some (.int n),cv]/\H'=H/\n<=i) ⟨none,0,0,rfl,rfl,Py _⟩ (λi σ H' _ ⟨_,_,_,_,e,_⟩=>by rw[e];exact Pc hC) ?_ ?_⟩
 . rintro i y σ H2 hy ⟨cv,g,n,rfl,rfl,hn⟩;rw[OH,OH]at hy
   cases e:cs[i]? with
   | none=>rw[e]at hy;cases hy
   | some c=>
    rw[e]at hy;cases hy;have hl:=hlt c (ON e);symm;rw[aN];symm;refine Af hf hl ?_;symm
    cases decide (g<sgN xs c) with
    | true=>
     refine iteT ?_;refine Af hf hl ?_;exact⟨_,_,n+1,rfl,by first | trivial | rfl,by omega⟩
    | false=>exact iteF ⟨_,g,n,rfl,by first | trivial | rfl,by omega⟩
 . rintro σ H2 ⟨cv,g,n,rfl,rfl,hn⟩;symm;exact q n (by rw[pJ]at hn;exact hn)
structure LineS(H:Hp)(p f:Addr)(h w g:Int)(xs:List Int):Prop where
 fl:IsFl H p h w g
 F:FlOk h w g
 f:H f=some (.lst (xs.map V.int))
 n:xs.length=(h*w).toNat
 sg:∀ x∈xs,1<=x/\x<=6
theorem LineS.same(x:LineS H p f h w g xs)(s:Same H H'):LineS H' p f h w g xs:=⟨s _ _ x.fl,x.F,s _ _ x.f,x.n,x.sg⟩
def pK(K:Frag):Sp:=λvs H Q _=>∃(p f:Addr) (h w g z:Int) (xs:List Int),vs=[.ref p,.ref f,.int z]/\LineS H p f h w g xs/\∀(r:RR) (H':Hp),Same H H'->r.Ok h w g->Q (.str r.txt) H'
def ie(K:Frag):TS:=
 by exists ":lFb[~xdtu`0aer|aD&-- zb6h#1 Bq;a1cc",[32]
def ig(K:Frag):TS:=
 by exists ":gomesb9df#1 kvadtu`0aq;aerq{daD&--1 zb6h#1 Ben21c8cch#10 pgomesb9df#2 kvadtu`1ch#10 pgomesb9df#3 kvadtu`2aq;aer,{eba1a6c8cch#10 pgomesb9df#4 kvadtu`3aq;aerqKaD&--17 zb6h#1 mesben2131c8caq;a7cch#10 p{fb",[115,117,109],[114,105,115,105,110,103],[115,101,101,110],[99,111,117,110,116]
def iU(K:Frag):TS:=
 by exists ":gkvadtu`0ch#10 {gb",[117,110,108,105,107,101]
def iV(K:Frag):TS:=
 by exists ":go~jme~kbG9wadf#0 adf#2 cmesb8df#0 kYZ,{hba5a1aesb9df#2 c+*qKa6ch#6 p{ib"
def iW(K:Frag):TS:=
 by exists ":gome>9df#4 lererenvadtu`0adtu`1adtu`2ce~e9df#5 dtu`3q;a7cp{jb",[106,111,105,110,101,100],[110,111,115,113,117,97,114,101],[114,105,110,103],[32]
def iO(K:Frag):TS:=
 by exists ":gkeQen0df#0 en0df#1 h#3 gk,{kbaeU2df#8 aer3df#3 ch#4 gk,{lba4a3ch#5 gkYZ5+*erdf#1 exen433h#6 gkerdf#1 exen4er3df#1 en0df#2 h#7 gkenvadf#0 adf#0 adf#0 adf#1 cexen4er3df#2 df#4 h#8 gkex2df#8 h#9 {mb"
structure SomeS(H:Hp)(S:Addr)(n:Nat)(ns:List Nat):Prop where
 S:H S=some (.lst (nsV ns))
 nd:ns.Nodup
 ne:ns≠[]
 len:ns.length<=16
 lt:∀ c∈ns,c<n
variable{n:Nat}{S:Addr}{ns:List Nat}
theorem SomeS.same(x:SomeS H S n ns)(s:Same H H'):SomeS H' S n ns:=⟨s _ _ x.S,x.nd,x.ne,x.len,x.lt⟩
theorem SomeS.lt100(F:FlOk h w g)(x:SomeS H S (h*w).toNat ns):∀ c∈ns,c<100:=λc hc=>by
 have:=x.lt c hc;have:=F.m;omega
theorem da {v0 v1 v2 v3 v4 v5 v7 v8 v9:Option V} {W:Addr} {pre:List (List Nat)} (X:SomeS H S n ns) (h100:∀ c∈ns,c<100) (hW:H W=some (.lst ((pre.map tx).map V.str))) (h1:pre.length<=10) (h2:∀ x∈pre,x.length<=100)
  (q:∀ H',Same H H'->Q (.str (tx (catL 32 (pre++ns.map numC)))) H'):
  ie K {nx:=λ_ H'=>Q .non H',rt:=Q} [v0,v1,v2,v3,v4,v5,some (.ref S),v7,v8,v9,some (.ref W)] H:=by
 have hn:=X.len;unfold ie;symm;refine⟨pX,⟨_,Pc X.S⟩,?_⟩;refine wN X.S (by omega) h100 λl H1 hl s1 el=>?_;symm;refine pE (s1 _ _ hW) el (by simp;omega) λr hr=>?_;have er:(upd H1 r (.lst ((pre.map tx).map V.str++((ns.map numC).map tx).map V.str))) r=some (.lst (((pre++ns.map numC).map tx).map V.str)):=by rw[ag];simp
 have s2:Same H (upd H1 r (.lst ((pre.map tx).map V.str++((ns.map numC).map tx).map V.str))):=s1.laid hr;generalize upd H1 r (.lst ((pre.map tx).map V.str++((ns.map numC).map tx).map V.str))=H2 at*;symm
 have hw:∀ t∈pre++ns.map numC,t.length<=100:=λt ht=>by
  rcases OY.mp ht with ht | ht
  . exact h2 t ht
  . obtain⟨x,_,rfl⟩:=OP.mp ht;exact O7 gH (by decide)
 have er2:H2 r=some (.lst (((pre++ns.map numC).map tx).map V.str)):=er;refine vx er2 (kb (by simp;omega) (λt ht=>by obtain⟨y,hy,rfl⟩:=OP.mp ht;rw[cr];have:=hw y hy;omega) (by rw[cr];decide)) ?_;rw[p7,mG];exact q _ s2
variable{m:Nat}
theorem jp{k:RK}(F:FlOk h w g)(X:SomeS H S (h*w).toNat ns)(hk:allK k=false)(k0:k≠.Rule)(n0:n<=99)(nz:numK k=false->n=0)(m0:sgnK k=true->1<=(m:Int)/\(m:Int)<=g)(mz:sgnK k=false->m=0):
  RR.Ok ⟨k,n,m,ns,ns.map λ(n:Nat)=>(n:Int)⟩ h w g:=by
 refine⟨k0,n0,nz,m0,mz,⟨λ_=>⟨X.ne,X.len,λn hn=>?_,X.nd,rfl⟩,λe=>?_⟩,X.lt100 F,X.len⟩
 . have:=X.lt n hn;omega
 . rw[hk]at e;cases e
theorem B7{k:RK}(hk:allK k=true)(k0:k≠.Rule)(hn:numK k=false)(hs:sgnK k=true)(m0:1<=(m:Int))(m1:(m:Int)<=g):RR.Ok ⟨k,0,m,[],rngL 0 (h*w)⟩ h w g:=by
 refine⟨k0,Py _,λ_=>rfl,λ_=>⟨m0,m1⟩,λe=>?_,⟨λe=>?_,λ_=>⟨rfl,rfl⟩⟩,λx hx=>(by cases hx),Py _⟩
 . rw[show sgnK k=false from e]at hs;cases hs
 . rw[show allK k=false from e]at hk;cases hk
theorem ifEqI{σ:St}{D:Ends}{t u:TS}{i j:Int}{b:Bool}{x:Nat}(hσ:σ[x]? =some (some (.int i)))(hb:decide (i=j)=b)(q:if b=true then t D σ H else u D σ H):tIfS (tTest (tOp (cEq K) (tVar x) (tC (.int j)))) t u D σ H:=by
 rw[aN,dJ,jz,ui];refine⟨_,hσ,?_⟩;symm;rw[hb];exact q
theorem wO:∀{ys:List Int},(∀ y∈ys,1<=y/\y<=6)->0<=ys.sum/\ys.sum<=6*(ys.length:Int)
 | [],_=>⟨by simp,by simp⟩
 | y::r,h=>by
  have h1:=h y OV;have h2:=wO (ys:=r) λz hz=>h z (OT _ hz);rw[List.sum_cons,Pq];constructor <;> omega
variable{many:V}
theorem tK {X O W:Addr} {z off way:Int} (L:LineS H p f h w g xs) (M:SomeS H S (h*w).toNat ns) (o0:0<=off) (o1:off<=1) (m0:1<=(m:Int)) (m1:(m:Int)<=g) (w0:0<=way) (w1:way<=4) (hW:H W=some (.lst [V.str (tx (nmC .Unlike))]))
  (q:∀(r:RR) (H':Hp),Same H H'->r.Ok h w g->Q (.str r.txt) H'):
  ig K {nx:=λ_ H'=>Q .non H',rt:=Q} [some (.ref p),some (.ref f),some (.int z),some many,some (.ref X),some (.ref O),some (.ref S),some (.int (m:Int)),some (.int off),some (.int way),some (.ref W)] H:=by
 have h100:=M.lt100 L.F;have OC:=M.len;have hg:=L.F.g1;have hlt:∀ c∈ns,c<xs.length:=λc hc=>by rw[L.n];exact M.lt c hc
 have W1:∀ k:RK,(nmC k).length<=100:=λk=>by cases k <;> decide
 have hN:∀ x,(numC x).length<=100:=λx=>O7 gH (by decide);unfold ig;have hw:way=0\/way=1\/way=2\/way=3\/way=4:=by omega
 rcases hw with rfl | rfl | rfl | rfl | rfl
 . rw[az];refine ifEqI rfl (b:=false) (by decide) (iteF ?_);rw[bc]
   try dsimp only
   rw[az];refine ifEqI rfl (b:=false) (by decide) (iteF ?_);rw[bc]
   try dsimp only
   rw[az];refine ifEqI rfl (b:=false) (by decide) (iteF ?_);rw[bc]
   try dsimp only
   rw[az];refine ifEqI rfl (b:=false) (by decide) (iteF ?_);rw[bc]
   try dsimp only
   exact da (pre:=[nmC .Unlike]) M h100 hW (by decide) (λx hx=>by rw[OR.mp hx];exact W1 _) λH1 s1=>q ⟨.Unlike,0,0,ns,_⟩ H1 s1 (jp L.F M rfl (by decide) (by decide) (λ_=>rfl) (λe=>by cases e) (λ_=>rfl))
 . rw[az];refine ifEqI rfl (b:=true) (by decide) (iteT ?_);symm;refine⟨⟨_,Pc M.S⟩,?_⟩;refine j8 (xs:=ns.map λ(n:Nat)=>(n:Int)) (λ_=>true) (λx=>xs.getD x.toNat 0) (by simp;omega) (Pc M.S) ?_ ?_ ?_
   . intro x H1 R hx s1 k1;exact k1 _ (OL _)
   . intro x H1 Q1 hx hb s1 k1;obtain⟨c,hc,rfl⟩:=uE hx;have:=hlt c hc;show tOp cIx _ _ [none,some (.int (c:Int)),some (.ref f)] H1 Q1;symm;exact ixI (s1 _ _ L.f) (by omega) (by omega) (k1 _ (OL _))
   . intro T H1 hT s1 eT;rw[aU]at eT
     have hb:∀ y∈(ns.map λ(n:Nat)=>(n:Int)).map (λx=>xs.getD x.toNat 0),1<=y/\y<=6:=λy hy=>by
      obtain⟨x,hx,rfl⟩:=OP.mp hy;obtain⟨c,hc,rfl⟩:=uE hx;exact AQ L.sg (hlt c hc)
     have hs:=wO hb;rw[OF,OF]at hs;symm;refine Gx eT (λy hy=>by have:=hb y hy;omega) (by rw[OF,OF];omega) ?_;generalize ((ns.map λ(n:Nat)=>(n:Int)).map (λx=>xs.getD x.toNat 0)).sum=sm at*;symm;have en:sm+off=(((sm+off).toNat:Nat):Int):=by omega
     have hn:(sm+off).toNat<=97:=by omega
     rw[en];generalize (sm+off).toNat=n at*;refine⟨pI (n:=n) (by omega),?_⟩;rw[pG (n:=n) (by omega)];refine⟨lnR rfl,λV1 hV1=>?_⟩;have s2:Same H (upd H1 V1 (.lst [V.str (tx [115,117,109]),V.str (tx (numC n))])):=s1.laid hV1;have eV:(upd H1 V1 (.lst [V.str (tx [115,117,109]),V.str (tx (numC n))])) V1=some (.lst ((([nmC .Sum,numC n]:List (List Nat)).map tx).map V.str)):=ag;generalize upd H1 V1 (.lst [V.str (tx [115,117,109]),V.str (tx (numC n))])=H2 at*;refine ifEqI rfl (b:=false) (by decide) (iteF ?_);rw[bc]
     try dsimp only
     rw[az];refine ifEqI rfl (b:=false) (by decide) (iteF ?_);rw[bc]
     try dsimp only
     rw[az];refine ifEqI rfl (b:=false) (by decide) (iteF ?_);rw[bc]
     try dsimp only
     exact da (pre:=[nmC .Sum,numC n]) (M.same s2) h100 eV (by show(2:Nat)<=10;decide) (λx hx=>by rcases OM.mp hx with rfl | hx;exact W1 _;rw[OR.mp hx];exact hN _) λH3 s3=>q ⟨.Sum,n,0,ns,_⟩ H3 (s2.trans s3) (jp L.F M rfl (by decide) (by omega) (λe=>by cases e) (λe=>by cases e) (λ_=>rfl))
 . rw[az];refine ifEqI rfl (b:=false) (by decide) (iteF ?_);rw[bc]
   try dsimp only
   rw[az];refine ifEqI rfl (b:=true) (by decide) (iteT ?_);symm;refine⟨lnR rfl,λV1 hV1=>?_⟩;obtain⟨H2,z9,s2,eV⟩:∃ z,upd H V1 (.lst [V.str (tx [114,105,115,105,110,103])])=z/\Same H z/\z V1=some (.lst ((([nmC .Rising]:List (List Nat)).map tx).map V.str)):=aX _ hV1;rw[z9];refine ifEqI rfl (b:=false) (by decide) (iteF ?_);rw[bc]
   try dsimp only
   rw[az];refine ifEqI rfl (b:=false) (by decide) (iteF ?_);rw[bc]
   try dsimp only
   exact da (pre:=[nmC .Rising]) (M.same s2) h100 eV (by show(1:Nat)<=10;decide) (λx hx=>by rw[OR.mp hx];exact W1 _) λH3 s3=>q ⟨.Rising,0,0,ns,_⟩ H3 (s2.trans s3) (jp L.F M rfl (by decide) (by omega) (λ_=>rfl) (λe=>by cases e) (λ_=>rfl))
 . rw[az];refine ifEqI rfl (b:=false) (by decide) (iteF ?_);rw[bc]
   try dsimp only
   rw[az];refine ifEqI rfl (b:=false) (by decide) (iteF ?_);rw[bc]
   try dsimp only
   rw[az];refine ifEqI rfl (b:=true) (by decide) (iteT ?_);symm;refine⟨f,S,ns,xs,rfl,L.f,M.S,hlt,λsn hsn=>?_⟩;symm;have en:(sn:Int)+off=(((sn:Int)+off).toNat:Nat):=by omega
   have hn:((sn:Int)+off).toNat<=97:=by omega
   rw[en];generalize ((sn:Int)+off).toNat=n at*;refine⟨pI (n:=n) (by omega),?_⟩;rw[pG (n:=n) (by omega)];refine⟨lnR rfl,λV1 hV1=>?_⟩;obtain⟨H2,z9,s2,eV⟩:∃ z,upd H V1 (.lst [V.str (tx [115,101,101,110]),V.str (tx (numC n))])=z/\Same H z/\z V1=some (.lst ((([nmC .Seen,numC n]:List (List Nat)).map tx).map V.str)):=aX _ hV1;rw[z9];refine ifEqI rfl (b:=false) (by decide) (iteF ?_);rw[bc]
   try dsimp only
   exact da (pre:=[nmC .Seen,numC n]) (M.same s2) h100 eV (by show(2:Nat)<=10;decide) (λx hx=>by rcases OM.mp hx with rfl | hx;exact W1 _;rw[OR.mp hx];exact hN _) λH3 s3=>q ⟨.Seen,n,0,ns,_⟩ H3 (s2.trans s3) (jp L.F M rfl (by decide) (by omega) (λe=>by cases e) (λe=>by cases e) (λ_=>rfl))
 . rw[az];refine ifEqI rfl (b:=false) (by decide) (iteF ?_);rw[bc]
   try dsimp only
   rw[az];refine ifEqI rfl (b:=false) (by decide) (iteF ?_);rw[bc]
   try dsimp only
   rw[az];refine ifEqI rfl (b:=false) (by decide) (iteF ?_);rw[bc]
   try dsimp only
   rw[az];refine ifEqI rfl (b:=true) (by decide) (iteT ?_);symm;refine⟨⟨_,Pc M.S⟩,?_⟩;refine j8 (xs:=ns.map λ(n:Nat)=>(n:Int)) (λx=>decide (xs.getD x.toNat 0=(m:Int))) (λx=>x) (by simp;omega) (Pc M.S) ?_ ?_ ?_
   . intro x H1 R hx s1 k1;obtain⟨c,hc,rfl⟩:=uE hx;have:=hlt c hc;show tTest _ [none,some (.int (c:Int)),some (.ref f),some (.int (m:Int))] H1 R;symm;refine ixI (s1 _ _ L.f) (by omega) (by omega) ?_;symm;exact k1 _ (OL _)
   . intro x H1 Q1 hx hb s1 k1;show tVar 1 [none,some (.int x),some (.ref f),some (.int (m:Int))] H1 Q1;symm;exact k1 _ (OL _)
   . intro T H1 hT s1 eT;rw[qT]at eT;have eT':H1 T=some (.lst (nsV (ns.filter λ(n:Nat)=>decide (xs.getD (n:Int).toNat 0=(m:Int))))):=eT;have hfl:=Qe (λn:Nat=>decide (xs.getD (n:Int).toNat 0=(m:Int))) ns;generalize (ns.filter λ(n:Nat)=>decide (xs.getD (n:Int).toNat 0=(m:Int)))=fs at*;symm;rw[gM eT',pJ];symm;have en:(fs.length:Int)+off=(((fs.length:Int)+off).toNat:Nat):=by omega
     have hn:((fs.length:Int)+off).toNat<=97:=by omega
     rw[en];generalize ((fs.length:Int)+off).toNat=n at*;refine⟨pI (n:=n) (by omega),pI (n:=m) (by omega),?_⟩;rw[pG (n:=n) (by omega),pG (n:=m) (by omega)];refine⟨lnR rfl,λV1 hV1=>?_⟩;have s2:Same H (upd H1 V1 (.lst [V.str (tx [99,111,117,110,116]),V.str (tx (numC n)),V.str (tx (numC m))])):=s1.laid hV1;have eV:(upd H1 V1 (.lst [V.str (tx [99,111,117,110,116]),V.str (tx (numC n)),V.str (tx (numC m))])) V1=some (.lst ((([nmC .Count,numC n,numC m]:List (List Nat)).map tx).map V.str)):=ag;generalize upd H1 V1 (.lst [V.str (tx [99,111,117,110,116]),V.str (tx (numC n)),V.str (tx (numC m))])=H2 at*;exact da (pre:=[nmC .Count,numC n,numC m]) (M.same s2) h100 eV (by show(3:Nat)<=10;decide) (λx hx=>by rcases OM.mp hx with rfl | hx;exact W1 _;rcases OM.mp hx with rfl | hx;exact hN _;rw[OR.mp hx];exact hN _) λH3 s3=>q ⟨.Count,n,m,ns,_⟩ H3 (s2.trans s3) (jp L.F M rfl (by decide) (by omega) (λe=>by cases e) (λ_=>⟨m0,m1⟩) (λe=>by cases e))
theorem kz {X O:Addr} {z off way:Int} (L:LineS H p f h w g xs) (M:SomeS H S (h*w).toNat ns) (o0:0<=off) (o1:off<=1) (m0:1<=(m:Int)) (m1:(m:Int)<=g) (w0:0<=way) (w1:way<=4)
  (q:∀(r:RR) (H':Hp),Same H H'->r.Ok h w g->Q (.str r.txt) H'):
  iU K {nx:=λ_ H'=>Q .non H',rt:=Q} [some (.ref p),some (.ref f),some (.int z),some many,some (.ref X),some (.ref O),some (.ref S),some (.int (m:Int)),some (.int off),some (.int way),none] H:=by
 unfold iU;symm;refine⟨lnR rfl,λW hW=>?_⟩;have s1:Same H (upd H W (.lst [V.str (tx (nmC .Unlike))])):=(OL H).laid hW;exact tK (L.same s1) (M.same s1) o0 o1 m0 m1 w0 w1 ag λr H' s2 O=>q r H' (s1.trans s2) O
theorem B8{i:Int}{ns:List Int}(h:H p=some (.tup (ns.map V.int))):cIn K false (.int i) (.ref p) H Q=Q (.bl (decide (i∈ns))) H:=by
 unfold cIn;dsimp only;rw[h];dsimp only[unD,unS,bnd];rw[pV,ou];simp[flatV]
theorem uG {X O:Addr} {z off way:Int} (L:LineS H p f h w g xs) (M:SomeS H S (h*w).toNat ns) (hO:H O=some (.lst (nsV cs))) (c1:cs.Nodup) (c2:cs≠[]) (c3:cs.length<=16) (c4:∀ c∈cs,c < (h*w).toNat) (o0:0<=off) (o1:off<=1) (m0:1<=(m:Int)) (m1:(m:Int)<=g) (w0:0<=way) (w1:way<=4)
  (q:∀(r:RR) (H':Hp),Same H H'->r.Ok h w g->Q (.str r.txt) H'):
  iV K {nx:=λ_ H'=>Q .non H',rt:=Q} [some (.ref p),some (.ref f),some (.int z),some many,some (.ref X),some (.ref O),some (.ref S),some (.int (m:Int)),some (.int off),some (.int way),none] H:=by
 unfold iV;rw[az,aN];symm;refine⟨lnR rfl,λT hT=>?_⟩;obtain⟨H1,z9,s1,eT⟩:∃ z,upd H T (.tup [V.int 0,V.int 2])=z/\Same H z/\z T=some (.tup (([0,2]:List Int).map V.int)):=aX _ hT;rw[z9];rw[B8 eT];refine⟨_,rfl,?_⟩
 cases decide (way∈([0,2]:List Int)) with
 | false=>
  refine iteF ?_;exact kz (L.same s1) (M.same s1) o0 o1 m0 m1 w0 w1 λr H' s2 O=>q r H' (s1.trans s2) O
 | true=>
  refine iteT ?_;symm
  cases decide (off=0) with
  | false=>
   refine iteF ?_;exact kz (L.same s1) (M.same s1) o0 o1 m0 m1 w0 w1 λr H' s2 O=>q r H' (s1.trans s2) O
  | true=>
   refine iteT ?_;symm;refine⟨O,f,_,cs,xs,rfl,⟨s1 _ _ hO,s1 _ _ L.f,c1,c2,c3,λc hc=>by rw[L.n];exact c4 c hc,L.sg⟩,λR H2 ks s2 hR eR k1 k2 k3 k4=>?_⟩;symm;rw[gM (s2 _ _ (s1 _ _ M.S)),pJ];refine⟨_,rfl,?_⟩;refine ly eR λU hU=>?_;rw[tJ _ (by omega),vF,Ry];have s3:Same H (upd H2 U (.lst (nsV (ks.take ns.length)))):=(s1.trans s2).laid hU;have eU:(upd H2 U (.lst (nsV (ks.take ns.length)))) U=some (.lst (nsV (ks.take ns.length))):=ag;generalize upd H2 U (.lst (nsV (ks.take ns.length)))=H3 at*;refine kz (ns:=ks.take ns.length) (L.same s3) ⟨eU,k1.sublist (Sa _ _),?_,?_,λc hc=>c4 c (k2 c (QG hc))⟩ o0 o1 m0 m1 w0 w1 λr H' s4 O=>q r H' (s3.trans s4) O
   . match ks,k3,ns,M.ne with
     | k::r,_,n::r',_=>simp
   . rw[PV];have:=M.len;omega
theorem FN{a b:List Nat}(h1:a.length<=100)(h2:b.length<=100)(q:Q (.str (tx (a++b))) H):cAdd (.str (tx a)) (.str (tx b)) H Q:=by
 rw[dM,yj];exact⟨by rw[cr,cr];exact bd (by omega),q⟩
theorem uH {X O:Addr} {z off way:Int} (L:LineS H p f h w g xs) (M:SomeS H S (h*w).toNat ns) (hO:H O=some (.lst (nsV cs))) (c1:cs.Nodup) (c2:cs≠[]) (c3:cs.length<=16) (c4:∀ c∈cs,c < (h*w).toNat) (o0:0<=off) (o1:off<=1) (m0:1<=(m:Int)) (m1:(m:Int)<=g) (w0:0<=way) (w1:way<8)
  (q:∀(r:RR) (H':Hp),Same H H'->r.Ok h w g->Q (.str r.txt) H'):
  iW K {nx:=λ_ H'=>Q .non H',rt:=Q} [some (.ref p),some (.ref f),some (.int z),some many,some (.ref X),some (.ref O),some (.ref S),some (.int (m:Int)),some (.int off),some (.int way),none] H:=by
 have hg:=L.F.g1;have hN:∀ x,(numC x).length<=50:=λx=>O7 gH (by decide);unfold iW;rw[az,aN];symm;by_cases hw:(4:Int)<way
 . rw[O3 hw];refine iteT ⟨lnR rfl,λT hT=>?_⟩;have s1:Same H (upd H T (.lst [V.str (tx (nmC .Joined)),V.str (tx (nmC .NoSquare)),V.str (tx (nmC .Ring))])):=(OL H).laid hT;have eT:(upd H T (.lst [V.str (tx (nmC .Joined)),V.str (tx (nmC .NoSquare)),V.str (tx (nmC .Ring))])) T=some (.lst [V.str (tx (nmC .Joined)),V.str (tx (nmC .NoSquare)),V.str (tx (nmC .Ring))]):=ag
   have fin:∀ k:RK,allK k=true->k≠.Rule->numK k=false->sgnK k=true->(nmC k).length<=20->∀(H1:Hp),Same H H1->cAdd (.str (tx (nmC k))) (.str (tx [32])) H1 λx H2=>kStr [.int (m:Int)] H2 λy H3=>cAdd x y H3 Q:=λk a1 a2 a3 a4 a5 H1 s=>by
    refine FN (by omega) (by decide) ?_;refine vD (by omega) ?_;refine FN (by simp;omega) (by have:=hN m;omega) ?_
    have e:nmC k++[32]++numC m=catL 32 (rowW k 0 m []):=by
     unfold rowW;rw[a3,a4];show nmC k++[32]++numC m=nmC k++32::numC m;simp
    rw[e];exact q ⟨k,0,m,[],rngL 0 (h*w)⟩ H1 s (B7 a1 a2 a3 a4 m0 m1)
   have hw3:way=5\/way=6\/way=7:=by omega
   rcases hw3 with rfl | rfl | rfl
   . refine ixL eT (v:=V.str (tx (nmC .Joined))) rfl ?_;symm;exact fin .Joined rfl (by decide) rfl rfl (by decide) _ s1
   . refine ixL eT (v:=V.str (tx (nmC .NoSquare))) rfl ?_;symm;exact fin .NoSquare rfl (by decide) rfl rfl (by decide) _ s1
   . refine ixL eT (v:=V.str (tx (nmC .Ring))) rfl ?_;symm;exact fin .Ring rfl (by decide) rfl rfl (by decide) _ s1
 . rw[OW hw];refine iteF ?_;exact uG L M hO c1 c2 c3 c4 o0 o1 m0 m1 w0 (by omega) q
theorem vG(h:pK K vs H Q E):iO K {nx:=λ_ H'=>Q .non H',rt:=Q} (start ["_law_floor_here","_law_filling_here","_law_cell","_law_many","_law_xs","_law_order_here","_law_some","_law_sign","_law_off","_law_way","_law_words"] vs) H:=by
 obtain⟨p,f,h,w,g,z,xs,rfl,L,q⟩:=h;obtain⟨h0,h1,w0,w1,m16,g0,g1⟩:=id L.F;have mpos:1<=h*w:=Int.le_trans (by omega) (S1 h0 w0 (by omega) (by omega));show iO K _ [some (.ref p),some (.ref f),some (.int z),none,none,none,none,none,none,none,none] H;unfold iO;symm;refine ixT L.fl (v:=V.int h) rfl ?_;symm;refine ixT L.fl (v:=V.int w) rfl ?_;symm;refine⟨oy h0 h1,⟨by decide,by decide⟩,?_⟩;symm;refine⟨_,_,rfl,by omega,by omega,λX H1 ys s1 hX eX hl hy=>?_⟩;symm;refine⟨X,h*w,ys,rfl,eX,by omega,by omega,by omega,λO H2 cs s2 hO eO nd lt len=>?_⟩;have s12:=s1.trans s2;have eX2:=s2 _ _ eX;symm;refine ixI eX2 (by omega) (by omega) ?_;have y1:0<=ys.getD (h*w).toNat 0 % (h*w)/\ys.getD (h*w).toNat 0 % (h*w)<h*w:=⟨Pj _ (by omega),Pa _ (by omega)⟩;symm;refine⟨by omega,?_⟩;generalize ys.getD (h*w).toNat 0 % (h*w)=r1 at*;refine ly eO λS hS=>?_;rw[tJ _ (by omega),vF];have s3:Same H (upd H2 S (.lst (nsV (cs.take (1+r1).toNat)))):=s12.laid hS;have s23:Same H2 (upd H2 S (.lst (nsV (cs.take (1+r1).toNat)))):=(OL H2).laid hS;have eS:(upd H2 S (.lst (nsV (cs.take (1+r1).toNat)))) S=some (.lst (nsV (cs.take (1+r1).toNat))):=ag;generalize upd H2 S (.lst (nsV (cs.take (1+r1).toNat)))=H3 at*;symm;refine ixI (s23 _ _ eX2) (by omega) (by omega) ?_;symm;refine ixT (s3 _ _ L.fl) (v:=V.int g) rfl ?_;symm;refine⟨by omega,?_⟩;have y2:0<=ys.getD (h*w+1).toNat 0%g/\ys.getD (h*w+1).toNat 0%g<g:=⟨Pj _ (by omega),Pa _ (by omega)⟩;generalize ys.getD (h*w+1).toNat 0%g=r2 at*;refine⟨lnR rfl,λT hT=>?_⟩;obtain⟨H4,z9,s4,eT⟩:∃ z,upd H3 T (.lst [V.int 0,V.int 0,V.int 0,V.int 1])=z/\Same H3 z/\z T=some (.lst (([0,0,0,1]:List Int).map V.int)):=aX _ hT;rw[z9];have s34:=s3.trans s4;refine ixI (s4 _ _ (s23 _ _ eX2)) (by omega) (by omega) ?_;symm;refine⟨by decide,?_⟩;have y3:0<=ys.getD (h*w+2).toNat 0%4/\ys.getD (h*w+2).toNat 0%4<4:=⟨Pj _ (by omega),Pa _ (by omega)⟩;generalize ys.getD (h*w+2).toNat 0%4=r3 at*;refine ixI eT y3.1 (by show r3<4;omega) ?_
 have y4:0<=([0,0,0,1]:List Int).getD r3.toNat 0/\([0,0,0,1]:List Int).getD r3.toNat 0<=1:=by
  have:r3=0\/r3=1\/r3=2\/r3=3:=by omega
  rcases this with rfl | rfl | rfl | rfl <;> decide
 generalize ([0,0,0,1]:List Int).getD r3.toNat 0=off at*;symm;refine⟨by decide,?_⟩;have em:1+r2=(((1+r2).toNat:Nat):Int):=by omega
 have em1:1<=(((1+r2).toNat:Nat):Int)/\(((1+r2).toNat:Nat):Int)<=g:=by omega
 rw[em];generalize (1+r2).toNat=m at*;have y5:=Pj z (show(8:Int)≠0 by decide);have y6:=Pa z (show(0:Int)<8 by decide);refine uH (cs:=cs) (ns:=cs.take (1+r1).toNat) (L.same s34) ⟨s4 _ _ eS,nd.sublist (Sa _ _),?_,?_,λc hc=>?_⟩ ((s23.trans s4) _ _ eO) nd ?_ (by omega) (λc hc=>?_) y4.1 y4.2 em1.1 em1.2 y5 y6 λr H' s5 O=>q r H' (s34.trans s5) O
 . intro e;have:=congrArg List.length e;rw[PV,SN]at this;omega
 . rw[PV];omega
 . have:=lt c (QG hc);omega
 . intro e;rw[e]at len;simp at len;omega
 . have:=lt c hc;omega
variable{D:PyData}
theorem Dm{q:Addr}(hp:DV K H (.ref p) D)(hq:DV K H (.ref q) D)(hs:SeqAt.shaped D=true)(he:PyData.eqv D D=true)(h:Q (.bl false) H):cNe K (.ref p) (.ref q) H Q:=by
 show rNeD K (.ref p) (.ref q) H Q;refine⟨D,D,hp,hq,hs,hs,?_⟩;rw[he];exact h
theorem yE{q:Addr}(hp:DV K H (.ref p) D)(hq:DV K H (.ref q) D)(hs:SeqAt.shaped D=true)(he:PyData.eqv D D=true)(h:Q (.bl true) H):cEq K (.ref p) (.ref q) H Q:=by
 show rEqD K (.ref p) (.ref q) H Q;refine⟨D,D,hp,hq,hs,hs,?_⟩;rw[he];exact h
theorem xf(xs:List Int):PyData.eqv (.list (xs.map PyData.int)) (.list (xs.map PyData.int))=true:=by
 rw[PyData.eqv,mS];simp
theorem ED(n:Int):PyData.eqv (.int n) (.int n)=true:=by
 rw[PyData.eqv];simp
def mf(K:Frag):Sp:=λvs H Q _=>∃(a p:Addr) (ns:List Int) (at_ h w g:Int),vs=[.ref a,.ref p,.int at_]/\SqL K H a (ns.map V.int)/\ns.length<=63/\0<=at_/\at_<=500/\IsFl H p h w g/\FlOk h w g/\
 ∀(l:Addr) (H':Hp) (xs:List Int),Same H H'->H l=none->H' l=some (.lst (xs.map V.int))->xs.length=(h*w).toNat->(∀ x∈xs,1<=x/\x<=g)->Q (.ref l) H'
def fc(K:Frag):TS:=
 by exists ":lD&--210 TaeQen1df#0 en1df#1 ch#1 Berdf#1 ex,Oba4aer21cen3df#2 "
theorem sq(h:mf K vs H Q E):fc K {nx:=λ_ H'=>Q .non H',rt:=Q} (start ["_law_script","_law_floor_here","_law_at_here"] vs) H:=by
 obtain⟨a,p,ns,at_,h,w,g,rfl,hS,hn,a0,a1,hp,F,q⟩:=h;obtain⟨h0,h1,w0,w1,m16,g0,g1⟩:=id F;have mpos:0<=h*w:=Qt (by omega) (by omega);show fc K _ [some (.ref a),some (.ref p),some (.int at_)] H;unfold fc;symm;refine ixT hp (v:=V.int h) rfl ?_;symm;refine ixT hp (v:=V.int w) rfl ?_;symm;refine⟨oy h0 h1,h*w,rfl,by omega,by omega,?_⟩;refine sO (λ_=>true) (λi=>1+lawAt ns (at_+(i:Int))%g) (by omega) ?_ ?_ ?_
 . intro i H1 R hi s1 k1;exact k1 _ (OL _)
 . intro i H1 Q1 hi hb s1 k1;show tOp cAdd _ _ [none,some (.int (0+(i:Int))),some (.int at_),some (.ref p),some (.ref a)] H1 Q1;rw[SG];symm;refine⟨a,ns,_,rfl,s1.seq hS,hn,by omega,by omega,?_⟩;symm;refine ixT (s1 _ _ hp) (v:=V.int g) rfl ?_;symm;exact⟨by omega,k1 _ (OL _)⟩
 . intro l H1 hl s1 el;rw[aU]at el;refine q l H1 _ s1 hl el (by simp) λx hx=>?_;obtain⟨i,_,rfl⟩:=OP.mp hx;have e0:=Pj (lawAt ns (at_+(i:Int))) (show g≠0 by omega);have e1:=Pa (lawAt ns (at_+(i:Int))) (show 0<g by omega);omega
def tTryI(K:Frag)(tt:TT)(sp:Sp)(t:TA)(sp2:Sp)(t2:TA)(cv:Value)(i:Nat)(th:TS):TS:=λD σ H=>∃ E:XK,(tt σ H λb H0=>if b=true then t σ H0 λvs H1=>sp vs H1 (λ_ H2=>D.nx σ H2) E else t2 σ H0 λvs H1=>sp2 vs H1 (λ_ H2=>D.nx σ H2) E)/\BU K cv i E th D σ H
section
variable{X:Cx}{k k2 nn:Nat}{ps ps2:List Str}{sp sp2:Sp}{x x2:Str}{p pos p2 pos2:Pos}{c e e2:Expr}{es es2:List Expr}{tt:TT}{t t2:TA}
theorem EE {i:Nat} {n cn:Str} {cv:Value} {np hpos epos epos2 ipos tpos:Pos} {b₀:Stmt} {suite:List Stmt} {th:TS} (hnx:∀ e s,X.xe e s->False) (C:bf X.prog X.w X.K X.mg X.base k x ps sp) (C2:bf X.prog X.w X.K X.mg X.base k2 x2 ps2 sp2) (hr:Room nn X.A) (hk:k<=nn) (hk2:k2<=nn) (hgf:Gl X x) (hgf2:Gl X x2)
  (ht:PT X c tt) (ha:PA X (e::es) t) (ha2:PA X (e2::es2) t2) (hN:X.N.Nodup) (hi:X.N[i]? =some n) (hkn:X.env.kindOf n=some .local) (hg:Gl X cn) (hm:X.mg cn=some cv)
  (hst:X.stack=X.env::X.outer) (hf:X.env.frame=some X.env.locals) (hs:∀ x,PSs (X.caught x) (b₀::suite) th) (hdb:(x==("__debug__":Str))=false:=by decide) (hdb2:(x2==("__debug__":Str))=false:=by decide) (hdc:(cn==("__debug__":Str))=false:=by decide)
  (he:starEach (e::es) X.env=(false,eval e X.env)::starEach es X.env:=by rfl) (hpl:(backTo pos (starEach es X.env)).any (·.1)=false:=by rfl) (hsw:swapsWith (.Call (.Name x p) (e::es) [] pos) none epos.line X.env=pure false:=by rfl)
  (he2:starEach (e2::es2) X.env=(false,eval e2 X.env)::starEach es2 X.env:=by rfl) (hpl2:(backTo pos2 (starEach es2 X.env)).any (·.1)=false:=by rfl) (hsw2:swapsWith (.Call (.Name x2 p2) (e2::es2) [] pos2) none epos2.line X.env=pure false:=by rfl):
  PS X (.Try [.If c [.Expr (.Call (.Name x p) (e::es) [] pos) epos] [.Expr (.Call (.Name x2 p2) (e2::es2) [] pos2) epos2] ipos] [.ExceptHandler (some (.Name cn np)) (some n) (b₀::suite) hpos] [] [] tpos) (tTryI X.K tt sp t sp2 t2 cv i th):=by
 obtain⟨f,fd,F,hm',hkp,hb⟩:=C.ex;obtain⟨f2,fd2,F2,hm2',hkp2,hb2⟩:=C2.ex;intro Ox s σ H D I h;obtain⟨E,h1,h2⟩:=h;refine wpAny_Try_except (Rl (wpAny_If (PF (ht Ox s σ H _ I h1) (λd s1 ⟨H1,I1,q1⟩=>?_) λe s' hx=>(hnx e s' hx).elim)))
 cases d with
 | true=>
  refine Rl (SY (PF (Ac E hnx F (hr.mono hk) hgf hm' hkp hb ha I1 q1 hdb he hpl) (λv s2 ⟨y,H2,I2,r2,q2⟩=>?_) λe s' hc=>?_) I1.quiet hsw)
  . exact Qm (Qm (Qm ⟨σ,H2,I2,q2⟩))
  . exact yp hN hi hkn hg hm hst hf hs hc h2 hdc
 | false=>
  refine Rl (SY (PF (Ac E hnx F2 (hr.mono hk2) hgf2 hm2' hkp2 hb2 ha2 I1 q1 hdb2 he2 hpl2) (λv s2 ⟨y,H2,I2,r2,q2⟩=>?_) λe s' hc=>?_) I1.quiet hsw2)
  . exact Qm (Qm (Qm ⟨σ,H2,I2,q2⟩))
  . exact yp hN hi hkn hg hm hst hf hs hc h2 hdc
end
def spJ(h w r c:Int):Nat->(Int × Int) × (Int × Int)
 | 0=>((r,c),(h,w))
 | j+1=>(((spJ h w r c j).1.2,(spJ h w r c j).2.1-1 - (spJ h w r c j).1.1),((spJ h w r c j).2.2,(spJ h w r c j).2.1))
theorem vH{h w r c:Int}(P:Int->Prop)(hh:P h)(hw:P w):∀ j,P (spJ h w r c j).2.1/\P (spJ h w r c j).2.2
 | 0=>⟨hh,hw⟩
 | j+1=>⟨(vH P hh hw j).2,(vH P hh hw j).1⟩
def mvC(h w m z:Int):Int:=(spJ h w (z/w) (if 4<=m then w-1-z%w else z%w) (m%4).toNat).1.1*(spJ h w (z/w) (if 4<=m then w-1-z%w else z%w) (m%4).toNat).2.2+(spJ h w (z/w) (if 4<=m then w-1-z%w else z%w) (m%4).toNat).1.2
def mvL(h w m:Int):List Int:=(List.range (h*w).toNat).map λ(i:Nat)=>mvC h w m (i:Int)
def mvH(h w m:Int):Int:=if m%2=1 then w else h
def mvW(h w m:Int):Int:=if m%2=1 then h else w
theorem dimJ(h w r c:Int):∀ j:Nat,(spJ h w r c j).2=if j%2=1 then(w,h) else(h,w)
 | 0=>rfl
 | j+1=>by
  show((spJ h w r c j).2.2,(spJ h w r c j).2.1)=_;rw[dimJ h w r c j];by_cases e:j%2=1
  . rw[O6 e,O0 (by omega)]
  . rw[O0 e,O6 (by omega)]
def bT(K:Frag):Sp:=λvs H Q _=>∃(a:Addr) (h w g:Int),vs=[.ref a]/\IsFl H a h w g/\∀ p,H p=none->Q (.ref p) (upd H p (.tup [.int w,.int h,.int g]))
def kA(K:Frag):TS:=
 by exists ":lwaen0df#1 aen0df#0 aen0df#2 c"
variable{K:Frag}{vs:List V}{H:Hp}{Q:VK}{E:XK}
theorem uI(h:bT K vs H Q E):kA K {nx:=λ_ H'=>Q .non H',rt:=Q} (start ["floor"] vs) H:=by
 obtain⟨a,h,w,g,rfl,ha,q⟩:=h;show kA K _ [some (.ref a)] H;unfold kA;symm;refine ixT ha (v:=V.int w) rfl ?_;symm;refine ixT ha (v:=V.int h) rfl ?_;symm;refine ixT ha (v:=V.int g) rfl ?_;symm;exact⟨lnR rfl,q⟩
def fO(K:Frag):Sp:=λvs H Q _=>∃(a s:Addr) (h w g r c:Int),vs=[.ref a,.ref s]/\IsFl H a h w g/\H s=some (.tup [.int r,.int c])/\∀ p,H p=none->Q (.ref p) (upd H p (.tup [.int c,.int (h-1-r)]))
def k8(K:Frag):TS:=
 by exists ":lwaen1df#1 ae~ee~een0df#0 df#1 en1df#0 c"
theorem vI(h:fO K vs H Q E):k8 K {nx:=λ_ H'=>Q .non H',rt:=Q} (start ["floor","spot"] vs) H:=by
 obtain⟨a,s,h,w,g,r,c,rfl,ha,hs,q⟩:=h;show k8 K _ [some (.ref a),some (.ref s)] H;unfold k8;symm;refine ixT hs (v:=V.int c) rfl ?_;symm;refine ixT ha (v:=V.int h) rfl ?_;symm;refine ixT hs (v:=V.int r) rfl ?_;symm;exact⟨lnR rfl,q⟩
def db(K:Frag):Sp:=λvs H Q _=>∃(a s:Addr) (h w g r c:Int),vs=[.ref a,.ref s]/\IsFl H a h w g/\H s=some (.tup [.int r,.int c])/\∀ p,H p=none->Q (.ref p) (upd H p (.tup [.int r,.int (w-1-c)]))
def jF(K:Frag):TS:=
 by exists ":lwaen1df#0 ae~ee~een0df#1 df#1 en1df#1 c"
theorem tL(h:db K vs H Q E):jF K {nx:=λ_ H'=>Q .non H',rt:=Q} (start ["floor","spot"] vs) H:=by
 obtain⟨a,s,h,w,g,r,c,rfl,ha,hs,q⟩:=h;show jF K _ [some (.ref a),some (.ref s)] H;unfold jF;symm;refine ixT hs (v:=V.int r) rfl ?_;symm;refine ixT ha (v:=V.int w) rfl ?_;symm;refine ixT hs (v:=V.int c) rfl ?_;symm;exact⟨lnR rfl,q⟩
def gw(K:Frag):Sp:=λvs H Q _=>∃(a:Addr) (h w g m z:Int),vs=[.ref a,.int m,.int z]/\IsFl H a h w g/\FlOk h w g/\0<=m/\m<8/\∀ H',Same H H'->Q (.int (mvC h w m z)) H'
def jG(K:Frag):TS:=
 by exists ":gJTaex1df#4 ch#5 gk,{nba3a4ch#4 k,'jba3ch#3 lereQen4df#0 en3df#1 en4df#1 "
def lU(K:Frag):TS:=
 by exists ":gk0h#3 gk,{oba0a2ch#4 gome)1df#4 k,{pba0a4ch#4 p{qb"
theorem nr {a s:Addr} {h w g m z r c:Int} (ha:IsFl H a h w g) (F:FlOk h w g) (m0:0<=m) (m8:m<8) (hs:H s=some (.tup [.int r,.int c]))
  (q:∀ H',Same H H'->Q (.int ((spJ h w r c (m%4).toNat).1.1*(spJ h w r c (m%4).toNat).2.2+(spJ h w r c (m%4).toNat).1.2)) H'):
  jG K {nx:=λ_ H'=>Q .non H',rt:=Q} [some (.ref a),some (.int m),some (.int z),some (.ref a),some (.ref s),none] H:=by
 obtain⟨h0,h1,w0,w1,m16,g0,g1⟩:=id F;unfold jG;symm;refine⟨by decide,?_⟩;have b0:=Pj m (show(4:Int)≠0 by decide);have b1:=Pa m (show(0:Int)<4 by decide);refine⟨m%4,rfl,by omega,by omega,?_⟩
 refine cK (λi σ H'=>∃(N S:Addr) (kv:Option V),σ=[some (.ref a),some (.int m),some (.int z),some (.ref N),some (.ref S),kv]/\Same H H'/\IsFl H' N (spJ h w r c i).2.1 (spJ h w r c i).2.2 g/\H' S=some (.tup [.int (spJ h w r c i).1.1,.int (spJ h w r c i).1.2]))
  ⟨a,s,none,rfl,OL H,ha,hs⟩ ?_ ?_
 . rintro i σ H1 hi ⟨N,S,kv,rfl,s1,eN,eS⟩;symm;refine⟨N,S,_,_,g,_,_,rfl,eN,eS,λS2 hS2=>?_⟩;have s2:=(OL H1).laid (o:=.tup [.int (spJ h w r c i).1.2,.int ((spJ h w r c i).2.1-1 - (spJ h w r c i).1.1)]) hS2;have eS2:(upd H1 S2 (.tup [.int (spJ h w r c i).1.2,.int ((spJ h w r c i).2.1-1 - (spJ h w r c i).1.1)])) S2=some (.tup [.int (spJ h w r c (i+1)).1.1,.int (spJ h w r c (i+1)).1.2]):=ag;generalize upd H1 S2 (.tup [.int (spJ h w r c i).1.2,.int ((spJ h w r c i).2.1-1 - (spJ h w r c i).1.1)])=H2 at*;symm;refine⟨N,_,_,g,rfl,s2 _ _ eN,λN2 hN2=>?_⟩;have s3:=(OL H2).laid (o:=.tup [.int (spJ h w r c i).2.2,.int (spJ h w r c i).2.1,.int g]) hN2;exact⟨N2,S2,_,rfl,(s1.trans s2).trans s3,ag,s3 _ _ eS2⟩
 . rintro σ H1 ⟨N,S,kv,rfl,s1,eN,eS⟩;have dm:=vH (r:=r) (c:=c) (λx=>1<=x/\x<=6) ⟨h0,h1⟩ ⟨w0,w1⟩ (m%4).toNat;have q1:=q _ s1;generalize (spJ h w r c (m%4).toNat).1.1=r' at*;generalize (spJ h w r c (m%4).toNat).1.2=c' at*;generalize (spJ h w r c (m%4).toNat).2.1=h' at*;generalize (spJ h w r c (m%4).toNat).2.2=w' at*;symm;refine ixT eS (v:=V.int r') rfl ?_;symm;refine ixT eN (v:=V.int w') rfl ?_;symm;refine⟨.inr ⟨by omega,by omega⟩,?_⟩;refine ixT eS (v:=V.int c') rfl ?_;symm;exact q1
theorem xh(h:gw K vs H Q E):lU K {nx:=λ_ H'=>Q .non H',rt:=Q} (start ["floor","move","cell","now","spot","turn"] vs) H:=by
 obtain⟨a,h,w,g,m,z,rfl,ha,F,m0,m8,q⟩:=h;obtain⟨h0,h1,w0,w1,m16,g0,g1⟩:=id F;show lU K _ [some (.ref a),some (.int m),some (.int z),none,none,none] H;unfold lU;symm;refine⟨a,h,w,g,z,rfl,ha,by omega,by omega,λs hs=>?_⟩;obtain⟨H1,z9,s1,es⟩:=aX (.tup [.int (z/w),.int (z%w)]) hs;rw[z9];symm;rw[aN];symm;unfold mvC at q;by_cases h4:4<=m
 . simp only[O6 h4]at q;rw[O3 h4];refine iteT ?_;symm;refine⟨a,s,h,w,g,_,_,rfl,s1 _ _ ha,es,λs2' hs2=>?_⟩;have s2:Same H1 (upd H1 s2' (.tup [.int (z/w),.int (w-1-z%w)])):=(OL H1).laid hs2;exact nr ((s1.trans s2) _ _ ha) F m0 m8 ag λH' s3=>q H' ((s1.trans s2).trans s3)
 . simp only[O0 h4]at q;rw[OW h4];refine iteF ?_;symm;exact nr (s1 _ _ ha) F m0 m8 es λH' s3=>q H' (s1.trans s3)
def bi(K:Frag):Sp:=λvs H Q E=>∃ m:Int,vs=[.int m]/\(0<=m->m<8->Q .non H)/\(¬ (0<=m/\m<8)->∀ C,Glb K "NoMove" C->E (.ref C) none H)
theorem sr(h:bi K vs H Q E):vs.length=1:=by
 obtain⟨_,rfl,_⟩:=h;rfl
def fh(K:Frag)(a:EA)(E:XK):TS:=
 by exists ":oWMC,~yba0cWme<0df#0 me)0df#8 ~zy~Aadtu`0cp",[97,32,109,111,118,101,32,105,115,32,97,32,110,117,109,98,101,114,32,102,114,111,109,32,48,32,116,111,32,55]
theorem su{a:EA}{os:List Addr}(R:gY K a "NoMove" a.NoMove os)(h:bi K vs H Q E):fh K a E {nx:=λ_ H'=>Q .non H',rt:=Q} (start ["move"] vs) H:=by
 obtain⟨m,rfl,k1,k2⟩:=h;have bad:¬ (0<=m/\m<8)->E (.ref a.NoMove) none H:=λz=>k2 z _ R.g;have one:(1:Nat)<=sizeLine:=bd (by decide);show fh K a E _ [some (.int m)] H;unfold fh;rw[aN];symm;refine⟨m,rfl,⟨true,rfl,?_⟩⟩;symm;by_cases c1:m<0
 . rw[O3 c1];symm;rw[pD];symm;exact⟨one,bad λz=>by omega⟩
 . rw[OW c1];symm;by_cases c2:8<=m
   . rw[O3 c2];symm;rw[pD];symm;exact⟨one,bad λz=>by omega⟩
   . rw[OW c2];symm;exact k1 (by omega) (by omega)
def cU(K:Frag):Sp:=λvs H Q E=>∃(a:Addr) (m h w g:Int),vs=[.ref a,.int m]/\IsFl H a h w g/\(0<=m->m<8->∀ p H',Same H H'->IsFl H' p (mvH h w m) (mvW h w m) g->Q (.ref p) H')/\(¬ (0<=m/\m<8)->∀ C,Glb K "NoMove" C->E (.ref C) none H)
theorem vJ(h:cU K vs H Q E):vs.length=2:=by
 obtain⟨_,_,_,_,_,rfl,_⟩:=h;rfl
def iP(K:Frag)(E:XK):TS:=
 by exists ":gHL'kb=ya1cgk0h#2 gJTaex1df#4 ch#3 k,'jba2ch#2 l2"
theorem vK(h:cU K vs H Q E):iP K E {nx:=λ_ H'=>Q .non H',rt:=Q} (start ["floor","move","now","turn"] vs) H:=by
 obtain⟨a,m,h,w,g,rfl,ha,k1,k2⟩:=h;show iP K E _ [some (.ref a),some (.int m),none,none] H;unfold iP;symm;refine⟨m,rfl,λm0 m8=>?_,k2⟩;have b0:=Pj m (show(4:Int)≠0 by decide);have b1:=Pa m (show(0:Int)<4 by decide);refine⟨by decide,m%4,rfl,by omega,by omega,?_⟩
 refine cK (λi σ H'=>∃(N:Addr) (kv:Option V),σ=[some (.ref a),some (.int m),some (.ref N),kv]/\Same H H'/\IsFl H' N (spJ h w 0 0 i).2.1 (spJ h w 0 0 i).2.2 g)
  ⟨a,none,rfl,OL H,ha⟩ ?_ ?_
 . rintro i σ H1 hi ⟨N,kv,rfl,s1,eN⟩;symm;refine⟨N,_,_,g,rfl,eN,λN2 hN2=>?_⟩;exact⟨N2,_,rfl,s1.laid hN2,ag⟩
 . rintro σ H1 ⟨N,kv,rfl,s1,eN⟩;rw[dimJ]at eN;symm;refine k1 m0 m8 N H1 s1 ?_;unfold mvH mvW;by_cases e:m%2=1
   . rw[O6 e,O6 e];rw[O6 (show(m%4).toNat%2=1 by omega)]at eN;exact eN
   . rw[O0 e,O0 e];rw[O0 (show ¬ (m%4).toNat%2=1 by omega)]at eN;exact eN
def bI(K:Frag):Sp:=λvs H Q E=>∃(a:Addr) (m h w g:Int),vs=[.ref a,.int m]/\IsFl H a h w g/\FlOk h w g/\(0<=m->m<8->∀ l H',Same H H'->H l=none->H' l=some (.lst ((mvL h w m).map V.int))->Q (.ref l) H')/\(¬ (0<=m/\m<8)->∀ C,Glb K "NoMove" C->E (.ref C) none H)
theorem vL(h:bI K vs H Q E):vs.length=2:=by
 obtain⟨_,_,_,_,_,rfl,_⟩:=h;rfl
def iQ(K:Frag)(E:XK):TS:=
 by exists ":gHL'kb=ya1clD&--01 Ta,~sba0cch#1 B,{rba2a3a1c"
theorem vM(h:bI K vs H Q E):iQ K E {nx:=λ_ H'=>Q .non H',rt:=Q} (start ["floor","move"] vs) H:=by
 obtain⟨a,m,h,w,g,rfl,ha,F,k1,k2⟩:=h;obtain⟨h0,h1,w0,w1,m16,g0,g1⟩:=id F;have mpos:0<=h*w:=Qt (by omega) (by omega);show iQ K E _ [some (.ref a),some (.int m)] H;unfold iQ;symm;refine⟨m,rfl,λm0 m8=>?_,k2⟩;refine⟨a,h,w,g,rfl,ha,h0,h1,?_⟩;refine⟨h*w,rfl,by omega,by omega,?_⟩;refine sO (λ_=>true) (λi=>mvC h w m (i:Int)) (by omega) ?_ ?_ ?_
 . intro i H1 R hi s1 k3;exact k3 _ (OL _)
 . intro i H1 Q1 hi hb s1 k3;show tCall _ _ _ _ [none,some (.int (0+(i:Int))),some (.ref a),some (.int m)] H1 Q1;rw[SG];symm;exact⟨a,h,w,g,m,(i:Int),rfl,s1 _ _ ha,F,m0,m8,k3⟩
 . intro l H1 hl s1 el;rw[aU]at el;exact k1 m0 m8 l H1 s1 hl el
def AR(h w m:Int):Bool:=(mvL h w m).isPerm (rngL 0 (h*w))&&(List.range (h*w).toNat).all λ(i:Nat)=>
 ((besL h w (i:Int)).all λo=>decide (0<=o)&&decide (o<h*w))&&((besL h w (i:Int)).map λo=>(mvL h w m).getD o.toNat 0).isPerm (besL (mvH h w m) (mvW h w m) ((mvL h w m).getD i 0))
theorem B9:((List.range 6).all λa=>(List.range 6).all λb=>!decide (((a:Int)+1)*((b:Int)+1)<=16)||(List.range 8).all λm=>AR ((a:Int)+1) ((b:Int)+1) (m:Int))=true:=by decide+kernel
theorem Dn{h w g m:Int}(F:FlOk h w g)(m0:0<=m)(m8:m<8):AR h w m=true:=by
 obtain⟨h0,h1,w0,w1,m16,g0,g1⟩:=F;have t:=Pb.mp (Pb.mp B9 (h-1).toNat (O5.mpr (by omega))) (w-1).toNat (O5.mpr (by omega));have e1:(((h-1).toNat:Nat):Int)+1=h:=by omega
 have e2:(((w-1).toNat:Nat):Int)+1=w:=by omega
 rw[e1,e2,O3 m16]at t;have t2:=Pb.mp t m.toNat (O5.mpr (by omega));rw[show((m.toNat:Nat):Int)=m by omega]at t2;exact t2
theorem Ca{rs fs gs:List Int}(p:rs.Perm fs)(s:rs.Pairwise (· <=·))(q:fs.Perm gs)(t:gs.Pairwise (· < ·)):rs=gs:=by
 have pq:=p.trans q;exact uo (BO pq s (t.imp λh=>Th h)) t λz=>pq.mem_iff
structure FunD(K:Frag)(x qual:Str)(st:Stmt)(f:Addr)(fd:FuncData)(ds:List Value):Prop where
 ex:∃(oc:Value) (od:Option Addr) (dT:Addr) (kV doc pm:Value) (an:Option Addr) (Oy ct:Value) (osl:Array (Option Value)),
  fd=fnOf x qual (be st) (aV st) (ai st) (.ref dT) kV doc pm an Oy ct/\K.lookup f=some ⟨oc,od,.func fd,osl⟩/\codeIn K Oy qual=true/\
  ∃(c:Value) (d:Option Addr) (n:Nat) (sl:Array (Option Value)),K.lookup dT=some ⟨c,d,.seq ds.toArray n,sl⟩
 kp:keepIn K (.ref f)=true
section
variable{P:Program}{w:World}{K:Frag}{mg:Str->Option Value}{base:Heap}
theorem FunD.ok1 {x qual:Str} {st:Stmt} {f:Addr} {fd:FuncData} {ds:List Value} {N ps:List Str} {k:Nat} {sp:Sp} (F:FunD K x qual st f fd ds) (S:am N ps (ai st)) (len:∀ vs H Q E,sp vs H Q E->vs.length=ps.length)
  (hbody:∀(Oy:Value) (A:Around) (outer:List Env) (s:Shared) (H:Hp) (vs:List V) (Q:VK) (E:XK),Room k (A.deeper (envOfC qual (ai st) s.heap.objs.size f Oy))->sp vs H Q E->
   ∃ t,PSs (cx1 P w K mg base N qual (ai st) f Oy A outer s H E) (aV st) t/\t {nx:=λ_ H'=>Q .non H',rt:=Q} (start N vs) H):FnOk P w K mg base (CX1 P w) (k+1) f fd ps sp:=by
 obtain⟨oc,od,dT,kV,doc,pm,an,Oy,ct,osl,rfl,lk,hcd,_⟩:=F.ex;exact AC lk hcd S len λA outer s H vs Q E hr hsp=>hbody Oy A outer s H vs Q E hr hsp
theorem FunD.binds {x qual:Str} {st:Stmt} {f:Addr} {fd:FuncData} {ds:List Value} {ps:List Str} (F:FunD K x qual st f fd ds)
  (h:∀(dT:Addr) (kV doc pm:Value) (an:Option Addr) (Oy ct:Value) (us:List Value),us.length=ps.length->∃ k,bindArgs (fnOf x qual (be st) (aV st) (ai st) (.ref dT) kV doc pm an Oy ct) ⟨us,[]⟩=seqItems? (.ref dT) >>= k/\k (some ds.toArray)=pure (ps.zip us)):Binds K fd ps []:=by
 obtain⟨oc,od,dT,kV,doc,pm,an,Oy,ct,osl,rfl,lk,hcd,c,d,n,sl,ld⟩:=F.ex;intro s us X hl;rw[Rr]at hl ⊢;obtain⟨k,h1,h2⟩:=h dT kV doc pm an Oy ct us hl;exact BindsTo.of_defaults (T:=dT) rfl (X _ _ ld) rfl h1 h2
theorem FunD.bindsD {x qual:Str} {st:Stmt} {f:Addr} {fd:FuncData} {ds:List Value} {ps:List Str} (m:Nat) (hm:m+ds.length=ps.length) (F:FunD K x qual st f fd ds)
  (h:∀(dT:Addr) (kV doc pm:Value) (an:Option Addr) (Oy ct:Value) (us:List Value),us.length=m->∃ k,bindArgs (fnOf x qual (be st) (aV st) (ai st) (.ref dT) kV doc pm an Oy ct) ⟨us,[]⟩=seqItems? (.ref dT) >>= k/\k (some ds.toArray)=pure (ps.zip (us++ds))):Binds K fd ps ds:=by
 obtain⟨oc,od,dT,kV,doc,pm,an,Oy,ct,osl,rfl,lk,hcd,c,d,n,sl,ld⟩:=F.ex;intro s us X hl;rw[OU]at hl;obtain⟨k,h1,h2⟩:=h dT kV doc pm an Oy ct us (by omega);exact BindsTo.of_defaults (T:=dT) rfl (X _ _ ld) rfl h1 h2
theorem Ag {x qual:Str} {st:Stmt} {f dT:Addr} {oc:Value} {od an:Option Addr} {osl:Array (Option Value)} {kV doc pm Oy ct:Value} {c:Value} {d:Option Addr} {n:Nat} {sl:Array (Option Value)} {ds:List Value} (l:K.lookup f=some ⟨oc,od,.func (fnOf x qual (be st) (aV st) (ai st) (.ref dT) kV doc pm an Oy ct),osl⟩)
  (cc:codeIn K Oy qual=true) (k:keepIn K (.ref f)=true) (ld:K.lookup dT=some ⟨c,d,.seq ds.toArray n,sl⟩):FunD K x qual st f (fnOf x qual (be st) (aV st) (ai st) (.ref dT) kV doc pm an Oy ct) ds:=⟨⟨oc,od,dT,kV,doc,pm,an,Oy,ct,osl,rfl,l,cc,c,d,n,sl,ld⟩,k⟩
end
structure DW(P:Program)(w:World)(K:Frag)(mg:Str->Option Value)(base:Heap)(k:Nat)(x:Str)(ps:List Str)(sp:Sp)(ds:List Value):Prop where
 ex:∃(f:Addr) (fd:FuncData),FnOk P w K mg base (CX1 P w) k f fd ps sp/\mg x=some (.ref f)/\keepIn K (.ref f)=true/\Binds K fd ps ds
def plnL(g:Int):List Int:=rngL 1 (g+1)
def exOk(g:Int)(ss:List Int):Bool:=ss.isPerm (plnL g)
def exI(ss:List Int)(x:Int):Int:=if x=0 then 0 else ss.getD (x-1).toNat 0
theorem oQ(a n:Int):(rngL a n).Pairwise (· < ·):=by
 unfold rngL;rw[Qw];refine List.pairwise_lt_range.imp ?_;intro a b h;omega
variable{g:Int}
theorem pln_mem{x:Int}:x∈plnL g↔1<=x/\x<=g:=by
 unfold plnL rngL;rw[OP];constructor
 . rintro⟨k,hk,rfl⟩;have:=O5.mp hk;omega
 . intro h;exact⟨(x-1).toNat,O5.mpr (by omega),by omega⟩
theorem dy(g0:0<=g):((plnL g).length:Int)=g:=by
 unfold plnL rngL;rw[OF,PY];omega
theorem wP(g:Int):(plnL g).Nodup:=(oQ 1 (g+1)).imp λh=>Th h
variable{ss:List Int}
theorem GB{ns:List Int}(hp:ns.Perm ss)(hs:ns.Pairwise (· <=·)):decide (ns=plnL g)=exOk g ss:=by
 rw[Pw,Pp];unfold exOk;rw[P8];exact⟨λe=>by rw[← e];exact hp.symm,λq=>Ca hp hs q (oQ _ _)⟩
def puJ(st cs vs:List Int):Nat->List Int
 | 0=>st
 | i+1=>(puJ st cs vs i).set (cs.getD i 0).toNat (vs.getD i 0)
theorem mM{st cs vs:List Int}:∀ i,(puJ st cs vs i).length=st.length
 | 0=>rfl
 | i+1=>by
  show((puJ st cs vs i).set _ _).length=_;rw[SQ,mM i]
variable{cs:List Int}
theorem EF(nd:cs.Nodup){i j:Nat}(hi:i<cs.length)(hj:j<i):cs.getD j 0≠cs.getD i 0:=by
 have:=R8.mp nd j i (by omega) hi hj;rw[List.getD,List.getD,OG (by omega),OG hi];exact this
theorem pL{P:Int->Prop}(h:∀ c∈cs,P c){i:Nat}(hi:i<cs.length):P (cs.getD i 0):=by
 rw[List.getD,OG hi];exact h _ (Pt hi)
theorem vN{st cs vs:List Int}(nd:cs.Nodup)(hc:∀ c∈cs,0<=c/\c < (st.length:Int)):∀ i,i<=cs.length->∀ j,j<i->(puJ st cs vs i).getD (cs.getD j 0).toNat 0=vs.getD j 0
 | 0,_,j,hj=>by omega
 | i+1,hi,j,hj=>by
  have ci:=pL hc (show i<cs.length by omega);have cj:=pL hc (show j<cs.length by omega);show((puJ st cs vs i).set (cs.getD i 0).toNat (vs.getD i 0)).getD (cs.getD j 0).toNat 0=_;rw[List.getD,List.getElem?_set];by_cases e:j=i
  . subst e;rw[O6 rfl,O6 (by rw[mM];omega)];rfl
  . have ne:=EF nd (show i<cs.length by omega) (show j<i by omega);rw[O0 (by omega),← List.getD];exact vN nd hc i (by omega) j (by omega)
variable{xs:List Int}
theorem Do{ys:List Int}(hl:xs.length=ys.length)(h:∀ k,k<xs.length->xs.getD k 0=ys.getD k 0):xs=ys:=by
 refine PJ hl λk h1 h2=>?_;have:=h k h1;rw[List.getD,List.getD,OG h1,OG h2]at this;exact this
structure Mv(n:Nat)(cs:List Int):Prop where
 len:cs.length=n
 nd:cs.Nodup
 lt:∀ c∈cs,0<=c/\c < (n:Int)
 all:∀ k,k<n->∃ j,j<n/\(cs.getD j 0).toNat=k
theorem rng0_mem{n x:Int}:x∈rngL 0 n↔0<=x/\x<n:=by
 unfold rngL;rw[OP];constructor
 . rintro⟨k,hk,rfl⟩;have:=O5.mp hk;omega
 . intro h;exact⟨x.toNat,O5.mpr (by omega),by omega⟩
variable{h w m:Int}
theorem mv_ok(F:FlOk h w g)(m0:0<=m)(m8:m<8):Mv (h*w).toNat (mvL h w m):=by
 obtain⟨h0,h1,w0,w1,m16,g0,g1⟩:=id F;have mpos:0<=h*w:=Qt (by omega) (by omega);have chk:=Dn F m0 m8;unfold AR at chk;rw[QB]at chk;have p:=P8.mp chk.1;have ln:(mvL h w m).length=(h*w).toNat:=by unfold mvL;rw[OF,PY]
 refine⟨ln,p.nodup_iff.mpr ((oQ 0 (h*w)).imp λh=>Th h),λc hc=>?_,λk hk=>?_⟩
 . have:=rng0_mem.mp (p.mem_iff.mp hc);omega
 . have hm:(k:Int)∈mvL h w m:=p.mem_iff.mpr (rng0_mem.mpr (by omega));obtain⟨j,hj,e⟩:=Qs.mp hm;refine⟨j,by omega,?_⟩;rw[List.getD,OG hj];show((mvL h w m)[j]).toNat=k;rw[e];omega
theorem Mv.eq{n:Nat}{vs st:List Int}(M:Mv n cs)(hs:st.length=n)(hx:xs.length=n)(h:∀ j,j<n->xs.getD (cs.getD j 0).toNat 0=vs.getD j 0):puJ st cs vs n=xs:=by
 refine Do (by rw[mM,hs,hx]) λk hk=>?_;rw[mM,hs]at hk;obtain⟨j,hj,e⟩:=M.all k hk;have g1:=vN (vs:=vs) (st:=st) M.nd (λc hc=>by rw[hs];exact M.lt c hc) n (by rw[M.len];exact OQ _) j hj;rw[e]at g1;rw[g1,← h j hj,e]
def mvF(h w m:Int)(ss fl:List Int):List Int:=puJ fl (mvL h w m) (fl.map (exI ss)) (h*w).toNat
variable{fl:List Int}
theorem pM(F:FlOk h w g)(m0:0<=m)(m8:m<8)(hf:fl.length=(h*w).toNat){j:Nat}(hj:j < (h*w).toNat):(mvF h w m ss fl).getD ((mvL h w m).getD j 0).toNat 0=exI ss (fl.getD j 0):=by
 have M:=mv_ok F m0 m8;have:=vN (vs:=fl.map (exI ss)) (st:=fl) M.nd (λc hc=>by rw[hf];exact M.lt c hc) _ (by rw[M.len];exact OQ _) j hj;unfold mvF;rw[this,List.getD,OH,OG (by omega),List.getD,OG (by omega)];rfl
theorem dA:(mvF h w m ss fl).length=fl.length:=mM _
theorem EG{st:List Int}(F:FlOk h w g)(m0:0<=m)(m8:m<8)(hf:fl.length=(h*w).toNat)(hs:st.length=(h*w).toNat):puJ st (mvL h w m) (fl.map (exI ss)) (h*w).toNat=mvF h w m ss fl:=by
 refine(mv_ok F m0 m8).eq hs (by rw[dA,hf]) λj hj=>?_;rw[pM F m0 m8 hf hj,List.getD,List.getD,OH,OG (by omega)];rfl
def aP(K:Frag):Sp:=λvs H Q _=>∃(p:Addr) (h w g:Int),vs=[.ref p]/\IsFl H p h w g/\0<=g/\g<=6/\∀ l,H l=none->Q (.ref l) (upd H l (.lst ((plnL g).map V.int)))
def ii(K:Frag):TS:=
 by exists ":l~Badf#1 aeren0df#2 df#1 c"
variable{vs:List V}{K:Frag}{H:Hp}{Q:VK}{E:XK}
theorem qU(h:aP K vs H Q E):ii K {nx:=λ_ H'=>Q .non H',rt:=Q} (start ["floor"] vs) H:=by
 obtain⟨p,h,w,g,rfl,hp,g0,g1,q⟩:=h;show ii K _ [some (.ref p)] H;unfold ii;symm;refine ixT hp (v:=V.int g) rfl ?_;symm;exact⟨1,g+1,rfl,⟨by decide,by decide,by omega,by omega⟩,q⟩
theorem Dp {k:Nat} {a:Addr} {te:TE} {fin:Addr->Hp->Prop} {σ0:St} {H1:Hp} (f:Int->Bool) (hn:xs.length<=900) (hq:SqL K H1 a (xs.map V.int))
  (he:∀ x H Q,x∈xs->Same H1 H->(∀ H',Same H H'->Q (.bl (f x)) H')->te (σ0.set k (some (.int x))) H Q)
  (hd:∀ l H,H1 l=none->Same H1 H->H l=some (.lst ((xs.map f).map V.bl))->fin l H):
  CompR (Itl K a) (gName k) tTrue te fin σ0 H1:=by
 refine bn (xs:=xs.map V.int) (λ_=>true) (λi=>.bl (f (xs.getD i 0))) (by rw[OF];exact hn) hq ?_ ?_ ?_
 . intro i x H R hx s1 k1;exact k1 _ (OL _)
 . intro i x H Q hx hb s1 h;obtain⟨z,hz,rfl⟩:=cp hx;have h2:=h;simp only[jU hz]at h2;exact he z H Q (ON hz) s1 h2
 . intro l H hl s1 el;refine hd l H hl s1 ?_;rw[el,aU,OF,O4]
   congr 2
   exact qy xs λx=>V.bl (f x)
def cg(K:Frag):Sp:=λvs H Q _=>∃(p S:Addr) (h w g:Int) (ss:List Int),vs=[.ref p,.ref S]/\IsFl H p h w g/\0<=g/\g<=6/\H S=some (.lst (ss.map V.int))/\ss.length<64/\∀ H',Same H H'->Q (.bl (exOk g ss)) H'
def iX(K:Frag):TS:=
 by exists ":lesbq~Pa1c,~Cba0c"
def k9(K:Frag):TS:=
 by exists ":goWMCq~ga1ad~hIcMCq~KaD&-- zb1h#1 B,~yba1ccldVGp{sb"
theorem sw{p S:Addr}(hp:IsFl H p h w g)(g0:0<=g)(g1:g<=6)(hS:H S=some (.lst (ss.map V.int)))(hn:ss.length<64)(q:∀ H',Same H H'->Q (.bl (exOk g ss)) H'):
  iX K {nx:=λ_ H'=>Q .non H',rt:=Q} [some (.ref p),some (.ref S)] H:=by
 unfold iX;symm;refine tq hS hn λns' l hl hpm hs=>?_;obtain⟨H1,z9,s1,el⟩:=aX (.lst (ns'.map V.int)) hl;rw[z9];symm;refine⟨p,h,w,g,rfl,s1 _ _ hp,g0,g1,λL hL=>?_⟩;have s2:Same H1 (upd H1 L (.lst ((plnL g).map V.int))):=(OL H1).laid hL;refine DP (s2 _ _ el) ag ?_;rw[GB hpm hs];exact q _ (s1.trans s2)
theorem vO(h:cg K vs H Q E):k9 K {nx:=λ_ H'=>Q .non H',rt:=Q} (start ["floor","signs"] vs) H:=by
 obtain⟨p,S,h,w,g,ss,rfl,hp,g0,g1,hS,hn,q⟩:=h;show k9 K _ [some (.ref p),some (.ref S)] H;unfold k9;rw[az,aN];symm;refine BQ hS ?_;symm;refine⟨⟨_,Pc hS⟩,?_⟩;refine Dp (xs:=ss) (λ_=>true) (by omega) (Pc hS) ?_ ?_
 . intro x H1 Q1 hx s1 k1;show tCall _ _ _ _ [none,some (.int x)] H1 Q1;symm;exact⟨x,rfl,k1 _ (OL _)⟩
 . intro l H1 hl s1 el;symm;refine AG el ?_;have ea:((ss.map λ_=>true).all id)=true:=by simp
   rw[ea];refine⟨true,rfl,?_⟩;symm;exact sw (s1 _ _ hp) g0 g1 (s1 _ _ hS) hn λH' s2=>q H' (s1.trans s2)
def ExV(H:Hp)(v:V)(g:Int)(ss:List Int):Prop:=(v=.non/\ss=plnL g)\/∃ S,v=.ref S/\H S=some (.lst (ss.map V.int))/\ss.length<64
theorem ExV.same{H':Hp}{v:V}(x:ExV H v g ss)(s:Same H H'):ExV H' v g ss:=by
 rcases x with x | ⟨S,e,hS,hl⟩
 . exact .inl x
 . exact .inr ⟨S,e,s _ _ hS,hl⟩
def bJ(K:Frag):Sp:=λvs H Q E=>∃(p:Addr) (h w g:Int) (v:V) (ss:List Int),vs=[.ref p,v]/\IsFl H p h w g/\0<=g/\g<=6/\ExV H v g ss/\
 (exOk g ss=true->∀ S H',Same H H'->H' S=some (.lst (ss.map V.int))->Q (.ref S) H')/\(¬ exOk g ss=true->∀ H',Same H H'->∀ C,Glb K "NoMove" C->E (.ref C) none H')
theorem vP(h:bJ K vs H Q E):vs.length=2:=by
 obtain⟨_,_,_,_,_,_,rfl,_⟩:=h;rfl
def iR(K:Frag)(a:EA)(E:XK):TS:=
 by exists ":gome~]1d]l,~Cba0cpgoMC,'lba0a1c~zy~Aadtu`0cpl1",[115,105,103,110,115,32,97,114,101,32,101,120,99,104,97,110,103,101,100,32,98,121,32,97,32,108,105,115,116,32,119,105,116,104,32,101,97,99,104,32,115,105,103,110,32,111,102,32,116,104,101,32,102,108,111,111,114,32,111,110,99,101]
theorem vQ{a:EA}{os:List Addr}(R:gY K a "NoMove" a.NoMove os)(h:bJ K vs H Q E):iR K a E {nx:=λ_ H'=>Q .non H',rt:=Q} (start ["floor","signs"] vs) H:=by
 obtain⟨p,h,w,g,v,ss,rfl,hp,g0,g1,x,k1,k2⟩:=h;show iR K a E _ [some (.ref p),some v] H;unfold iR;rw[az,aN];symm
 try rw[kc]
 symm;rcases x with ⟨rfl,rfl⟩ | ⟨S,rfl,hS,hl⟩
 . rw[O3 rfl];symm;refine⟨p,h,w,g,rfl,hp,g0,g1,λl hl=>?_⟩;exact k1 (P8.mpr (QQ _)) l _ ((OL H).laid hl) ag
 . rw[OW (λe=>by cases e)];symm;rw[aN];symm;refine⟨p,S,h,w,g,ss,rfl,hp,g0,g1,hS,hl,λH1 s1=>?_⟩;by_cases e:exOk g ss=true
   . rw[e];refine⟨true,rfl,?_⟩;symm;exact k1 e S H1 s1 (s1 _ _ hS)
   . rw[Sf.mpr e];refine⟨false,rfl,?_⟩;symm;rw[pD];symm;exact⟨bd (by decide),k2 e H1 s1 _ R.g⟩
def dc(K:Frag):Sp:=λvs H Q _=>∃(S:Addr) (ss:List Int) (x:Int),vs=[.int x,.ref S]/\H S=some (.lst (ss.map V.int))/\0<=x/\x<=(ss.length:Int)/\Q (.int (exI ss x)) H
def nv(K:Frag):TS:=
 by exists ":l'mmesb0df#0 df#0 en1e~e0df#1 "
theorem yF(h:dc K vs H Q E):nv K {nx:=λ_ H'=>Q .non H',rt:=Q} (start ["sign","signs"] vs) H:=by
 obtain⟨S,ss,x,rfl,hS,x0,x1,q⟩:=h;show nv K _ [some (.int x),some (.ref S)] H;unfold nv;symm;unfold exI at q;by_cases e:x=0
 . rw[O6 e]at q;rw[O3 e];exact iteT q
 . rw[O0 e]at q;rw[OW e];refine iteF ?_;symm;exact ixI hS (by omega) (by omega) q
def bC(K:Frag):Sp:=λvs H Q E=>∃(p f:Addr) (h w g m:Int) (v:V) (ss fl:List Int),vs=[.ref p,.ref f,.int m,v]/\IsFl H p h w g/\FlOk h w g/\H f=some (.lst (fl.map V.int))/\fl.length=(h*w).toNat/\(∀ x∈fl,0<=x/\x<=g)/\ExV H v g ss/\
 (0<=m->m<8->exOk g ss=true->∀ l H',Same H H'->H l=none->H' l=some (.lst ((mvF h w m ss fl).map V.int))->Q (.ref l) H')/\(¬ ((0<=m/\m<8)/\exOk g ss=true)->∀ H',Same H H'->∀ C,Glb K "NoMove" C->E (.ref C) none H')
theorem tM(h:bC K vs H Q E):vs.length=4:=by
 obtain⟨_,_,_,_,_,_,_,_,_,rfl,_⟩:=h;rfl
def fZ(K:Frag)(E:XK):TS:=
 by exists ":gkL'nb=ya0a2ch#4 gkL'ob=ya0a3ch#5 gke'pvadf#0 c,~sba0ch#6 gJ{tba4a1c~mb#2 Ph#7 Ph#8 ~nk,'qba8a5c'r67'sl6"
theorem Dq(n:Nat):(List.replicate n [V.int 0]).flatten=(List.replicate n (0:Int)).map V.int:=by
 induction n with
 | zero=>rfl
 | succ n ih=>rw[Qj,Ra,ih,Qj];rfl
theorem tN(h:bC K vs H Q E):fZ K E {nx:=λ_ H'=>Q .non H',rt:=Q} (start ["floor","filling","move","signs","cells","exchange","found","cell","sign"] vs) H:=by
 obtain⟨p,f,h,w,g,m,v,ss,fl,rfl,hp,F,hf,hl,hx,ex,k1,k2⟩:=h;obtain⟨h0,h1,w0,w1,m16,g0,g1⟩:=id F;have mpos:0<=h*w:=Qt (by omega) (by omega);show fZ K E _ [some (.ref p),some (.ref f),some (.int m),some v,none,none,none,none,none] H;unfold fZ;symm;refine⟨p,m,h,w,g,rfl,hp,F,λm0 m8 C H1 s1 hC eC=>?_,λz D hD=>k2 (λt=>z t.1) H (OL H) D hD⟩;symm;refine⟨p,h,w,g,v,ss,rfl,s1 _ _ hp,by omega,g1,ex.same s1,λok S H2 s2 eS=>?_,λnok H' s' D hD=>k2 (λt=>nok t.2) H' (s1.trans s') D hD⟩;have s12:=s1.trans s2
 have sl:(ss.length:Int)=g:=by
  have:=(P8.mp ok).length_eq;have:=dy (show 0<=g by omega);omega
 symm;refine⟨lnR rfl,λU hU=>?_⟩;obtain⟨H3,z9,s3,eU⟩:=aX (.lst [V.int 0]) hU;rw[z9];have s13:=s12.trans s3;refine⟨p,h,w,g,rfl,s13 _ _ hp,h0,h1,?_⟩;refine BJ eU mpos (by omega) (by show(1:Nat)<=1;decide) λR hR=>?_;rw[Dq];obtain⟨H4,z9,s4,eR⟩:=aX (.lst ((List.replicate (h*w).toNat (0:Int)).map V.int)) hR;rw[z9];have M:=mv_ok F m0 m8;have eC3:=s3 _ _ (s2 _ _ eC);have ef3:=s13 _ _ hf;have eS3:=s3 _ _ eS;symm;rw[FE];symm;refine⟨C,f,rfl,⟨_,Pc (s4 _ _ eC3)⟩,⟨_,Pc (s4 _ _ ef3)⟩,?_⟩
 refine Ep (xs:=(mvL h w m).map V.int) (ys:=fl.map V.int) (λi σ H'=>∃(v7 v8:Option V),σ=[some (.ref p),some (.ref f),some (.int m),some v,some (.ref C),some (.ref S),some (.ref R),v7,v8]/\Same H3 H'/\H' R=some (.lst ((puJ (List.replicate (h*w).toNat 0) (mvL h w m) (fl.map (exI ss)) i).map V.int)))
  (by rw[OF,OF,M.len,hl]) ⟨none,none,rfl,s4,eR⟩ (λi σ H' _ ⟨_,_,_,s5,_⟩=>⟨Pc (s5 _ _ eC3),Pc (s5 _ _ ef3)⟩) ?_ ?_
 . rintro i x y T σ H5 hx1 hy1 ⟨v7,v8,rfl,s5,e5⟩ hT;obtain⟨c,hc,rfl⟩:=cp hx1;obtain⟨z,hz,rfl⟩:=cp hy1;have ci:=M.lt c (ON hc);have zi:=hx z (ON hz);have s6:Same H5 (upd H5 T (.tup [V.int c,V.int z])):=(OL H5).laid hT;refine ur ag rfl ?_;rw[yg];generalize upd H5 T (.tup [V.int c,V.int z])=H6 at*;symm;refine⟨S,ss,z,rfl,(s5.trans s6) _ _ eS3,zi.1,by omega,?_⟩;symm;refine DR (s6 _ _ e5) ci.1 (by rw[OF,mM,PN];omega) ?_;refine⟨_,_,rfl,(s5.trans s6).own hR,?_⟩;rw[ag];show _=some (HO.lst (((puJ (List.replicate (h*w).toNat 0) (mvL h w m) (fl.map (exI ss)) i).set ((mvL h w m).getD i 0).toNat ((fl.map (exI ss)).getD i 0)).map V.int));rw[List.map_set,jU hc];have e7:(fl.map (exI ss)).getD i 0=exI ss z:=by rw[List.getD,OH,hz];rfl
   rw[e7]
 . rintro σ H5 ⟨v7,v8,rfl,s5,e5⟩;rw[OF,M.len,EG F m0 m8 hl (by rw[PN])]at e5;symm;exact k1 m0 m8 ok R H5 (s13.trans s5) (s13.free hR) e5
def de(K:Frag):Sp:=λvs H Q _=>∃(num many:Int),vs=[.int num,.int many]/\0<=many/\many<=6/\
 ∀(l:Addr) (H':Hp) (ss:List Int),Same H H'->H l=none->H' l=some (.lst (ss.map V.int))->ss.Perm (plnL many)->Q (.ref l) H'
def jH(K:Frag):TS:=
 by exists ":gk~Badf#1 aer1df#1 ch#2 gkvch#3 gJTa1ch#4 HFbI~i3aFbI'h2aexeU0ereQdf#3 4df#1 qKa2cccl3"
theorem qV:∀(ls:List Int) (j:Nat) (h:j<ls.length),(ls[j]::ls.eraseIdx j).Perm ls
 | a::r,0,_=>QQ _
 | a::r,j+1,h=>by
  have hj:j<r.length:=by simpa using h
  have ih:=qV r j hj;exact(List.Perm.swap a r[j] (r.eraseIdx j)).trans (ih.cons a)
theorem zF(ls:List Int)(j:Nat):(ls.map V.int).eraseIdx j=(ls.eraseIdx j).map V.int:=by
 induction ls generalizing j with
 | nil=>rfl
 | cons a r ih=>cases j with
  | zero=>rfl
  | succ j=>show V.int a::(r.map V.int).eraseIdx j=_;rw[ih];rfl
theorem tO(h:de K vs H Q E):jH K {nx:=λ_ H'=>Q .non H',rt:=Q} (start ["_law_cell","_law_many","_law_left","_law_found","_law_k"] vs) H:=by
 obtain⟨num,many,rfl,c0,m1,q⟩:=h;have pl:=dy c0;show jH K _ [some (.int num),some (.int many),none,none,none] H;unfold jH;symm;refine⟨1,many+1,rfl,⟨by decide,by decide,by omega,by omega⟩,λL hL=>?_⟩;have s1:Same H (upd H L (.lst ((plnL many).map V.int))):=(OL H).laid hL;have eL:(upd H L (.lst ((plnL many).map V.int))) L=some (.lst ((plnL many).map V.int)):=ag;generalize hHq:upd H L (.lst ((plnL many).map V.int))=H1 at*;have hHq':upd H L (.lst ((rngL 1 (many+1)).map V.int))=H1:=hHq;rw[hHq'];symm;refine⟨bd (by decide),λR hR=>?_⟩;have nRL:R≠L:=λe=>by rw[e,eL]at hR;cases hR
 refine⟨many,rfl,by omega,by omega,?_⟩
 refine cK (λi σ H'=>∃(kv:Option V) (fs ls:List Int),σ=[some (.int num),some (.int many),some (.ref L),some (.ref R),kv]/\Same H H'/\H' L=some (.lst (ls.map V.int))/\H' R=some (.lst (fs.map V.int))/\(fs++ls).Perm (plnL many)/\fs.length=i)
  ⟨none,[],plnL many,rfl,s1.laid hR,by rw[ah nRL.symm];exact eL,by rw[ag];rfl,QQ _,rfl⟩ ?_ ?_
 . rintro i σ H2 hi ⟨kv,fs,ls,rfl,s2,e1,e2,hp,hl⟩;have OC:=hp.length_eq;rw[OU]at OC;symm;refine⟨bA e2,bA e1,.inl ⟨by decide,by decide⟩,⟨by omega,by omega⟩,?_⟩;rw[gM e1,OF];have hpos:0 < (ls.length:Int):=by omega
   generalize num / (3*(0+(i:Int))+1)=y at*;have j0:=Pj y (Tf hpos);have j1:=Pa y hpos;refine⟨hpos,?_⟩;generalize y % (ls.length:Int)=j at*;have hj:j.toNat<ls.length:=by omega
   refine Ad e1 j0 (by rw[OF];omega) (y:=V.int ls[j.toNat]) (by rw[OH,OG hj];rfl) ?_;have e2':(upd H2 L (.lst ((ls.map V.int).eraseIdx j.toNat))) R=some (.lst (fs.map V.int)):=by rw[ah nRL];exact e2
   symm;rw[kT e2'];refine⟨by rw[OF];exact aE (by omega),_,fs++[ls[j.toNat]],ls.eraseIdx j.toNat,rfl,(s2.own hL).own (s1.free hR),?_,?_,?_,by simp[hl]⟩
   . rw[ah nRL.symm,ag,zF]
   . rw[ag];simp
   . have p1:=qV ls j.toNat hj;have p2:=SV fs p1;refine List.Perm.trans ?_ hp;rw[Rb];exact p2
 . rintro σ H2 ⟨kv,fs,ls,rfl,s2,e1,e2,hp,hl⟩;have OC:=hp.length_eq;rw[OU]at OC;have hz:ls=[]:=Ss.mp (by omega);rw[hz,Rr]at hp;symm;exact q R H2 fs s2 (s1.free hR) e2 hp
theorem tP(xs:List V)(k:Nat):cutV xs (some (k:Int)) none=xs.drop k:=by
 have h1:HT.sIx xs.length 0 (some (k:Int))=min k xs.length:=by rw[HT.sIx_nat]
 have h2:HT.sIx xs.length xs.length none=xs.length:=rfl;unfold cutV;rw[h1,h2];by_cases hk:k<=xs.length
 . rw[SR hk,PR (by simp)]
 . rw[Sr (by omega),List.drop_length,List.drop_eq_nil_of_le (by omega)];simp
theorem yG(xs:List V)(k:Nat):cutV xs none (some (k:Int))=xs.take k:=by
 have h1:HT.sIx xs.length 0 none=0:=rfl;have h2:HT.sIx xs.length xs.length (some (k:Int))=min k xs.length:=by rw[HT.sIx_nat]
 unfold cutV;rw[h1,h2,List.drop_zero];by_cases hk:k<=xs.length
 . rw[SR hk];rfl
 . rw[Sr (by omega),PR (by simp),PR (by omega)]
theorem uJ(F:FlOk h w g):FlOk (mvH h w m) (mvW h w m) g/\mvH h w m*mvW h w m=h*w:=by
 obtain⟨h0,h1,w0,w1,m16,g0,g1⟩:=F;unfold mvH mvW
 split
 . exact⟨⟨w0,w1,h0,h1,by rw[SH];exact m16,g0,g1⟩,SH _ _⟩
 . exact⟨⟨h0,h1,w0,w1,m16,g0,g1⟩,rfl⟩
structure Exch(g:Int)(ss:List Int):Prop where
 p:ss.Perm (plnL g)
 g0:0<=g
theorem Exch.nd(x:Exch g ss):ss.Nodup:=x.p.nodup_iff.mpr (wP g)
theorem Exch.len(x:Exch g ss):(ss.length:Int)=g:=by
 have:=x.p.length_eq;have:=dy x.g0;omega
theorem Exch.mem{s:Int}(x:Exch g ss):s∈ss↔1<=s/\s<=g:=x.p.mem_iff.trans pln_mem
theorem Exch.at_{s:Int}(x:Exch g ss)(s0:1<=s)(s1:s<=g):1<=exI ss s/\exI ss s<=g:=by
 have sl:=x.len;have hk:(s-1).toNat<ss.length:=by omega
 unfold exI;rw[O0 (by omega),List.getD,OG hk];exact x.mem.mp (Pt hk)
theorem Exch.in0{s:Int}(x:Exch g ss)(s0:0<=s)(s1:s<=g):0<=exI ss s/\exI ss s<=g:=by
 by_cases e:s=0
 . rw[e];have:exI ss 0=0:=O6 rfl;rw[this];have:=x.g0;omega
 . have:=x.at_ (s:=s) (by omega) s1;omega
theorem Cb(F:FlOk h w g)(m0:0<=m)(m8:m<8)(e:Exch g ss)(hf:fl.length=(h*w).toNat)(hx:∀ x∈fl,0<=x/\x<=g):∀ x∈mvF h w m ss fl,0<=x/\x<=g:=λx hm=>by
 have M:=mv_ok F m0 m8;obtain⟨k,hk,rfl⟩:=Qs.mp hm;rw[dA,hf]at hk;obtain⟨j,hj,ej⟩:=M.all k hk;have t:=pM (ss:=ss) F m0 m8 hf hj;rw[ej,List.getD,OG (by rw[dA,hf];exact hk)]at t;have t2:(mvF h w m ss fl)[k]'(by rw[dA,hf];exact hk)=exI ss (fl.getD j 0):=t;rw[t2];have:=pL hx (show j<fl.length by omega);exact e.in0 this.1 this.2
section
variable{P:Program}{w:World}{K:Frag}{mg:Str->Option Value}{base:Heap}{k:Nat}{x qual y:Str}{st:Stmt}{f:Addr}{fd:FuncData}{sp:Sp}
theorem gb{a0:Str}(F:Fun K x qual st f fd)(h:∀(kV doc pm:Value) (an:Option Addr) (Oy ct u0:Value),bindArgs (fnOf x qual (be st) (aV st) (ai st) .none kV doc pm an Oy ct) ⟨[u0],[]⟩=pure (([a0]:List Str).zip [u0]):=by intros;rfl):Binds K fd [a0] []:=F.binds λ_ _ _ _ _ _ us hl=>match us,hl with | [u0],_=>h _ _ _ _ _ _ _
theorem iY{a0:Str}(T:FnOk P w K mg base CX0 k f fd [a0] sp)(F:Fun K x qual st f fd)(hm:mg y=some (.ref f))(h:∀(kV doc pm:Value) (an:Option Addr) (Oy ct u0:Value),bindArgs (fnOf x qual (be st) (aV st) (ai st) .none kV doc pm an Oy ct) ⟨[u0],[]⟩=pure (([a0]:List Str).zip [u0]):=by intros;rfl):Cal P w K mg base k y [a0] sp:=⟨f,fd,T,hm,F.kp,gb F h⟩
theorem DX{a0 a1:Str}(F:Fun K x qual st f fd)(h:∀(kV doc pm:Value) (an:Option Addr) (Oy ct u0 u1:Value),bindArgs (fnOf x qual (be st) (aV st) (ai st) .none kV doc pm an Oy ct) ⟨[u0,u1],[]⟩=pure (([a0,a1]:List Str).zip [u0,u1]):=by intros;rfl):Binds K fd [a0,a1] []:=F.binds λ_ _ _ _ _ _ us hl=>match us,hl with | [u0,u1],_=>h _ _ _ _ _ _ _ _
theorem ij{a0 a1:Str}(T:FnOk P w K mg base CX0 k f fd [a0,a1] sp)(F:Fun K x qual st f fd)(hm:mg y=some (.ref f))(h:∀(kV doc pm:Value) (an:Option Addr) (Oy ct u0 u1:Value),bindArgs (fnOf x qual (be st) (aV st) (ai st) .none kV doc pm an Oy ct) ⟨[u0,u1],[]⟩=pure (([a0,a1]:List Str).zip [u0,u1]):=by intros;rfl):Cal P w K mg base k y [a0,a1] sp:=⟨f,fd,T,hm,F.kp,DX F h⟩
theorem GC{a0 a1 a2:Str}(F:Fun K x qual st f fd)(h:∀(kV doc pm:Value) (an:Option Addr) (Oy ct u0 u1 u2:Value),bindArgs (fnOf x qual (be st) (aV st) (ai st) .none kV doc pm an Oy ct) ⟨[u0,u1,u2],[]⟩=pure (([a0,a1,a2]:List Str).zip [u0,u1,u2]):=by intros;rfl):Binds K fd [a0,a1,a2] []:=F.binds λ_ _ _ _ _ _ us hl=>match us,hl with | [u0,u1,u2],_=>h _ _ _ _ _ _ _ _ _
theorem nD{a0 a1 a2:Str}(T:FnOk P w K mg base CX0 k f fd [a0,a1,a2] sp)(F:Fun K x qual st f fd)(hm:mg y=some (.ref f))(h:∀(kV doc pm:Value) (an:Option Addr) (Oy ct u0 u1 u2:Value),bindArgs (fnOf x qual (be st) (aV st) (ai st) .none kV doc pm an Oy ct) ⟨[u0,u1,u2],[]⟩=pure (([a0,a1,a2]:List Str).zip [u0,u1,u2]):=by intros;rfl):Cal P w K mg base k y [a0,a1,a2] sp:=⟨f,fd,T,hm,F.kp,GC F h⟩
theorem DY{a0 a1 a2 a3:Str}(F:Fun K x qual st f fd)(h:∀(kV doc pm:Value) (an:Option Addr) (Oy ct u0 u1 u2 u3:Value),bindArgs (fnOf x qual (be st) (aV st) (ai st) .none kV doc pm an Oy ct) ⟨[u0,u1,u2,u3],[]⟩=pure (([a0,a1,a2,a3]:List Str).zip [u0,u1,u2,u3]):=by intros;rfl):Binds K fd [a0,a1,a2,a3] []:=F.binds λ_ _ _ _ _ _ us hl=>match us,hl with | [u0,u1,u2,u3],_=>h _ _ _ _ _ _ _ _ _ _
theorem GT{a0 a1 a2 a3:Str}(T:FnOk P w K mg base CX0 k f fd [a0,a1,a2,a3] sp)(F:Fun K x qual st f fd)(hm:mg y=some (.ref f))(h:∀(kV doc pm:Value) (an:Option Addr) (Oy ct u0 u1 u2 u3:Value),bindArgs (fnOf x qual (be st) (aV st) (ai st) .none kV doc pm an Oy ct) ⟨[u0,u1,u2,u3],[]⟩=pure (([a0,a1,a2,a3]:List Str).zip [u0,u1,u2,u3]):=by intros;rfl):Cal P w K mg base k y [a0,a1,a2,a3] sp:=⟨f,fd,T,hm,F.kp,DY F h⟩
theorem GD{a0 a1 a2 a3 a4:Str}(F:Fun K x qual st f fd)(h:∀(kV doc pm:Value) (an:Option Addr) (Oy ct u0 u1 u2 u3 u4:Value),bindArgs (fnOf x qual (be st) (aV st) (ai st) .none kV doc pm an Oy ct) ⟨[u0,u1,u2,u3,u4],[]⟩=pure (([a0,a1,a2,a3,a4]:List Str).zip [u0,u1,u2,u3,u4]):=by intros;rfl):Binds K fd [a0,a1,a2,a3,a4] []:=F.binds λ_ _ _ _ _ _ us hl=>match us,hl with | [u0,u1,u2,u3,u4],_=>h _ _ _ _ _ _ _ _ _ _ _
theorem GU{a0 a1 a2 a3 a4:Str}(T:FnOk P w K mg base CX0 k f fd [a0,a1,a2,a3,a4] sp)(F:Fun K x qual st f fd)(hm:mg y=some (.ref f))(h:∀(kV doc pm:Value) (an:Option Addr) (Oy ct u0 u1 u2 u3 u4:Value),bindArgs (fnOf x qual (be st) (aV st) (ai st) .none kV doc pm an Oy ct) ⟨[u0,u1,u2,u3,u4],[]⟩=pure (([a0,a1,a2,a3,a4]:List Str).zip [u0,u1,u2,u3,u4]):=by intros;rfl):Cal P w K mg base k y [a0,a1,a2,a3,a4] sp:=⟨f,fd,T,hm,F.kp,GD F h⟩
theorem GE{a0 a1 a2 a3 a4 a5:Str}(F:Fun K x qual st f fd)(h:∀(kV doc pm:Value) (an:Option Addr) (Oy ct u0 u1 u2 u3 u4 u5:Value),bindArgs (fnOf x qual (be st) (aV st) (ai st) .none kV doc pm an Oy ct) ⟨[u0,u1,u2,u3,u4,u5],[]⟩=pure (([a0,a1,a2,a3,a4,a5]:List Str).zip [u0,u1,u2,u3,u4,u5]):=by intros;rfl):Binds K fd [a0,a1,a2,a3,a4,a5] []:=F.binds λ_ _ _ _ _ _ us hl=>match us,hl with | [u0,u1,u2,u3,u4,u5],_=>h _ _ _ _ _ _ _ _ _ _ _ _
end
def la(K:Frag)(c:RCl RK):Sp:=fY K c .Sum
def lb(K:Frag)(c:RCl RK):TS:=
 by exists ":ldV~l"
variable{K:Frag}{c:RCl RK}{vs:List V}{H:Hp}{Q:VK}{E:XK}
theorem vR(h:la K c vs H Q E):lb K c {nx:=λ_ H'=>Q .non H',rt:=Q} (start ["self"] vs) H:=by
 obtain⟨r,p,ws,cs,n,m,rfl,x,q⟩:=h;show lb K c _ [some (.ref r)] H;unfold lb;symm;exact q
def iZ(K:Frag)(c:RCl RK):Sp:=fY K c .Rising
def i0(K:Frag)(c:RCl RK):TS:=
 by exists ":ldV~l"
theorem sx(h:iZ K c vs H Q E):i0 K c {nx:=λ_ H'=>Q .non H',rt:=Q} (start ["self"] vs) H:=by
 obtain⟨r,p,ws,cs,n,m,rfl,x,q⟩:=h;show i0 K c _ [some (.ref r)] H;unfold i0;symm;exact q
def kB(K:Frag)(c:RCl RK):Sp:=fY K c .Seen
def kC(K:Frag)(c:RCl RK):TS:=
 by exists ":ldV~l"
theorem uK(h:kB K c vs H Q E):kC K c {nx:=λ_ H'=>Q .non H',rt:=Q} (start ["self"] vs) H:=by
 obtain⟨r,p,ws,cs,n,m,rfl,x,q⟩:=h;show kC K c _ [some (.ref r)] H;unfold kC;symm;exact q
def lnW(k:RK)(n m:Nat)(ns:List Nat):List (List Nat):=rowW k n m (if allK k then [] else ns)
def gc(K:Frag):Sp:=λvs H Q _=>∃(k:RK) (n m:Nat) (C:Addr) (ns:List Nat),vs=[.str (tx (nmC k)),.int (n:Int),.int (m:Int),.ref C]/\n<=99/\m<=99/\H C=some (.lst ((ns.map λ(x:Nat)=>(x:Int)).map V.int))/\ns.length<=16/\(∀ x∈ns,x<100)/\∀ H',Same H H'->Q (.str (tx (catL 32 (lnW k n m ns)))) H'
def lV(K:Frag):TS:=
 by exists ":lFb[~xdtu`0a4c",[32]
def lW(K:Frag):TS:=
 by exists ":goC~f'a~l0HFbI~D4aD&-- zb3h#1 Bq;a1ccp{ub"
def lX(K:Frag):TS:=
 by exists ":goC~f'eG0HFbI~i4aq;a2ccp{vb"
def qz(K:Frag):TS:=
 by exists ":goC~f'cG0HFbI~i4aq;a1ccp{wb"
def qc(K:Frag):TS:=
 by exists ":gkva0ch#4 {xb"
theorem yH(k:RK):(nmC k).length<=20:=by cases k <;> decide
variable{W:Addr}
theorem qA{ws:List (List Nat)}{v0 v1 v2 v3:Option V}(eW:H W=some (.lst ((ws.map tx).map V.str)))(wn:ws.length<=100)(wl:∀ x∈ws,x.length<=20)(q:Q (.str (tx (catL 32 ws))) H):
  lV K {nx:=λ_ H'=>Q .non H',rt:=Q} [v0,v1,v2,v3,some (.ref W)] H:=by
 unfold lV;symm;refine⟨pX,?_⟩
 refine vx eW (kb (by rw[OF];omega) (λt ht=>by
  obtain⟨z,hz,rfl⟩:=OP.mp ht;rw[cr];have:=wl z hz;omega) (by rw[cr];decide)) ?_
 rw[p7,mG];exact q
theorem tQ{ws xs:List (List Nat)}(h1:∀ x∈ws,x.length<=20)(h2:∀ x∈xs,x.length<=20):∀ x∈ws++xs,x.length<=20:=λx hx=>(OY.mp hx).elim (h1 x) (h2 x)
variable{n:Nat}
theorem FO:∀ x∈[numC n],x.length<=20:=λx hx=>by
 rw[OR.mp hx];exact O7 gH (by decide)
theorem qB{k:RK}{C:Addr}{ws:List (List Nat)}{ns:List Nat}{v1 v2:Option V}(eW:H W=some (.lst ((ws.map tx).map V.str)))(eC:H C=some (.lst ((ns.map λ(x:Nat)=>(x:Int)).map V.int)))(hn:ns.length<=16)(hx:∀ x∈ns,x<100)(wn:ws.length<=10)(wl:∀ x∈ws,x.length<=20){H0:Hp}(s0:Same H0 H)(hW:H0 W=none)(q:∀ H',Same H0 H'->Q (.str (tx (catL 32 (ws++(if allK k then [] else ns).map numC)))) H'):
  lW K {nx:=λ_ H'=>Q .non H',rt:=Q} [some (.str (tx (nmC k))),v1,v2,some (.ref C),some (.ref W)] H:=by
 unfold lW;rw[az,aN];symm;rw[BZ]
 cases ha:allK k with
 | true=>
  rw[ha,O6 rfl,SA,Rr]at q;symm;exact qA eW (by omega) wl (q _ s0)
 | false=>
  rw[ha,O0 OI]at q;symm;refine⟨bA eW,⟨_,Pc eC⟩,?_⟩;refine wN eC (by omega) hx λl H1 hl s1 el=>?_;symm;refine Db (s1 _ _ eW) el (by simp;omega) ?_;have e2:(upd H1 W (.lst ((ws.map tx).map V.str++((ns.map numC).map tx).map V.str))) W=some (.lst (((ws++ns.map numC).map tx).map V.str)):=by rw[ag,PB,PB]
  have s2:=(s0.trans s1).own (o:=.lst ((ws.map tx).map V.str++((ns.map numC).map tx).map V.str)) hW;generalize upd H1 W (.lst ((ws.map tx).map V.str++((ns.map numC).map tx).map V.str))=H2 at*
  exact qA e2 (by simp;omega) (tQ wl λx hx'=>by
   obtain⟨y,_,rfl⟩:=OP.mp hx';exact O7 gH (by decide)) (q _ s2)
theorem DZ(h:n<=99)(q:Q (.str (tx (numC n))) H):kStr [.int (n:Int)] H Q:=vD (by omega) q
theorem D0 {H0:Hp} {ws:List (List Nat)} {D:Ends} {σ:St} {j:Nat} (hσ:σ[4]? =some (some (.ref W))) (hi:σ[j]? =some (some (.int (n:Int)))) (n9:n<=99) (eW:H W=some (.lst ((ws.map tx).map V.str))) (wn:ws.length<=10) (s0:Same H0 H) (hW:H0 W=none)
  (q:∀ H',Same H0 H'->H' W=some (.lst (((ws++[numC n]).map tx).map V.str))->(∀ b,b≠W->H' b=H b)->D.nx σ H'):tDrop (tBM K "list" dw (tVar 4) (tCons (tCB kStr (tCons (tVar j) tNil)) tNil)) D σ H:=by
 simp only[dI,j7,ui,dL,gK,j6];refine⟨_,hσ,bA eW,_,hi,?_⟩;refine DZ n9 ?_;rw[kT eW];refine⟨by simp;exact aE (by omega),q _ (s0.own hW) (by rw[ag];simp) λb hb=>ah hb⟩
theorem AS(h:gc K vs H Q E):qc K {nx:=λ_ H'=>Q .non H',rt:=Q} (start ["name","amount","mark","cells","words"] vs) H:=by
 obtain⟨k,n,m,C,ns,rfl,n9,m9,hC,hn,hx,q⟩:=h;show qc K _ [some (.str (tx (nmC k))),some (.int (n:Int)),some (.int (m:Int)),some (.ref C),none] H;have kl:=yH k;unfold qc;symm;refine⟨lnR rfl,λW hW=>?_⟩;have s1:Same H (upd H W (.lst [V.str (tx (nmC k))])):=(OL H).laid hW;have eW:(upd H W (.lst [V.str (tx (nmC k))])) W=some (.lst ((([nmC k]:List (List Nat)).map tx).map V.str)):=ag;have eC:=s1 _ _ hC;generalize upd H W (.lst [V.str (tx (nmC k))])=H1 at*;have nCW:C≠W:=λe=>by rw[e,hW]at hC;cases hC
 have wl0:∀ x∈[nmC k],x.length<=20:=λx hx=>by rw[OR.mp hx];exact kl
 have fin:∀(ws:List (List Nat)) (H2:Hp),ws.length<=2->(∀ x∈ws,x.length<=20)->Same H H2->H2 W=some (.lst ((ws.map tx).map V.str))->H2 C=some (.lst ((ns.map λ(x:Nat)=>(x:Int)).map V.int))->ws=nmC k::(if numK k then [numC n] else [])->lX K {nx:=λ_ H'=>Q .non H',rt:=Q} [some (.str (tx (nmC k))),some (.int (n:Int)),some (.int (m:Int)),some (.ref C),some (.ref W)] H2:=λws H2 l2 wl s2 e2 c2 ew=>by
  unfold lX;rw[az,aN,w_b,jv,ui];refine⟨_,rfl,_,rfl,_,rfl,?_⟩;rw[O0 OI,B5]
  cases hs:sgnK k with
  | false=>
   refine iteF ?_;refine qB e2 c2 hn hx (by omega) wl s2 hW λH' s'=>?_;have e:ws++(if allK k then [] else ns).map numC=lnW k n m ns:=by rw[ew];unfold lnW rowW;rw[hs];simp
   rw[e];exact q H' s'
  | true=>
   refine iteT ?_;refine D0 (j:=2) rfl rfl m9 e2 (by omega) s2 hW λH3 s3 e3 k3=>?_;refine qB e3 (by rw[k3 _ nCW];exact c2) hn hx (by simp;omega) (tQ wl FO) s3 hW λH' s'=>?_;have e:ws++[numC m]++(if allK k then [] else ns).map numC=lnW k n m ns:=by rw[ew];unfold lnW rowW;rw[hs];simp
   rw[e];exact q H' s'
 unfold qz;rw[az,aN,w_b,jv,ui];refine⟨_,rfl,_,rfl,_,rfl,?_⟩;rw[O0 OI,B0]
 cases hs:numK k with
 | false=>
  refine iteF ?_;exact fin _ _ (by simp) wl0 s1 eW eC (by rw[hs];rfl)
 | true=>
  refine iteT ?_;refine D0 (j:=1) rfl rfl n9 eW (by simp) s1 hW λH3 s3 e3 k3=>?_;exact fin _ _ (by simp) (tQ wl0 FO) s3 e3 (by rw[k3 _ nCW];exact eC) (by rw[hs];rfl)
def mvN(h w mv:Int)(cs:List Int):List Nat:=cs.map λc=>(mvC h w mv c).toNat
def mvR(h w mv:Int)(ss:List Int)(r:RR):RR:=⟨r.k,r.n,(exI ss (r.m:Int)).toNat,if allK r.k then [] else mvN h w mv r.cs,if allK r.k then r.cs else(mvN h w mv r.cs).map λ(x:Nat)=>(x:Int)⟩
variable{h w:Int}
theorem uL{m c:Int}(c0:0<=c)(c1:c<h*w):(mvL h w m)[c.toNat]? =some (mvC h w m c):=by
 unfold mvL;rw[OH,PC (by omega)];show some (mvC h w m ((c.toNat:Nat):Int))=_;rw[show((c.toNat:Nat):Int)=c by omega]
variable{g:Int}
theorem nF{m c:Int}(F:FlOk h w g)(m0:0<=m)(m8:m<8)(c0:0<=c)(c1:c<h*w):0<=mvC h w m c/\mvC h w m c<h*w:=by
 have:=(mv_ok F m0 m8).lt _ (ON (uL (m:=m) c0 c1));omega
theorem EH{m a b:Int}(F:FlOk h w g)(m0:0<=m)(m8:m<8)(a0:0<=a)(a1:a<h*w)(b0:0<=b)(b1:b<h*w)(e:mvC h w m a=mvC h w m b):a=b:=by
 have nd:=(mv_ok F m0 m8).nd;have ea:=uL (m:=m) a0 a1;have eb:=uL (m:=m) b0 b1;rw[e]at ea;obtain⟨ha,ea⟩:=OK.mp ea;obtain⟨hb,eb⟩:=OK.mp eb;have pw:=R8.mp nd;rcases Rf a.toNat b.toNat with l | l | l
 . exact absurd (ea.trans eb.symm) (pw _ _ ha hb l)
 . omega
 . exact absurd (eb.trans ea.symm) (pw _ _ hb ha l)
variable{r:RR}
theorem RR.in67(O:r.Ok h w g):∀ c∈r.cs,0<=c/\c<h*w:=λc hc=>by
 cases hk:allK r.k with
 | false=>
  obtain⟨_,_,lt,_,e⟩:=O.cl.told hk;rw[e]at hc;obtain⟨n,hn,rfl⟩:=OP.mp hc;have:=lt n hn;omega
 | true=>
  rw[(O.cl.all hk).2]at hc;exact rng0_mem.mp hc
theorem RR.len67(O:r.Ok h w g)(F:FlOk h w g):r.cs.length<=16:=by
 have m16:=F.m
 cases hk:allK r.k with
 | false=>
  obtain⟨_,l,_,_,e⟩:=O.cl.told hk;rw[e,OF];exact l
 | true=>
  rw[(O.cl.all hk).2,pY];omega
theorem RR.m67(O:r.Ok h w g)(F:FlOk h w g):(r.m:Int)<=g:=by
 have g0:=F.g0
 cases hs:sgnK r.k with
 | true=>exact(O.m0 hs).2
 | false=>rw[O.mz hs];omega
variable{ss:List Int}
theorem Cc{mv:Int}(O:r.Ok h w g)(F:FlOk h w g)(m0:0<=mv)(m8:mv<8)(X:Exch g ss):(mvR h w mv ss r).Ok (mvH h w mv) (mvW h w mv) g:=by
 have hw:=(uJ (m:=mv) F).2;have m16:=F.m;have inn:=RR.in67 O
 have im:∀ x∈mvN h w mv r.cs,(x:Int)<h*w:=λx hx=>by
  obtain⟨c,hc,rfl⟩:=OP.mp hx;have:=nF F m0 m8 (inn c hc).1 (inn c hc).2;omega
 have g0:=F.g0;have mg:=RR.m67 O F;refine⟨O.k0,O.n0,O.nz,λhs=>?_,λhs=>?_,⟨λhk=>?_,λhk=>?_⟩,λx hx=>?_,?_⟩
 . have:=X.at_ (s:=(r.m:Int)) (O.m0 hs).1 (O.m0 hs).2;show 1<=(((exI ss (r.m:Int)).toNat:Nat):Int)/\(((exI ss (r.m:Int)).toNat:Nat):Int)<=g;omega
 . show(exI ss (r.m:Int)).toNat=0;rw[O.mz hs];rfl
 . have hk':allK r.k=false:=hk;obtain⟨ne,l,lt,nd,e⟩:=O.cl.told hk';show(if allK r.k then [] else mvN h w mv r.cs)≠[]/\(if allK r.k then [] else mvN h w mv r.cs).length<=16/\(∀ n∈(if allK r.k then [] else mvN h w mv r.cs),(n:Int)<mvH h w mv*mvW h w mv)/\(if allK r.k then [] else mvN h w mv r.cs).Nodup/\(if allK r.k then r.cs else(mvN h w mv r.cs).map λ(x:Nat)=>(x:Int))=(if allK r.k then [] else mvN h w mv r.cs).map λ(n:Nat)=>(n:Int);rw[hk',O0 OI,O0 OI,hw];refine⟨λe0=>ne ?_,by unfold mvN;rw[OF];exact RR.len67 O F,im,?_,rfl⟩
   . have:r.cs=[]:=List.map_eq_nil_iff.mp e0;rw[e]at this;exact List.map_eq_nil_iff.mp this
   . have ndc:r.cs.Nodup:=by
      rw[e];exact Qw.mpr (nd.imp λhab he=>hab (by omega))
     unfold mvN;refine Qw.mpr (Qn ?_ ndc);intro a b ha hb hab he;have ia:=inn a ha;have ib:=inn b hb;have ca:=nF F m0 m8 ia.1 ia.2;have cb:=nF F m0 m8 ib.1 ib.2;exact hab (EH F m0 m8 ia.1 ia.2 ib.1 ib.2 (by omega))
 . have hk':allK r.k=true:=hk;show(if allK r.k then [] else mvN h w mv r.cs)=[]/\(if allK r.k then r.cs else(mvN h w mv r.cs).map λ(x:Nat)=>(x:Int))=rngL 0 (mvH h w mv*mvW h w mv);rw[hk',O6 rfl,O6 rfl,hw];exact⟨rfl,(O.cl.all hk').2⟩
 . have hx':x∈(if allK r.k then [] else mvN h w mv r.cs):=hx
   split at hx'
   . cases hx'
   . have:=im x hx';omega
 . show(if allK r.k then [] else mvN h w mv r.cs).length<=16
   split
   . exact Py _
   . unfold mvN;rw[OF];exact RR.len67 O F
theorem EI{mv:Int}:(mvR h w mv ss r).txt=tx (catL 32 (lnW r.k r.n (exI ss (r.m:Int)).toNat (mvN h w mv r.cs))):=rfl
def gy(K:Frag)(c:RCl RK):Sp:=λvs H Q _=>∃(r p Cl S:Addr) (x:RR) (h w g mv:Int) (ss:List Int),vs=[.ref r,.ref Cl,.ref S]/\IsRule H c x.k r p x.ws x.cs x.n x.m/\x.Ok h w g/\FlOk h w g/\H Cl=some (.lst ((mvL h w mv).map V.int))/\H S=some (.lst (ss.map V.int))/\Exch g ss/\0<=mv/\mv<8/\∀ H',Same H H'->Q (.str (mvR h w mv ss x).txt) H'
def lY(K:Frag)(c:RCl RK):TS:=
 by exists ":l,'tbaAi:'u'vbi0caAi:'w'xbi0ca,'qbaAi:'y'zbi0ca2caD&--1 zbAi:~Q~Rbi0ch#1 Ben21c"
theorem xi(h:gy K c vs H Q E):lY K c {nx:=λ_ H'=>Q .non H',rt:=Q} (start ["rule","cells","signs"] vs) H:=by
 obtain⟨r,p,Cl,S,x,h,w,g,mv,ss,rfl,x1,O,F,eC,eS,X,m0,m8,q⟩:=h;obtain⟨dx,Wd,Cd,h1,h2,h3⟩:=x1.ex;have inn:=RR.in67 O;have mg:=RR.m67 O F;have g6:=F.g1;have sl:=X.len;have m16:=F.m;have cl16:=RR.len67 O F;have ml:(mvL h w mv).length=(h*w).toNat:=(mv_ok F m0 m8).len;show lY K c _ [some (.ref r),some (.ref Cl),some (.ref S)] H;unfold lY;symm;refine methE (k:=x.k) rfl x1.ok h1 (by rfl) ?_;symm;refine⟨r,p,nmC x.k,_,x.cs,x.n,x.m,rfl,x1,?_⟩;symm;refine methE (k:=x.k) rfl x1.ok h1 (by rfl) ?_;symm;refine⟨r,p,_,x.cs,x.n,x.m,rfl,x1,?_⟩;symm;refine methE (k:=x.k) rfl x1.ok h1 (by rfl) ?_;symm;refine⟨r,p,_,x.cs,x.n,x.m,rfl,x1,?_⟩;symm;have ex:=X.in0 (s:=(x.m:Int)) (by omega) mg;refine⟨S,ss,(x.m:Int),rfl,eS,by omega,by omega,?_⟩;symm;refine methE (k:=x.k) rfl x1.ok h1 (by rfl) ?_;symm;refine⟨r,p,_,x.cs,x.n,x.m,rfl,x1,λl hl=>?_⟩;obtain⟨H1,z9,s1,el⟩:=aX (.lst (x.cs.map V.int)) hl;rw[z9];refine⟨l,rfl,⟨_,Pc el⟩,?_⟩;refine j8 (xs:=x.cs) (λ_=>true) (λc=>mvC h w mv c) (by omega) (Pc el) ?_ ?_ ?_
 . intro y H2 R hy s2 k2;exact k2 _ (OL _)
 . intro y H2 Q2 hy _ s2 k2;have yi:=inn y hy;show tOp cIx _ _ [none,some (.int y),some (.ref Cl)] H2 Q2;symm;refine ixI ((s1.trans s2) _ _ eC) yi.1 (by omega) ?_;rw[List.getD,uL yi.1 yi.2];exact k2 _ (OL _)
 . intro T H2 hT s2 eT;rw[aU]at eT
   have eT2:H2 T=some (.lst (((mvN h w mv x.cs).map λ(n:Nat)=>(n:Int)).map V.int)):=by
    rw[eT];unfold mvN;rw[O4,O4,O4];refine congrArg (λz=>some (HO.lst z)) (Pl λc hc=>?_);have:=nF F m0 m8 (inn c hc).1 (inn c hc).2;show V.int (mvC h w mv c)=V.int (((mvC h w mv c).toNat:Nat):Int);rw[show(((mvC h w mv c).toNat:Nat):Int)=mvC h w mv c by omega]
   symm;have e1:exI ss (x.m:Int)=(((exI ss (x.m:Int)).toNat:Nat):Int):=by omega
   refine⟨x.k,x.n,(exI ss (x.m:Int)).toNat,T,mvN h w mv x.cs,by rw[← e1],O.n0,by omega,eT2,by unfold mvN;rw[OF];exact cl16,λy hy=>?_,λH3 s3=>?_⟩
   . obtain⟨c,hc,rfl⟩:=OP.mp hy;have:=nF F m0 m8 (inn c hc).1 (inn c hc).2;omega
   . rw[← EI];exact q H3 ((s1.trans s2).trans s3)
def recR(rows:List RR):Bool:=rows.any λr=>recB r.k
def bD(K:Frag)(c:RCl RK)(d:RCl PzK):Sp:=λvs H Q _=>∃(P L G:Addr) (h w g:Int) (rows:List RR) (cl:List Int),vs=[.ref P]/\IsPz H c d P L G h w g rows cl/\∀ H',Same H H'->Q (.bl (recR rows)) H'
def jI(K:Frag)(c:RCl RK)(d:RCl PzK):TS:=
 by exists ":lq{yaD&-- zbAjE~S~Tbij0ch#1 BAi:{z{Abi1cc"
theorem tS{d:RCl PzK}(h:bD K c d vs H Q E):jI K c d {nx:=λ_ H'=>Q .non H',rt:=Q} (start ["puzzle"] vs) H:=by
 obtain⟨P,L,G,h,w,g,rows,cl,rfl,X,q⟩:=h;obtain⟨dx,p,rs,h1,h2,h3⟩:=X.ex;have rn:=X.R.n;show jI K c d _ [some (.ref P)] H;unfold jI;symm;refine methE (k:=.Puzzle) rfl X.ok h1 (by rfl) ?_;symm;refine⟨P,L,G,h,w,g,rows,cl,rfl,X,λl p2 rs2 hl hp2 Y=>?_⟩;have s1:Same H (upd H l (.lst (rs2.map V.ref))):=(OL H).laid hl;generalize upd H l (.lst (rs2.map V.ref))=H1 at*;have yl:=Y.len;refine⟨l,rfl,⟨_,Pc Y.top⟩,?_⟩;refine bn (xs:=rs2.map V.ref) (λ_=>true) (λi=>.bl (recB ((rows[i]?.map RR.k).getD .Rule))) (by rw[OF];omega) (Pc Y.top) ?_ ?_ ?_
 . intro i y H2 R hy s2 k2;exact k2 _ (OL _)
 . intro i y H2 Q2 hy hb s2 k2;obtain⟨b,hb2,rfl⟩:=bq hy;have hi:i<rs2.length:=(OK.mp hb2).1;have er:rows[i]? =some rows[i]:=OG (by omega);have z:=(Y.at_ i b _ hb2 er).same s2;rw[er]at k2;obtain⟨dz,Wz,Cz,z1,z2,z3⟩:=z.ex;show aL c c.ok _ _ _ _ [none,some (.ref b)] H2 Q2;refine methE (k:=rows[i].k) rfl z.ok z1 (by rfl) ?_;symm;exact⟨b,p2,_,_,_,_,rfl,z,k2 _ (OL _)⟩
 . intro T H2 hT s2 eT
   have et:((List.range (rs2.map V.ref).length).filter λ_=>true).map (λi=>V.bl (recB ((rows[i]?.map RR.k).getD .Rule)))=(rows.map λr=>recB r.k).map V.bl:=by
    rw[aU,OF,O4,yl];refine PJ (by simp) λi h1 h2=>?_;have hi:i<rows.length:=by simpa using h2
    simp[OG hi]
   rw[et]at eT;refine Gz eT ?_;have ea:(rows.map λr=>recB r.k).any id=recR rows:=by unfold recR;rw[List.any_map];rfl
   rw[ea];exact q _ (s1.trans s2)
end L2
namespace L2
open PySem PySem.Builtin PySem.Builtin.Str
end L2
namespace L2
open PySem PySem.Spec PyProof.Rows
local macro_rules|`(tactic|walk_at "w")=>wk9 ws4
local macro_rules|`(tactic|symm)=>`(tactic|walk_at "w")
def MvGo(g mv:Int)(ss:List Int)(rows:List RR):Prop:=(0<=mv/\mv<8)/\exOk g ss=true/\(ss=plnL g\/recR rows=false)
def df(K:Frag)(c:RCl RK)(d:RCl PzK):Sp:=λvs H Q E=>∃(P L G:Addr) (h w g mv:Int) (v:V) (ss:List Int) (rows:List RR) (cl:List Int),vs=[.ref P,.int mv,v]/\IsPz H c d P L G h w g rows cl/\ExV H v g ss/\
 (MvGo g mv ss rows->∀(P2 L2 G2:Addr) (H':Hp),Same H H'->IsPz H' c d P2 L2 G2 (mvH h w mv) (mvW h w mv) g (rows.map (mvR h w mv ss)) (mvF h w mv ss cl)->Q (.ref P2) H')/\
 (¬ MvGo g mv ss rows->∀ H',Same H H'->∀ C,Glb K "NoMove" C->E (.ref C) none H')
variable{K:Frag}{c:RCl RK}{d:RCl PzK}{vs:List V}{H:Hp}{Q:VK}{E:XK}
theorem Dr(h:df K c d vs H Q E):vs.length=3:=by
 obtain⟨_,_,_,_,_,_,_,_,_,_,_,rfl,_⟩:=h;rfl
def sR(K:Frag)(c:RCl RK)(d:RCl PzK)(a:EA)(E:XK):TS:=
 by exists ":lR~t~u~vbij=SaL{Bb=ya3a1ca6aL{Cb=ya3aAjE~o~pbij0ca1a5cc"
def lF(K:Frag)(c:RCl RK)(d:RCl PzK)(a:EA)(E:XK):TS:=
 by exists ":g^#6 &--45 zbAjE~S~Tbij0ch#1 B,{Dbia1a2a3c{Ebij~Uy"
def oR(K:Frag)(c:RCl RK)(d:RCl PzK)(a:EA)(E:XK):TS:=
 by exists ":go~jmeXb5,~Cba3cC,'Abija0c~zy~Aadtu`0cp{Fbij~Uy",[115,105,103,110,115,32,97,114,101,32,110,111,116,32,101,120,99,104,97,110,103,101,100,32,119,104,101,114,101,32,97,32,114,117,108,101,32,114,101,99,107,111,110,115,32,119,105,116,104,32,116,104,101,109]
def qd(K:Frag)(c:RCl RK)(d:RCl PzK)(a:EA)(E:XK):TS:=
 by exists ":gkAjE~c~dbij0ch#3 gkL'nb=ya3a1ch#4 gkL'ob=ya3a2ch#5 {Gbij~Uy"
variable{h w g:Int}{ss:List Int}{rows:List RR}
theorem zG {a:EA} {P L G p Cl S:Addr} {mv:Int} {v2:Option V} {cl:List Int} (X:IsPz H c d P L G h w g rows cl) (hp:IsFl H p h w g) (eC:H Cl=some (.lst ((mvL h w mv).map V.int))) (eS:H S=some (.lst (ss.map V.int))) (sl6:ss.length<64) (m0:0<=mv) (m8:mv<8) (ok:exOk g ss=true)
  (q:∀(P2 L2 G2:Addr) (H':Hp),Same H H'->IsPz H' c d P2 L2 G2 (mvH h w mv) (mvW h w mv) g (rows.map (mvR h w mv ss)) (mvF h w mv ss cl)->Q (.ref P2) H'):
  lF K c d a E {nx:=λ_ H'=>Q .non H',rt:=Q} [some (.ref P),some (.int mv),v2,some (.ref p),some (.ref Cl),some (.ref S),none] H:=by
 obtain⟨dx,p0,rs,h1,h2,h3⟩:=X.ex;have F:=X.R.F;have Z:Exch g ss:=⟨P8.mp ok,by have:=F.g0;omega⟩;have rn:=X.R.n;unfold lF;symm;refine methE (k:=.Puzzle) rfl X.ok h1 (by rfl) ?_;symm;refine⟨P,L,G,h,w,g,rows,cl,rfl,X,λl p2 rs2 hl hp2 Y=>?_⟩;have s1:Same H (upd H l (.lst (rs2.map V.ref))):=(OL H).laid hl;generalize upd H l (.lst (rs2.map V.ref))=H1 at*;have yl:=Y.len;refine⟨l,rfl,⟨_,Pc Y.top⟩,?_⟩;refine bn (xs:=rs2.map V.ref) (λ_=>true) (λi=>.str ((rows[i]?.map λr=>(mvR h w mv ss r).txt).getD (tx []))) (by rw[OF];omega) (Pc Y.top) ?_ ?_ ?_
 . intro i y H2 R hy s2 k2;exact k2 _ (OL _)
 . intro i y H2 Q2 hy hb s2 k2;obtain⟨b,hb2,rfl⟩:=bq hy;have hi:i<rs2.length:=(OK.mp hb2).1;have er:rows[i]? =some rows[i]:=OG (by omega);rw[er]at k2;have s12:=s1.trans s2;show tCall _ _ _ _ [none,some (.ref b),some (.ref Cl),some (.ref S)] H2 Q2;symm;exact⟨b,p2,Cl,S,rows[i],h,w,g,mv,ss,rfl,(Y.at_ i b _ hb2 er).same s2,X.R.ok _ (Pt _),F,s12 _ _ eC,s12 _ _ eS,Z,m0,m8,λH' s3=>k2 H' s3⟩
 . intro T H2 hT s2 eT
   have et:((List.range (rs2.map V.ref).length).filter λ_=>true).map (λi=>V.str ((rows[i]?.map λr=>(mvR h w mv ss r).txt).getD (tx [])))=((rows.map (mvR h w mv ss)).map RR.txt).map V.str:=by
    rw[aU,OF,O4,O4,yl];refine PJ (by simp) λi h1 h2=>?_;have hi:i<rows.length:=by simpa using h2
    simp[OG hi]
   rw[et]at eT;have s12:=s1.trans s2;have X2:=X.same s12;unfold sR;symm;refine⟨p,mv,h,w,g,rfl,s12 _ _ hp,λ_ _ p3 H3 s3 hp3=>?_,λbad=>absurd ⟨m0,m8⟩ bad⟩;have X3:=X2.same s3;obtain⟨dx3,p03,rs3,h13,_,_⟩:=X3.ex;symm;refine methE (k:=.Puzzle) rfl X.ok h13 (by rfl) ?_;symm;refine⟨P,L,G,h,w,g,rows,cl,rfl,X3,λf hf=>?_⟩;obtain⟨H4,z9,s4,ef⟩:=aX (.lst (cl.map V.int)) hf;rw[z9];have s14:=(s12.trans s3).trans s4;refine⟨p,f,h,w,g,mv,_,ss,cl,rfl,s14 _ _ hp,F,ef,X.C.len,X.C.ok,.inr ⟨S,rfl,s14 _ _ eS,sl6⟩,λ_ _ _ fl H5 s5 hfl efl=>?_,λbad=>absurd ⟨⟨m0,m8⟩,ok⟩ bad⟩;have hw:=(uJ (m:=mv) F).2;symm;refine qS (rows:=rows.map (mvR h w mv ss)) X.ok ((s4.trans s5) _ _ hp3) (((s3.trans s4).trans s5) _ _ eT) efl ⟨(uJ F).1,by rw[OF];exact rn,λr hr=>?_,λr hr=>?_⟩ ⟨by rw[dA,hw];exact X.C.len,Cb F m0 m8 Z X.C.len X.C.ok⟩ λP2 L2 G2 H6 s6 _ _ _ pz=>q P2 L2 G2 H6 ((s14.trans s5).trans s6) pz
   . obtain⟨r0,hr0,rfl⟩:=OP.mp hr;exact Cc (X.R.ok r0 hr0) F m0 m8 Z
   . obtain⟨r0,hr0,rfl⟩:=OP.mp hr;exact X.R.c r0 hr0
theorem Ds{a:EA}{os:List Addr}(R:gY K a "NoMove" a.NoMove os)(h:df K c d vs H Q E):qd K c d a E {nx:=λ_ H'=>Q .non H',rt:=Q} (start ["puzzle","move","signs","floor","cells","exchange","lines"] vs) H:=by
 obtain⟨P,L,G,h,w,g,mv,v,ss,rows,cl,rfl,X,ex,k1,k2⟩:=h;obtain⟨dx,p0,rs,h1,h2,h3⟩:=X.ex;have F:=X.R.F;have g0:=F.g0;have g1:=F.g1;show qd K c d a E _ [some (.ref P),some (.int mv),some v,none,none,none,none] H;unfold qd;symm;refine methE (k:=.Puzzle) rfl X.ok h1 (by rfl) ?_;symm;refine⟨P,L,G,h,w,g,rows,cl,rfl,X,λp hp=>?_⟩;symm;refine⟨p,mv,h,w,g,rfl,hp,F,λm0 m8 Cl H1 s1 hC eC=>?_,λz D hD=>k2 (λt=>z t.1) H (OL H) D hD⟩;symm;refine⟨p,h,w,g,v,ss,rfl,s1 _ _ hp,by omega,g1,ex.same s1,λok S H2 s2 eS=>?_,λnok H' s' D hD=>k2 (λt=>nok t.2.1) H' (s1.trans s') D hD⟩;have s12:=s1.trans s2;have Z:Exch g ss:=⟨P8.mp ok,by omega⟩;have sl:=Z.len;show oR K c d a E _ [some (.ref P),some (.int mv),some v,some (.ref p),some (.ref Cl),some (.ref S),none] H2;unfold oR;rw[az,aN];symm;refine⟨p,h,w,g,rfl,s12 _ _ hp,by omega,g1,λU hU=>?_⟩;obtain⟨H3,z9,s3,eU⟩:=aX (.lst ((plnL g).map V.int)) hU;rw[z9];have s13:=s12.trans s3
 try dsimp only
 refine Gv (s3 _ _ eS) eU ?_
 have go:∀ H4,Same H3 H4->MvGo g mv ss rows->lF K c d a E {nx:=λ_ H'=>Q .non H',rt:=Q} [some (.ref P),some (.int mv),some v,some (.ref p),some (.ref Cl),some (.ref S),none] H4:=λH4 s4 hg=>
  zG (X.same (s13.trans s4)) ((s13.trans s4) _ _ hp) (((s2.trans s3).trans s4) _ _ eC) ((s3.trans s4) _ _ eS) (by omega) m0 m8 ok λP2 L2 G2 H' s' pz=>k1 hg P2 L2 G2 H' ((s13.trans s4).trans s') pz
 by_cases c1:ss=plnL g
 . rw[O3 c1];refine⟨_,rfl,?_⟩;symm;exact go H3 (OL _) ⟨⟨m0,m8⟩,ok,.inl c1⟩
 . rw[OW c1];refine⟨_,rfl,?_⟩;symm;refine⟨P,L,G,h,w,g,rows,cl,rfl,X.same s13,λH4 s4=>?_⟩
   cases hb:recR rows with
   | false=>
    refine⟨false,rfl,?_⟩;symm;exact go H4 s4 ⟨⟨m0,m8⟩,ok,.inr hb⟩
   | true=>
    refine⟨true,rfl,?_⟩;symm;rw[pD];symm
    exact⟨bd (by decide),k2 (λt=>by
     rcases t.2.2 with e | e
     . exact c1 e
     . rw[hb]at e;cases e) H4 (s13.trans s4) _ R.g⟩
theorem uM(s:Str):∀ ws:List Str,inV (.str s) (ws.map V.str)=decide (s∈ws)
 | []=>rfl
 | n::r=>by
  have ih:=uM s r;unfold inV at ih ⊢;rw[Pr,QJ,ih];show((n==s)||decide (s∈r))=decide (s∈n::r);rw[Pw,SO,QD,Pp,Pp,OM];exact⟨λh=>h.elim (λe=>.inl e.symm) .inr,λh=>h.elim (λe=>.inl e.symm) .inr⟩
theorem EJ{p:Addr}{s:Str}{ws:List Str}(h:H p=some (.tup (ws.map V.str))):cIn K false (.str s) (.ref p) H Q=Q (.bl (decide (s∈ws))) H:=by
 unfold cIn;dsimp only;rw[h];dsimp only[unD,unS,bnd];rw[uM,oB];simp[flatV]
theorem RR.mm67{x:RR}(O:x.Ok h w g)(F:FlOk h w g):x.m<100:=by
 have:=RR.m67 O F;have:=F.g1;omega
theorem Ah{x:RR}(O:x.Ok h w g)(F:FlOk h w g)(q:∀ W,H W=none->Q (.ref W) (upd H W (.lst ((x.ws.map tx).map V.str)))):lI (.str x.txt) [.str (tx [32])] H Q:=by
 have hsp:Txt.split (tx (catL 32 (rowW x.k x.n x.m x.ns))) (tx [32])=(rowW x.k x.n x.m x.ns).map tx:=yn (by simp[rowW]) (wL (by have:=O.n0;omega) (RR.mm67 O F) O.ns0);have hl:=oN (k:=x.k) (n:=x.n) (m:=x.m) O.len;have hl2:=qb _ hl.2;show lI (.str (tx (catL 32 (rowW x.k x.n x.m x.ns)))) [.str (tx [32])] H Q;rw[z6,hsp];exact⟨by rw[cr];decide,by rw[cr];exact PD (PK hl2 (PK (Nat.mul_le_mul_left 101 hl.1) (by decide))),by rw[OF];exact bd (by omega),λW hW=>q W hW⟩
def frN(k:RK):Nat:=1+(if numK k then 1 else 0)+(if k=.Count then 1 else 0)
theorem GF(k:RK):decide (tx (nmC k)∈[tx [115,117,109],tx [114,105,115,105,110,103],tx [115,101,101,110]])=recB k:=by cases k <;> decide+kernel
variable{n:Nat}
theorem GG(h:n<100)(q:Q (.int (n:Int)) H):mm [.str (tx (numC n))] H Q:=⟨n,h,rfl,q⟩
theorem GH{α:Type}(f:α->Bool):∀(xs:List α) (b:Nat->Bool),(∀ i x,xs[i]? =some x->b i=f x)->decide (0 < ((List.range xs.length).filter b).length)=xs.any f:=λxs b hb=>by
 rw[Pw,Pp,RI];constructor
 . intro h;obtain⟨i,hi⟩:=List.exists_mem_of_ne_nil _ (List.length_pos_iff.mp h);obtain⟨hi,hbi⟩:=Ql.mp hi;have hl:=O5.mp hi;have e:=OG hl;exact⟨xs[i],Pt hl,by rw[← hb i _ e];exact hbi⟩
 . rintro⟨x,hx,hf⟩;obtain⟨i,hi,e⟩:=Qs.mp hx;refine List.length_pos_iff.mpr λe0=>?_;have:i∈(List.range xs.length).filter b:=Ql.mpr ⟨O5.mpr hi,by rw[hb i x (by rw[OG hi,e])];exact hf⟩;rw[e0]at this;cases this
theorem wQ {H1:Hp} {σ0:St} {te:TE} {fin:Addr->Hp->Prop} (F:FlOk h w g) (hn:n<=12) (hk:∀ k,k≠.Rule->c.ok k=true)
  (he:∀ i H Q,i<n->Same H1 H->(∀(r:RR) (H':Hp),Same H H'->r.Ok h w g->Q (.str r.txt) H')->te (σ0.set 1 (some (.int (0+(i:Int))))) H Q)
  (hd:∀ l rows H,H1 l=none->Same H1 H->H l=some (.lst ((rows.map RR.txt).map V.str))->rows.length=n->c6 c h w g rows->fin l H):
  CompR (Itr 0 n) (gName 1) tTrue te fin σ0 H1:=by
 refine pW (λl i σ H=>(σ=σ0\/∃ cv,σ=σ0.set 1 cv)/\Same H1 H/\∃ rows:List RR,H l=some (.lst ((rows.map RR.txt).map V.str))/\rows.length=i/\∀ r∈rows,r.Ok h w g) (λl hl=>⟨.inl rfl,(OL H1).laid hl,[],by rw[ag];rfl,rfl,λ_ h=>nomatch h⟩) ?_ (λl σ H hl ⟨_,s1,rows,el,hl2,hP⟩=>hd l rows H hl s1 el hl2 ⟨F,by omega,hP,λr hr=>hk _ (hP r hr).k0⟩);rintro l i σ H hl hi ⟨hσ,s1,rows,el,hl2,hP⟩;rw[aS]
 have e:σ.set 1 (some (.int (0+(i:Int))))=σ0.set 1 (some (.int (0+(i:Int)))):=by
  rcases hσ with rfl | ⟨cv,rfl⟩
  . rfl
  . exact Qy ..
 rw[e,cI,O6 rfl];refine he i H _ hi s1 λr H2 s2 hr=>⟨_,s2 _ _ el,by simp;exact aE (by omega),.inr ⟨_,rfl⟩,(s1.trans s2).own hl,rows++[r],by rw[ag];simp,by simp[hl2],λz hz=>?_⟩;rcases OY.mp hz with hz | hz
 . exact hP z hz
 . rw[OR.mp hz];exact hr
def cmM(m1 m2:Int):Int:=(if 4<=m2 then m2%4-m1%4 else m2%4+m1%4)%4+(if 4<=m1 then(if 4<=m2 then 0 else 4) else(if 4<=m2 then 4 else 0))
def inM(m:Int):Int:=if 4<=m then m else(4-m)%4
variable{m1 m2:Int}
theorem Ce:0<=cmM m1 m2/\cmM m1 m2<8:=by
 unfold cmM;have a:=Pj (if 4<=m2 then m2%4-m1%4 else m2%4+m1%4) (show(4:Int)≠0 by decide);have b:=Pa (if 4<=m2 then m2%4-m1%4 else m2%4+m1%4) (show(0:Int)<4 by decide);generalize (if 4<=m2 then m2%4-m1%4 else m2%4+m1%4)%4=x at*
 split <;> split <;> omega
variable{m:Int}
theorem FP(m0:0<=m)(m8:m<8):0<=inM m/\inM m<8:=by
 unfold inM;split <;> omega
def rg(n:Nat):List Nat:=List.range n
def cmT(h w m1 m2 z:Nat):Bool:=mvC (mvH h w m1) (mvW h w m1) m2 (mvC h w m1 z)==mvC h w (cmM m1 m2) z
theorem FQ:((rg 7).all λh=>(rg 7).all λw=>(rg 8).all λm1=>(rg 8).all λm2=>(rg (if h*w<=16 then h*w else 0)).all λz=>cmT h w m1 m2 z)=true:=by decide+kernel
theorem lK{x:Int}(h:0<=x):∃ n:Nat,x=(n:Int):=⟨x.toNat,by omega⟩
theorem yI{z:Int}(F:FlOk h w g)(a0:0<=m1)(a8:m1<8)(b0:0<=m2)(b8:m2<8)(z0:0<=z)(z1:z<h*w):mvC (mvH h w m1) (mvW h w m1) m2 (mvC h w m1 z)=mvC h w (cmM m1 m2) z:=by
 obtain⟨h0,h1,w0,w1,m16,g0,g1⟩:=F;obtain⟨hn,rfl⟩:=lK (show 0<=h by omega);obtain⟨wn,rfl⟩:=lK (show 0<=w by omega);obtain⟨m1,rfl⟩:=lK a0;obtain⟨m2,rfl⟩:=lK b0;obtain⟨z,rfl⟩:=lK z0;have e:((hn*wn:Nat):Int)=(hn:Int)*wn:=Int.natCast_mul _ _;have A:=Pb.mp FQ hn (O5.mpr (by omega));have A:=Pb.mp A wn (O5.mpr (by omega));have A:=Pb.mp A m1 (O5.mpr (by omega));have A:=Pb.mp A m2 (O5.mpr (by omega));have A:=Pb.mp A z (O5.mpr (by rw[O6 (by omega)];omega));unfold cmT at A;exact eq_of_beq A
theorem Cf:((rg 8).all λm1=>(rg 8).all λm2=>decide ((cmM m1 m2)%2=((m1:Int)+m2)%2))=true:=by decide+kernel
theorem Ch(a0:0<=m1)(a8:m1<8)(b0:0<=m2)(b8:m2<8):mvH (mvH h w m1) (mvW h w m1) m2=mvH h w (cmM m1 m2)/\mvW (mvH h w m1) (mvW h w m1) m2=mvW h w (cmM m1 m2):=by
 obtain⟨m1,rfl⟩:=lK a0;obtain⟨m2,rfl⟩:=lK b0;have A:=Pb.mp Cf m1 (O5.mpr (by omega));have A:=QH (Pb.mp A m2 (O5.mpr (by omega)));unfold mvH mvW;rw[A];constructor <;> (split <;> split <;> first | rfl | omega | (split <;> first | rfl | omega))
theorem FR:((rg 8).all λm=>decide (cmM m (inM m)=0)&&decide (cmM (inM m) m=0))=true:=by decide+kernel
theorem yJ{z:Int}(w0:1<=w):mvC h w 0 z=z:=by
 unfold mvC;show z/w*w+z%w=z;have:=Int.mul_ediv_add_emod z w;rw[SH];exact this
def cmS(s1 s2:List Int):List Int:=s1.map (exI s2)
variable{s1 s2:List Int}
theorem Ci{x:Int}(l1:(s1.length:Int)=g)(p1:∀ y∈s1,1<=y)(x0:0<=x)(xg:x<=g):exI s2 (exI s1 x)=exI (cmS s1 s2) x:=by
 unfold exI;by_cases e:x=0
 . rw[O6 e,O6 rfl,O6 e]
 . rw[O0 e];have hi:(x-1).toNat<s1.length:=by omega
   have e1:s1.getD (x-1).toNat 0=s1[(x-1).toNat]:=getD_at hi
   have e2:(cmS s1 s2).getD (x-1).toNat 0=exI s2 s1[(x-1).toNat]:=by
    unfold cmS;rw[getD_at (by rw[OF];exact hi),QR]
   rw[e1,O0 e,e2];rfl
def fK:RK->Bool
 | .Unlike=>true | .Sum=>true | .Count=>true | _=>false
def srN(ns:List Nat):List Nat:=ns.mergeSort λa b=>decide (a<=b)
theorem cF(ns:List Nat):(srN ns).Perm ns:=List.mergeSort_perm _ _
theorem uN(ns:List Nat):(srN ns).Pairwise (· <=·):=by
 have h:=Su (le:=λa b:Nat=>decide (a<=b)) (λa b c h1 h2=>by simp at*;omega) (λa b=>by simp;omega) ns;exact h.imp λh=>QH h
theorem rT:∀{a b:List Nat},a.Perm b->a.Pairwise (· <=·)->b.Pairwise (· <=·)->a=b
 | [],b,p,_,_=>(List.Perm.nil_eq p)
 | x::a,[],p,_,_=>by have:=p.length_eq;simp at this
 | x::a,y::b,p,ha,hb=>by
  have e:x=y:=by
   have h1:x∈y::b:=p.mem_iff.mp (.head _);have h2:y∈x::a:=p.mem_iff.mpr (.head _);rcases OM.mp h1 with e | h1
   . exact e
   . rcases OM.mp h2 with e | h2
     . exact e.symm
     . have:=(PL.mp ha).1 y h2;have:=(PL.mp hb).1 x h1;omega
  subst e;rw[rT ((List.perm_cons x).mp p) (PL.mp ha).2 (PL.mp hb).2]
theorem FS{a b:List Nat}(p:a.Perm b):srN a=srN b:=rT ((cF a).trans (p.trans (cF b).symm)) (uN a) (uN b)
theorem EK{a b:List Nat}(e:srN a=srN b):a.Perm b:=(cF a).symm.trans (e ▸ cF b)
def fNs(k:RK)(ns:List Nat):List Nat:=if fK k then srN ns else ns
def fT(r:RR):List Nat:=catL 32 (rowW r.k r.n r.m (fNs r.k r.ns))
theorem uO{c:Nat}:∀{ws vs:List (List Nat)},ws≠[]->vs≠[]->(∀ w∈ws,c∉w)->(∀ w∈vs,c∉w)->catL c ws=catL c vs->ws=vs
 | [],_,h,_,_,_,_=>absurd rfl h
 | _::_,[],_,h,_,_,_=>absurd rfl h
 | [x],[y],_,_,_,_,e=>by have:x=y:=e;rw[this]
 | [x],y::z::r,_,_,hw,_,e=>by
  have:x=y++c::catL c (z::r):=e;exact absurd (by rw[this];simp) (hw x (.head _))
 | x::z::r,[y],_,_,_,hv,e=>by
  have:x++c::catL c (z::r)=y:=e;exact absurd (by rw[← this];simp) (hv y (.head _))
 | x::z::r,y::u::s,_,_,hw,hv,e=>by
  obtain⟨e1,e2⟩:=vv (hw x (.head _)) (hv y (.head _)) (show x++c::catL c (z::r)=y++c::catL c (u::s) from e);rw[e1,uO (by simp) (by simp) (λw h=>hw w (.tail _ h)) (λw h=>hv w (.tail _ h)) e2]
theorem nG{a b:Nat}(ha:a<100)(hb:b<100)(e:numC a=numC b):a=b:=by
 have h:((List.range 100).all λa=>(List.range 100).all λb=>decide (numC a=numC b->a=b))=true:=by decide+kernel
 have h1:=Pb.mp h a (O5.mpr ha);exact QH (Pb.mp h1 b (O5.mpr hb)) e
theorem EL{j k:RK}(hj:j≠.Rule)(hk:k≠.Rule)(e:nmC j=nmC k):j=k:=by
 cases j <;> cases k <;> first | rfl | exact absurd rfl hj | exact absurd rfl hk | (exact absurd e (by decide))
theorem rV{as bs:List Nat}(ha:∀ x∈as,x<100)(hb:∀ x∈bs,x<100)(e:as.map numC=bs.map numC):as=bs:=by
 induction as generalizing bs with
 | nil=>cases bs with
  | nil=>rfl
  | cons=>simp at e
 | cons a as ih=>cases bs with
  | nil=>simp at e
  | cons b bs=>
   simp only[Pr,List.cons.injEq]at e;rw[nG (ha a (.head _)) (hb b (.head _)) e.1,ih (λx h=>ha x (.tail _ h)) (λx h=>hb x (.tail _ h)) e.2]
variable{ns:List Nat}
theorem qW{k:RK}(h:∀ x∈ns,x<100):∀ x∈fNs k ns,x<100:=λx hx=>by
 unfold fNs at hx
 split at hx
 . exact h x ((cF ns).mem_iff.mp hx)
 . exact h x hx
theorem Cj{k:RK}{m:Nat}(hn:n<100)(hm:m<100)(hs:∀ x∈ns,x<100):∀ w∈rowW k n m ns,32∉w:=λw hw h=>by
 have no:∀ a,a<100->32∉numC a:=λa ha h=>by have:=mI ha 32 h;omega
 unfold rowW at hw;rcases OM.mp hw with rfl | hw
 . revert h;cases k <;> decide
 . rcases OY.mp hw with hw | hw
   . rcases OY.mp hw with hw | hw
     . split at hw
       . rw[OR.mp hw]at h;exact no n hn h
       . cases hw
     . split at hw
       . rw[OR.mp hw]at h;exact no m hm h
       . cases hw
   . obtain⟨a,ha,rfl⟩:=OP.mp hw;exact no a (hs a ha) h
variable{r:RR}
theorem RR.m100(O:r.Ok h w g)(F:FlOk h w g):r.m<100:=by
 have g1:=F.g1
 cases hs:sgnK r.k with
 | true=>have:=(O.m0 hs).2;omega
 | false=>rw[O.mz hs];decide
theorem Ck{q:RR}{h' w' g':Int}(O:r.Ok h w g)(F:FlOk h w g)(P:q.Ok h' w' g')(F':FlOk h' w' g')(e:fT r=fT q):r.k=q.k/\r.n=q.n/\r.m=q.m/\fNs r.k r.ns=fNs q.k q.ns:=by
 have n1:r.n<100:=by have:=O.n0;omega
 have n2:q.n<100:=by have:=P.n0;omega
 have m1:=RR.m100 O F;have m2:=RR.m100 P F';have e1:=uO (by unfold rowW;simp) (by unfold rowW;simp) (Cj n1 m1 (qW O.ns0)) (Cj n2 m2 (qW P.ns0)) e;unfold rowW at e1;obtain⟨ek,e2⟩:=List.cons.inj e1;have ek:=EL O.k0 P.k0 ek;have nz1:=O.nz;have nz2:=P.nz;have mz1:=O.mz;have mz2:=P.mz;rw[← ek]at e2 nz2 mz2 ⊢;have l1:=qW (k:=r.k) O.ns0;have l2:=qW (k:=r.k) P.ns0;generalize fNs r.k r.ns=a at*;generalize fNs r.k q.ns=b at*;cases hn:numK r.k <;> cases hs:sgnK r.k <;> rw[hn,hs]at e2
 . have e3:a.map numC=b.map numC:=by simpa using e2
   exact⟨rfl,by rw[nz1 hn,nz2 hn],by rw[mz1 hs,mz2 hs],rV l1 l2 e3⟩
 . have e3:numC r.m=numC q.m/\a.map numC=b.map numC:=by simpa using e2
   exact⟨rfl,by rw[nz1 hn,nz2 hn],nG m1 m2 e3.1,rV l1 l2 e3.2⟩
 . have e3:numC r.n=numC q.n/\a.map numC=b.map numC:=by simpa using e2
   exact⟨rfl,nG n1 n2 e3.1,by rw[mz1 hs,mz2 hs],rV l1 l2 e3.2⟩
 . have e3:numC r.n=numC q.n/\numC r.m=numC q.m/\a.map numC=b.map numC:=by simpa using e2
   exact⟨rfl,nG n1 n2 e3.1,nG m1 m2 e3.2.1,rV l1 l2 e3.2.2⟩
theorem GI{q:RR}{mv:Int}(O:r.Ok h w g)(P:q.Ok h w g)(F:FlOk h w g)(e:fT r=fT q):fT (mvR h w mv ss r)=fT (mvR h w mv ss q):=by
 obtain⟨ek,en,em,es⟩:=Ck O F P F e;unfold fT mvR
 try dsimp only
 rw[← ek]at es ⊢;rw[en,em]
 cases ha:allK r.k with
 | true=>rfl
 | false=>
  have c1:=(O.cl.told ha).2.2.2.2;have c2:=(P.cl.told (ek ▸ ha)).2.2.2.2;rw[O0 OI,O0 OI]
  have go:fNs r.k (mvN h w mv r.cs)=fNs r.k (mvN h w mv q.cs):=by
   unfold fNs at es ⊢
   cases hf:fK r.k with
   | true=>
    rw[hf,O6 rfl,O6 rfl]at es;rw[O6 rfl,O6 rfl,c1,c2];exact FS (((EK es).map _).map _)
   | false=>
    rw[hf,O0 OI,O0 OI]at es;rw[O0 OI,O0 OI,c1,c2,es]
  rw[go]
theorem Dt(O:r.Ok h w g)(F:FlOk h w g)(a0:0<=m1)(a8:m1<8)(b0:0<=m2)(b8:m2<8)(X1:Exch g s1):mvR (mvH h w m1) (mvW h w m1) m2 s2 (mvR h w m1 s1 r)=mvR h w (cmM m1 m2) (cmS s1 s2) r:=by
 have inn:=RR.in67 O;have mg:=RR.m67 O F
 have em:(exI s2 (((exI s1 (r.m:Int)).toNat:Nat):Int)).toNat=(exI (cmS s1 s2) (r.m:Int)).toNat:=by
  have i:=X1.in0 (s:=(r.m:Int)) (by omega) mg;rw[show(((exI s1 (r.m:Int)).toNat:Nat):Int)=exI s1 (r.m:Int) by omega,Ci X1.len (λy hy=>(X1.mem.mp hy).1) (by omega) mg]
 have en:mvN (mvH h w m1) (mvW h w m1) m2 ((mvN h w m1 r.cs).map λ(x:Nat)=>(x:Int))=mvN h w (cmM m1 m2) r.cs:=by
  unfold mvN;rw[O4,O4];refine Pl λc hc=>?_;have ic:=inn c hc;have im:=nF F a0 a8 ic.1 ic.2;show(mvC (mvH h w m1) (mvW h w m1) m2 (((mvC h w m1 c).toNat:Nat):Int)).toNat=_;rw[show(((mvC h w m1 c).toNat:Nat):Int)=mvC h w m1 c by omega,yI F a0 a8 b0 b8 ic.1 ic.2]
 unfold mvR
 try dsimp only
 cases ha:allK r.k with
 | true=>rw[em];rfl
 | false=>
  rw[em];simp only[Bool.false_eq_true,if_false];rw[en]
theorem vS{j:Nat}(hj:j < (h*w).toNat):(mvL h w m).getD j 0=mvC h w m (j:Int):=by
 unfold mvL;rw[List.getD,OH,PC hj];rfl
theorem Du{cl:List Int}(F:FlOk h w g)(a0:0<=m1)(a8:m1<8)(b0:0<=m2)(b8:m2<8)(X1:Exch g s1)(hf:cl.length=(h*w).toNat)(hx:∀ x∈cl,0<=x/\x<=g):mvF (mvH h w m1) (mvW h w m1) m2 s2 (mvF h w m1 s1 cl)=mvF h w (cmM m1 m2) (cmS s1 s2) cl:=by
 obtain⟨F1,e1⟩:=uJ (m:=m1) F;have c:=Ce (m1:=m1) (m2:=m2);have l1:(mvF h w m1 s1 cl).length=(mvH h w m1*mvW h w m1).toNat:=by rw[dA,hf,e1]
 refine PJ (by rw[dA,dA,dA]) λk h1 h2=>?_;have hk:k < (h*w).toNat:=by rw[dA,hf]at h2;exact h2
 obtain⟨j,hj,ej⟩:=(mv_ok F c.1 c.2).all k hk;have jc:(j:Int)<h*w:=by omega
 have i1:=nF F a0 a8 (show(0:Int)<=(j:Int) by omega) jc;have j1:(mvC h w m1 (j:Int)).toNat < (mvH h w m1*mvW h w m1).toNat:=by rw[e1];omega
 have t3:=pM (ss:=cmS s1 s2) F c.1 c.2 hf hj;have t2:=pM (ss:=s2) F1 b0 b8 l1 j1;have t1:=pM (ss:=s1) F a0 a8 hf hj;rw[ej]at t3;rw[vS j1,show(((mvC h w m1 (j:Int)).toNat:Nat):Int)=mvC h w m1 (j:Int) by omega,yI F a0 a8 b0 b8 (by omega) jc]at t2;rw[vS hj]at t1 ej;rw[ej,t1]at t2;have cj:=pL hx (show j<cl.length by omega);rw[Ci X1.len (λy hy=>(X1.mem.mp hy).1) cj.1 cj.2]at t2;rw[← getD_at h1,← getD_at h2,t2,t3]
theorem vT:∀{a b:List Int},a.Nodup->(∀ x∈a,x∈b)->b.length<=a.length->a.Perm b
 | [],b,_,_,h=>by rw[List.eq_nil_of_length_eq_zero (show b.length=0 by simpa using h)]
 | x::a,b,nd,sub,h=>by
  have hx:=sub x (.head _);have p:=List.perm_cons_erase hx;have l:=p.length_eq;have nd2:=P0.mp nd;refine List.Perm.trans (List.Perm.cons x (vT nd2.2 (λy hy=>?_) (by simp at h l;omega))) p.symm;have:y∈x::b.erase x:=p.mem_iff.mp (sub y (.tail _ hy));rcases OM.mp this with e | e
  . exact absurd (e ▸ hy) nd2.1
  . exact e
theorem FT(X1:Exch g s1)(X2:Exch g s2):Exch g (cmS s1 s2):=by
 refine⟨?_,X1.g0⟩
 have nd:(cmS s1 s2).Nodup:=by
  unfold cmS;refine Qw.mpr (Qn ?_ X1.nd);intro a b ha hb hab e;have ma:=X1.mem.mp ha;have mb:=X1.mem.mp hb;have l2:=X2.len;unfold exI at e;rw[O0 (by omega),O0 (by omega),getD_at (show(a-1).toNat<s2.length by omega),getD_at (show(b-1).toNat<s2.length by omega)]at e;have:=(List.getElem_inj X2.nd).mp e;exact hab (by omega)
 have sub:∀ x∈cmS s1 s2,x∈plnL g:=λx hx=>by
  obtain⟨a,ha,rfl⟩:=OP.mp hx;have ma:=X1.mem.mp ha;exact pln_mem.mpr (X2.at_ ma.1 ma.2)
 have l1:=X1.len;have lp:=dy X1.g0;exact vT nd sub (by unfold cmS;rw[OF];omega)
theorem rW{k:Nat}(hk:k < (plnL g).length):(plnL g)[k]=(k:Int)+1:=by
 have h:(plnL g)[k]? =some ((k:Int)+1):=by
  unfold plnL rngL at hk ⊢;rw[OF,PY]at hk;rw[OH,PC hk];show some (1+(k:Int))=_;rw[Int.add_comm]
 rw[OG hk]at h;exact Qk h
theorem FU(X:Exch g ss):∃ ts,Exch g ts/\cmS ss ts=plnL g/\cmS ts ss=plnL g:=by
 have sl:=X.len;have pl:=dy X.g0;let ts:List Int:=(plnL g).map λs=>(((ss.idxOf s:Nat):Int)+1);have tl:ts.length=ss.length:=by show(List.map _ _).length=_;rw[OF];omega
 have at_:∀(k:Nat) (hk:k<ss.length),exI ts ss[k]=(k:Int)+1:=λk hk=>by
  have m:=X.mem.mp (Pt hk);unfold exI;rw[O0 (by omega)];have hi:(ss[k]-1).toNat<ts.length:=by omega
  rw[getD_at hi];show((plnL g).map λs=>(((ss.idxOf s:Nat):Int)+1))[(ss[k]-1).toNat]'hi=_;rw[QR]
  have e:(plnL g)[(ss[k]-1).toNat]'(by omega)=ss[k]:=by
   rw[rW];omega
  rw[e,X.nd.idxOf_getElem k hk]
 have c1:cmS ss ts=plnL g:=by
  refine PJ (by unfold cmS;rw[OF];omega) λk h1 h2=>?_;have hk:k<ss.length:=by unfold cmS at h1;rw[OF]at h1;exact h1
  show(ss.map (exI ts))[k]'(by rw[OF];exact hk)=_;rw[QR,at_ k hk,rW]
 have ndp:(plnL g).Nodup:=wP g;have mem:∀ s,s∈plnL g->ss.idxOf s<ss.length:=λs hs=>List.idxOf_lt_length_of_mem (X.p.mem_iff.mpr hs)
 have T:Exch g ts:=by
  refine⟨?_,X.g0⟩
  have nd:ts.Nodup:=by
   refine Qw.mpr (Qn ?_ ndp);intro a b ha hb hab e;have e2:ss.idxOf a=ss.idxOf b:=by omega
   have ea:=R6 (mem a ha);have eb:=R6 (mem b hb);exact hab (by rw[← ea,← eb];simp only[e2])
  have sub:∀ x∈ts,x∈plnL g:=λx hx=>by
   obtain⟨a,ha,rfl⟩:=OP.mp hx;have:=mem a ha;exact pln_mem.mpr ⟨by omega,by omega⟩
  exact vT nd sub (by omega)
 refine⟨ts,T,c1,?_⟩;refine PJ (by unfold cmS;rw[OF];omega) λk h1 h2=>?_;have hk:k<ts.length:=by unfold cmS at h1;rw[OF]at h1;exact h1
 show(ts.map (exI ss))[k]'(by rw[OF];exact hk)=_;rw[QR];show exI ss (((plnL g).map λs=>(((ss.idxOf s:Nat):Int)+1))[k]'hk)=_;rw[QR];have hp:=mem _ (Pt h2);unfold exI;rw[O0 (by omega),show((((ss.idxOf ((plnL g)[k])):Nat):Int)+1-1).toNat=ss.idxOf ((plnL g)[k]) by omega,getD_at hp,R6]
def leL:List Nat->List Nat->Bool
 | [],_=>true
 | _::_,[]=>false
 | a::x,b::y=>decide (a<b)||(decide (a=b)&&leL x y)
theorem Ai:∀ a b,(leL a b||leL b a)=true
 | [],_=>rfl
 | _::_,[]=>rfl
 | a::x,b::y=>by
  have h:=Ai x y;unfold leL;rcases Rf a b with l | l | l
  . simp[l]
  . subst l;simpa using h
  . simp[l]
theorem yK:∀{a b},leL a b=true->leL b a=true->a=b
 | [],[],_,_=>rfl
 | [],_::_,_,h=>by simp[leL]at h
 | _::_,[],h,_=>by simp[leL]at h
 | a::x,b::y,h1,h2=>by
  simp[leL]at h1 h2;have e:a=b:=by omega
  subst e;have h1:leL x y=true:=by simpa using h1
  have h2:leL y x=true:=by simpa using h2
  rw[yK h1 h2]
theorem yL:∀{a b c},leL a b=true->leL b c=true->leL a c=true
 | [],_,_,_,_=>rfl
 | _::_,[],_,h,_=>by simp[leL]at h
 | _::_,_::_,[],_,h=>by simp[leL]at h
 | a::x,b::y,c::z,h1,h2=>by
  have ih:=λp q=>yL (a:=x) (b:=y) (c:=z) p q;simp[leL]at h1 h2 ⊢;rcases h1 with h1 | ⟨e1,h1⟩ <;> rcases h2 with h2 | ⟨e2,h2⟩
  . exact .inl (by omega)
  . exact .inl (by omega)
  . exact .inl (by omega)
  . exact .inr ⟨by omega,ih h1 h2⟩
def srS(ls:List (List Nat)):List (List Nat):=ls.mergeSort leL
theorem ik(ls:List (List Nat)):(srS ls).Perm ls:=List.mergeSort_perm _ _
theorem yM(ls:List (List Nat)):(srS ls).Pairwise λa b=>leL a b=true:=Su (le:=leL) (λ_ _ _ h1 h2=>yL h1 h2) Ai ls
theorem tT:∀{a b:List (List Nat)},a.Perm b->a.Pairwise (λa b=>leL a b=true)->b.Pairwise (λa b=>leL a b=true)->a=b
 | [],b,p,_,_=>(List.Perm.nil_eq p)
 | x::a,[],p,_,_=>by have:=p.length_eq;simp at this
 | x::a,y::b,p,ha,hb=>by
  have e:x=y:=by
   have h1:x∈y::b:=p.mem_iff.mp (.head _);have h2:y∈x::a:=p.mem_iff.mpr (.head _);rcases OM.mp h1 with e | h1
   . exact e
   . rcases OM.mp h2 with e | h2
     . exact e.symm
     . exact yK ((PL.mp ha).1 y h2) ((PL.mp hb).1 x h1)
  subst e;rw[tT ((List.perm_cons x).mp p) (PL.mp ha).2 (PL.mp hb).2]
theorem FV{a b:List (List Nat)}(p:a.Perm b):srS a=srS b:=tT ((ik a).trans (p.trans (ik b).symm)) (yM a) (yM b)
theorem Aj{a b:List (List Nat)}(e:srS a=srS b):a.Perm b:=(ik a).symm.trans (e ▸ ik b)
structure Pd where
 h:Int
 w:Int
 g:Int
 rows:List RR
 cl:List Int
structure Pd.Ok(p:Pd):Prop where
 F:FlOk p.h p.w p.g
 R:∀ r∈p.rows,r.Ok p.h p.w p.g
 l:p.cl.length=(p.h*p.w).toNat
 c:∀ x∈p.cl,0<=x/\x<=p.g
abbrev Frm:=(Int × Int × Int) × List (List Nat) × List Int
def Pd.frm(p:Pd):Frm:=((p.h,p.w,p.g),srS (p.rows.map fT),p.cl)
def Pd.mv(p:Pd)(m:Int)(ss:List Int):Pd:=⟨mvH p.h p.w m,mvW p.h p.w m,p.g,p.rows.map (mvR p.h p.w m ss),mvF p.h p.w m ss p.cl⟩
structure Pd.May(p:Pd)(m:Int)(ss:List Int):Prop where
 m0:0<=m
 m8:m<8
 x:Exch p.g ss
 r:ss=plnL p.g\/recR p.rows=false
variable{p:Pd}
theorem Pd.mv_ok(O:p.Ok)(M:p.May m ss):(p.mv m ss).Ok:=by
 obtain⟨F1,e1⟩:=uJ (m:=m) O.F;refine⟨F1,λr hr=>?_,?_,Cb O.F M.m0 M.m8 M.x O.l O.c⟩
 . obtain⟨q,hq,rfl⟩:=OP.mp hr;exact Cc (O.R q hq) O.F M.m0 M.m8 M.x
 . show(mvF _ _ _ _ _).length=_;rw[dA,O.l];show _=(mvH p.h p.w m*mvW p.h p.w m).toNat;rw[e1]
theorem Pd.mv_mv(O:p.Ok)(M:p.May m1 s1)(b0:0<=m2)(b8:m2<8):(p.mv m1 s1).mv m2 s2=p.mv (cmM m1 m2) (cmS s1 s2):=by
 unfold Pd.mv
 try dsimp only
 rw[(Ch M.m0 M.m8 b0 b8).1,(Ch M.m0 M.m8 b0 b8).2,Du O.F M.m0 M.m8 b0 b8 M.x O.l O.c,O4]
 congr 1
 exact Pl λr hr=>Dt (O.R r hr) O.F M.m0 M.m8 b0 b8 M.x
theorem rec_mv:recR (rows.map (mvR h w m ss))=recR rows:=by
 unfold recR;rw[List.any_map];rfl
variable{q:Pd}
theorem Pd.frm_mv(O:p.Ok)(P:q.Ok)(e:p.frm=q.frm)(m:Int)(ss:List Int):(p.mv m ss).frm=(q.mv m ss).frm:=by
 obtain⟨h,w,g,rows,cl⟩:=p;obtain⟨h',w',g',rows',cl'⟩:=q;unfold Pd.frm at e;dsimp only at e;injection e with e1 e2;injection e1 with eh e1;injection e1 with ew eg;injection e2 with er ec;subst eh ew eg ec;unfold Pd.mv Pd.frm
 try dsimp only
 have pm:=Aj er
 have key:((rows.map (mvR h w m ss)).map fT).Perm ((rows'.map (mvR h w m ss)).map fT):=by
  classical
  let fn:List Nat->List Nat:=λt=>if hh:∃ r,r.Ok h w g/\fT r=t then fT (mvR h w m ss hh.choose) else t
  have fe:∀ r:RR,r.Ok h w g->fn (fT r)=fT (mvR h w m ss r):=λr hr=>by
   have hh:∃ r',r'.Ok h w g/\fT r'=fT r:=⟨r,hr,rfl⟩;show(if hh:∃ r',r'.Ok h w g/\fT r'=fT r then fT (mvR h w m ss hh.choose) else fT r)=_;rw[dif_pos hh];exact GI hh.choose_spec.1 hr O.F hh.choose_spec.2
  have a1:(rows.map (mvR h w m ss)).map fT=(rows.map fT).map fn:=by
   rw[O4,O4];exact Pl λr hr=>(fe r (O.R r hr)).symm
  have a2:(rows'.map (mvR h w m ss)).map fT=(rows'.map fT).map fn:=by
   rw[O4,O4];exact Pl λr hr=>(fe r (P.R r hr)).symm
  rw[a1,a2];exact pm.map fn
 rw[FV key]
theorem Pd.frm_rec(O:p.Ok)(P:q.Ok)(e:p.frm=q.frm):p.g=q.g/\recR p.rows=recR q.rows:=by
 have e1:(p.h,p.w,p.g)=(q.h,q.w,q.g):=congrArg Prod.fst e;have eg:p.g=q.g:=congrArg (λx:Int × Int × Int=>x.2.2) e1;have er:srS (p.rows.map fT)=srS (q.rows.map fT):=congrArg (λx:Frm=>x.2.1) e;have pm:=Aj er
 have go:∀{a b:Pd},a.Ok->b.Ok->(a.rows.map fT).Perm (b.rows.map fT)->recR a.rows=true->recR b.rows=true:=λ{a b} A B pm h=>by
  unfold recR at h ⊢;rw[RI]at h ⊢;obtain⟨r,hr,hk⟩:=h;obtain⟨s,hs,es⟩:=OP.mp (pm.mem_iff.mp (List.mem_map_of_mem (f:=fT) hr));exact⟨s,hs,by rw[(Ck (B.R s hs) B.F (A.R r hr) A.F es).1];exact hk⟩
 refine⟨eg,?_⟩;rw[Pw];exact⟨go O P pm,go P O pm.symm⟩
theorem vU{x:Int}(g0:0<=g)(x0:0<=x)(xg:x<=g):exI (plnL g) x=x:=by
 unfold exI;have pl:=dy g0
 split
 . rename_i e;exact e.symm
 . rw[getD_at (show(x-1).toNat < (plnL g).length by omega),rW];omega
theorem yN(g0:0<=g):Exch g (plnL g):=⟨QQ _,g0⟩
theorem Pd.may0(O:p.Ok):p.May 0 (plnL p.g):=⟨by decide,by decide,yN (by have:=O.F.g0;omega),.inl rfl⟩
theorem Pd.mv0(O:p.Ok):(p.mv 0 (plnL p.g)).frm=p.frm:=by
 have g0:0<=p.g:=by have:=O.F.g0;omega
 have w0:=O.F.w0
 have er:(p.rows.map (mvR p.h p.w 0 (plnL p.g))).map fT=p.rows.map fT:=by
  rw[O4];refine Pl λr hr=>?_;have Or:=O.R r hr;have mg:=RR.m67 Or O.F;show fT (mvR p.h p.w 0 (plnL p.g) r)=fT r;unfold fT mvR
  try dsimp only
  rw[vU g0 (by omega) mg,Ry]
  cases ha:allK r.k with
  | true=>rw[O6 rfl,(Or.cl.all ha).1]
  | false=>
   rw[O0 OI]
   have e:mvN p.h p.w 0 r.cs=r.ns:=by
    unfold mvN;rw[(Or.cl.told ha).2.2.2.2,O4]
    conv=>rhs;rw[← QA r.ns]
    refine Pl λx _=>?_;show(mvC p.h p.w 0 (x:Int)).toNat=x;rw[yJ w0];omega
   rw[e]
 have ec:mvF p.h p.w 0 (plnL p.g) p.cl=p.cl:=by
  refine PJ dA λk h1 h2=>?_;have hk:k < (p.h*p.w).toNat:=by rw[← O.l];exact h2
  have t:=pM (ss:=plnL p.g) O.F (show(0:Int)<=0 by decide) (by decide) O.l hk;rw[vS hk,yJ w0,Ry]at t;have cj:=pL O.c h2;rw[vU g0 cj.1 cj.2,getD_at h1,getD_at h2]at t;exact t
 unfold Pd.mv Pd.frm
 try dsimp only
 rw[er,ec];rfl
theorem Pd.may_mv(M:p.May m1 s1)(N:(p.mv m1 s1).May m2 s2):p.May (cmM m1 m2) (cmS s1 s2):=by
 have c:=Ce (m1:=m1) (m2:=m2);refine⟨c.1,c.2,FT M.x N.x,?_⟩;have r2:s2=plnL p.g\/recR p.rows=false:=N.r.imp id λh=>by rw[← h];exact rec_mv.symm
 rcases M.r with e1 | h
 . rcases r2 with e2 | h
   . refine .inl ?_;rw[e1,e2];have g0:=M.x.g0;unfold cmS
     conv=>rhs;rw[← QA (plnL p.g)]
     exact Pl λx hx=>by have:=pln_mem.mp hx;exact vU g0 (by omega) this.2
   . exact .inr h
 . exact .inr h
theorem Pd.back(O:p.Ok)(M:p.May m ss):∃ m' s',(p.mv m ss).May m' s'/\((p.mv m ss).mv m' s').frm=p.frm:=by
 obtain⟨ts,T,e1,_⟩:=FU M.x;obtain⟨k,rfl⟩:=lK M.m0;have i:=FP M.m0 M.m8;have A:=Pb.mp FR k (O5.mpr (by have:=M.m8;omega));rw[QB,Pp,Pp]at A;refine⟨inM (k:Int),ts,⟨i.1,i.2,T,?_⟩,?_⟩
 . rcases M.r with e | h
   . refine .inl ?_;show ts=plnL p.g;rw[← e1,e];have g0:=M.x.g0;unfold cmS;have tl:=T.len;have pl:=dy g0;refine PJ (by rw[OF];omega) λj h1 h2=>?_;rw[QR,rW];unfold exI;rw[O0 (by omega),show((j:Int)+1-1).toNat=j by omega,getD_at h1]
   . exact .inr (by show recR (p.rows.map _)=false;rw[rec_mv];exact h)
 . rw[Pd.mv_mv O M i.1 i.2,A.1,e1];exact Pd.mv0 O
def Pd.Orb(p:Pd)(t:Frm):Prop:=∃ m ss,p.May m ss/\(p.mv m ss).frm=t
theorem Pd.orb_mv(O:p.Ok)(M:p.May m ss){t:Frm}:(p.mv m ss).Orb t↔p.Orb t:=by
 have O1:=Pd.mv_ok O M;constructor
 . rintro⟨m2,s2,N,e⟩;exact⟨_,_,Pd.may_mv M N,by rw[← Pd.mv_mv O M N.m0 N.m8];exact e⟩
 . rintro⟨m2,s2,N,e⟩;obtain⟨m',s',B,eb⟩:=Pd.back O M;have O2:=Pd.mv_ok O1 B;have gr:=Pd.frm_rec O2 O eb;have N2:((p.mv m ss).mv m' s').May m2 s2:=⟨N.m0,N.m8,gr.1 ▸ N.x,by rw[gr.1,gr.2];exact N.r⟩;refine⟨_,_,Pd.may_mv B N2,?_⟩;rw[← Pd.mv_mv O1 B N.m0 N.m8,Pd.frm_mv O2 O eb];exact e
theorem Pd.orb_frm(O:p.Ok)(P:q.Ok)(e:p.frm=q.frm){t:Frm}:p.Orb t↔q.Orb t:=by
 have gr:=Pd.frm_rec O P e;constructor
 . rintro⟨m,ss,N,h⟩;exact⟨m,ss,⟨N.m0,N.m8,gr.1 ▸ N.x,by rw[← gr.1,← gr.2];exact N.r⟩,by rw[← Pd.frm_mv O P e];exact h⟩
 . rintro⟨m,ss,N,h⟩;exact⟨m,ss,⟨N.m0,N.m8,gr.1 ▸ N.x,by rw[gr.1,gr.2];exact N.r⟩,by rw[Pd.frm_mv O P e];exact h⟩
theorem Pd.orb_eq(O:p.Ok)(P:q.Ok)(a:p.Orb q.frm){t:Frm}:p.Orb t↔q.Orb t:=by
 obtain⟨m,ss,M,e⟩:=a;exact(Pd.orb_mv O M).symm.trans (Pd.orb_frm (Pd.mv_ok O M) P e)
theorem Pd.orb_one(O:p.Ok)(P:q.Ok){t:Frm}(a:p.Orb t)(b:q.Orb t):p.Orb q.frm:=by
 obtain⟨m,ss,M,e⟩:=b;have a1:p.Orb (q.mv m ss).frm:=by rw[e];exact a
 exact(Pd.orb_eq O (Pd.mv_ok P M) a1).mpr ((Pd.orb_mv P M).mpr ⟨0,_,Pd.may0 P,Pd.mv0 P⟩)
structure STO{α:Type}(lt:α->α->Bool):Prop where
 irr:∀ a,lt a a=false
 tr:∀ a b c,lt a b=true->lt b c=true->lt a c=true
 tri:∀ a b,lt a b=true\/a=b\/lt b a=true
def lexL{α:Type}[DecidableEq α](lt:α->α->Bool):List α->List α->Bool
 | [],[]=>false
 | [],_::_=>true
 | _::_,[]=>false
 | a::x,b::y=>if a=b then lexL lt x y else lt a b
theorem tU{α:Type}[DecidableEq α]{lt:α->α->Bool}:∀ a,lexL lt a a=false
 | []=>rfl
 | a::x=>by unfold lexL;rw[O6 rfl];exact tU x
theorem yO{α:Type}[DecidableEq α]{lt:α->α->Bool}(S:STO lt):∀ a b,lexL lt a b=true\/a=b\/lexL lt b a=true
 | [],[]=>.inr (.inl rfl)
 | [],_::_=>.inl rfl
 | _::_,[]=>.inr (.inr rfl)
 | a::x,b::y=>by
  unfold lexL;by_cases e:a=b
  . subst e;rw[O6 rfl,O6 rfl];rcases yO S x y with h | h | h
    . exact .inl h
    . exact .inr (.inl (by rw[h]))
    . exact .inr (.inr h)
  . rw[O0 e,O0 (Rk e)];rcases S.tri a b with h | h | h
    . exact .inl h
    . exact absurd h e
    . exact .inr (.inr h)
theorem Ak{α:Type}[DecidableEq α]{lt:α->α->Bool}(S:STO lt):∀ a b c,lexL lt a b=true->lexL lt b c=true->lexL lt a c=true
 | [],[],c,h,_=>by simp[lexL]at h
 | [],_::_,[],_,h=>by simp[lexL]at h
 | [],_::_,_::_,_,_=>rfl
 | _::_,[],_,h,_=>by simp[lexL]at h
 | _::_,_::_,[],_,h=>by simp[lexL]at h
 | a::x,b::y,c::z,h1,h2=>by
  unfold lexL at h1 h2 ⊢;by_cases e1:a=b
  . subst e1;rw[O6 rfl]at h1;by_cases e2:a=c
    . rw[O6 e2]at h2 ⊢;exact Ak S x y z h1 h2
    . rw[O0 e2]at h2 ⊢;exact h2
  . rw[O0 e1]at h1;by_cases e2:b=c
    . subst e2;rw[O0 e1];exact h1
    . rw[O0 e2]at h2;have t:=S.tr a b c h1 h2;by_cases e3:a=c
      . rw[e3,S.irr]at t;cases t
      . rw[O0 e3];exact t
theorem tV{α:Type}[DecidableEq α]{lt:α->α->Bool}(S:STO lt):STO (lexL lt):=⟨tU,Ak S,yO S⟩
def pairL{α β:Type}[DecidableEq α](l1:α->α->Bool)(l2:β->β->Bool)(p q:α × β):Bool:=if p.1=q.1 then l2 p.2 q.2 else l1 p.1 q.1
theorem oG{α β:Type}[DecidableEq α]{l1:α->α->Bool}{l2:β->β->Bool}(S:STO l1)(T:STO l2):STO (pairL l1 l2):=by
 refine⟨λa=>?_,λa b c h1 h2=>?_,λa b=>?_⟩
 . unfold pairL;rw[O6 rfl];exact T.irr _
 . unfold pairL at h1 h2 ⊢;by_cases e1:a.1=b.1
   . rw[O6 e1]at h1;by_cases e2:b.1=c.1
     . rw[O6 e2]at h2;rw[O6 (e1.trans e2)];exact T.tr _ _ _ h1 h2
     . rw[O0 e2]at h2;rw[O0 (by rw[e1];exact e2),e1];exact h2
   . rw[O0 e1]at h1;by_cases e2:b.1=c.1
     . rw[O0 (by rw[← e2];exact e1),← e2];exact h1
     . rw[O0 e2]at h2;have t:=S.tr _ _ _ h1 h2;by_cases e3:a.1=c.1
       . rw[e3,S.irr]at t;cases t
       . rw[O0 e3];exact t
 . unfold pairL;by_cases e:a.1=b.1
   . rw[O6 e,O6 e.symm];rcases T.tri a.2 b.2 with h | h | h
     . exact .inl h
     . exact .inr (.inl (Prod.ext e h))
     . exact .inr (.inr h)
   . rw[O0 e,O0 (Rk e)];rcases S.tri a.1 b.1 with h | h | h
     . exact .inl h
     . exact absurd h e
     . exact .inr (.inr h)
theorem EN:STO λa b:Nat=>decide (a<b):=⟨λa=>by simp,λa b c=>by simp;omega,λa b=>by simp;omega⟩
theorem rX:STO λa b:Int=>decide (a<b):=⟨λa=>by simp,λa b c=>by simp;omega,λa b=>by simp;omega⟩
def ltI(a b:Int):Bool:=decide (a<b)
def ltF:Frm->Frm->Bool:=pairL (pairL ltI (pairL ltI ltI)) (pairL (lexL (lexL λa b:Nat=>decide (a<b))) (lexL ltI))
theorem ltF_sto:STO ltF:=oG (oG rX (oG rX rX)) (oG (tV (tV EN)) (tV rX))
def Lst(L:List Frm)(m:Frm):Prop:=m∈L/\∀ x∈L,ltF x m=false
theorem Lst.uniq{L K:List Frm}{m n:Frm}(a:Lst L m)(b:Lst K n)(e:∀ t,t∈L↔t∈K):m=n:=by
 have h1:=a.2 n ((e n).mpr b.1);have h2:=b.2 m ((e m).mp a.1);rcases ltF_sto.tri m n with h | h | h
 . rw[h]at h2;cases h2
 . exact h
 . rw[h]at h1;cases h1
theorem Dv{L:List Frm}{bt:Nat->Nat->Bool}{d:Frm}(hb:∀ i j,i<L.length->j<L.length->bt i j=ltF (L.getD i d) (L.getD j d))(ne:0<L.length):argBest bt (L.length-1)<L.length/\Lst L (L.getD (argBest bt (L.length-1)) d):=by
 have go:∀ k,k<L.length->argBest bt k<=k/\∀ i,i<=k->ltF (L.getD i d) (L.getD (argBest bt k) d)=false:=by
  intro k
  induction k with
  | zero=>intro _;exact⟨OQ _,λi hi=>by rw[show i=0 by omega];exact ltF_sto.irr _⟩
  | succ k ih=>
   intro hk;obtain⟨a,b⟩:=ih (by omega);show(if bt (k+1) (argBest bt k) then k+1 else argBest bt k)<=k+1/\∀ i,i<=k+1->ltF (L.getD i d) (L.getD (if bt (k+1) (argBest bt k) then k+1 else argBest bt k) d)=false;have e:=hb (k+1) (argBest bt k) hk (by omega)
   cases hc:bt (k+1) (argBest bt k) with
   | true=>
    rw[hc]at e;rw[O6 rfl];refine⟨OQ _,λi hi=>?_⟩;rcases Qo k i with h | h
    . rw[show i=k+1 by omega];exact ltF_sto.irr _
    . have:=b i h
      cases hq:ltF (L.getD i d) (L.getD (k+1) d) with
      | false=>rfl
      | true=>rw[ltF_sto.tr _ _ _ hq e.symm]at this;cases this
   | false=>
    rw[hc]at e;rw[O0 OI];refine⟨by omega,λi hi=>?_⟩;rcases Qo k i with h | h
    . rw[show i=k+1 by omega];exact e.symm
    . exact b i h
 obtain⟨a,b⟩:=go (L.length-1) (by omega);refine⟨by omega,?_,λx hx=>?_⟩
 . rw[List.getD,OG (by omega)];exact Pt _
 . obtain⟨i,hi,rfl⟩:=List.getElem_of_mem hx;have:=b i (by omega);rw[List.getD,OG hi]at this;exact this
section
variable{X:Cx}
theorem AT{ss:List Str}:∀{us:List Value},Vals (ss.map V.str) us->StrsAre us ss:=by
 induction ss with
 | nil=>intro us h;cases h;exact .nil
 | cons x ss ih=>
  intro us h
  cases h with
  | cons r t=>
   obtain⟨k,rfl⟩:=r;exact .cons x k (ih t)
theorem Cm{ss:List Str}{us:List Value}(h:StrsAre us ss):Vals (ss.map V.str) us:=by
 induction h with
 | nil=>exact .nil
 | cons y t _ ih=>exact .cons ⟨t,rfl⟩ ih
def lc:List V->Hp->VK->Prop
 | [.ref p],H,Q=>bnd (unL (H p)) λys=>∃ ss:List Str,ys=ss.map V.str/\ss.length<64/\∀(ss':List Str) l,H l=none->ss'.Perm ss->sortedS ss'=true->Q (.ref l) (upd H l (.lst (ss'.map V.str)))
 | _,_,_=>False
theorem qC:CallR X (.builtin "sorted") lc:=by
 intro Ox s σ H xs us Q I r h;unfold lc at h
 split at h
 . rename_i p
   obtain⟨ys,e,ss,rfl,OC,q⟩:=aZ h;obtain⟨u,rfl,ru⟩:=dh r;cases ru;obtain⟨OA,rv,pl,hz⟩:=I.list (pp e);have hS:StrsAre OA ss:=AT rv;have hl:=rv.length;rw[OF]at hl;refine sorted_strs pl.isList hS (by omega) λout ss' hS' hp hs=>?_;have old:∀ b o,s.heap.get? b=some o->(sortedAll s.heap OA out).get? b=some o:=λb o e=>sortedAll_old e;obtain⟨n,at_⟩:=sortedAll_at s.heap OA out;have hfresh:H (s.heap.objs.size+1)=none:=I.hok.fresh (Qz _)
   have hlen':(ss'.map V.str).length<=sizeLine:=by
    rw[OF,hp.length_eq];exact PD (Te OC (by decide))
   refine⟨.ref (s.heap.objs.size+1),_,I.laid (t':=s.toks) (a:=s.heap.objs.size+1) (o:=.lst (ss'.map V.str)) old (Qz _) ⟨hlen',out.toList,n,Cm hS',?_⟩,rfl,q ss' _ hfresh hp hs⟩;rw[at_]
 . exact h.elim
end
def gO:List Str:=[tx [117,110,108,105,107,101],tx [115,117,109],tx [99,111,117,110,116]]
theorem FW(k:RK):decide (tx (nmC k)∈gO)=fK k:=by cases k <;> decide+kernel
def il(K:Frag)(c:RCl RK):Sp:=λvs H Q _=>∃(r p:Addr) (x:RR) (h w g:Int),vs=[.ref r]/\IsRule H c x.k r p x.ws x.cs x.n x.m/\x.Ok h w g/\FlOk h w g/\∀ H',Same H H'->Q (.str (tx (fT x))) H'
def gP(K:Frag)(c:RCl RK):TS:=
 by exists ":l,'tba1aAi:'w'xbi0caAi:'y'zbi0ca2c"
def nI(K:Frag)(c:RCl RK):TS:=
 by exists ":gkAi:'u'vbi0ch#1 gk'mC~f{HG1q~PaAi:~Q~Rbi0ccAi:~Q~Rbi0ch#2 {Ibi"
variable{g:Int}
theorem GJ{x:RR}{h w:Int}(O:x.Ok h w g):fT x=catL 32 (lnW x.k x.n x.m (fNs x.k x.ns)):=by
 unfold fT lnW
 cases ha:allK x.k with
 | true=>
  rw[O6 rfl,(O.cl.all ha).1];have hf:fK x.k=false:=by revert ha;cases x.k <;> decide
  unfold fNs;rw[hf,O0 OI]
 | false=>rw[O0 OI]
variable{K:Frag}{c:RCl RK}{vs:List V}{H:Hp}{Q:VK}{E:XK}
theorem yP(h:il K c vs H Q E):nI K c {nx:=λ_ H'=>Q .non H',rt:=Q} (start ["rule","name","cells"] vs) H:=by
 obtain⟨r,p,x,h,w,g,rfl,x1,O,F,q⟩:=h;obtain⟨dx,Wd,Cd,h1,h2,h3⟩:=x1.ex;have inn:=RR.in67 O;have m16:=F.m;have cl16:=RR.len67 O F;have m100:=RR.m100 O F;have n99:=O.n0
 have cn:x.cs=(x.cs.map Int.toNat).map λ(n:Nat)=>(n:Int):=by
  rw[O4]
  conv=>lhs;rw[← QA x.cs]
  exact Pl λy hy=>by have:=(inn y hy).1;show y=((y.toNat:Nat):Int);omega
 show nI K c _ [some (.ref r),none,none] H
 have fin:∀(l:Addr) (zs:List Nat) (H1:Hp),Same H H1->H1 l=some (.lst ((zs.map λ(n:Nat)=>(n:Int)).map V.int))->zs.length<=16->(∀ z∈zs,z<100)->lnW x.k x.n x.m zs=lnW x.k x.n x.m (fNs x.k x.ns)->gP K c {nx:=λ_ H'=>Q .non H',rt:=Q} [some (.ref r),some (.str (tx (nmC x.k))),some (.ref l)] H1:=λl zs H1 s1 el zl zb ez=>by
  have y1:=x1.same s1;obtain⟨dx,Wd,Cd,h1,h2,h3⟩:=y1.ex;unfold gP;symm;refine methE (k:=x.k) rfl y1.ok h1 (by rfl) ?_;symm;refine⟨r,p,_,x.cs,x.n,x.m,rfl,y1,?_⟩;symm;refine methE (k:=x.k) rfl y1.ok h1 (by rfl) ?_;symm;refine⟨r,p,_,x.cs,x.n,x.m,rfl,y1,?_⟩;symm;refine⟨x.k,x.n,x.m,l,zs,rfl,n99,by omega,el,zl,zb,λH2 s2=>?_⟩;rw[ez,← GJ O];exact q H2 (s1.trans s2)
 have told:allK x.k=false->x.cs.map Int.toNat=x.ns:=λha=>by
  rw[(O.cl.told ha).2.2.2.2,O4]
  conv=>rhs;rw[← QA x.ns]
  exact Pl λy _=>by show((y:Int)).toNat=y;omega
 unfold nI;generalize hW:gP K c=W at*;symm;refine methE (k:=x.k) rfl x1.ok h1 (by rfl) ?_;symm;refine⟨r,p,nmC x.k,_,x.cs,x.n,x.m,rfl,x1,?_⟩;symm;rw[FW]
 cases hf:fK x.k with
 | true=>
  refine iteT ?_;have ha:allK x.k=false:=by revert hf;cases x.k <;> decide
  refine methE (k:=x.k) rfl x1.ok h1 (by rfl) ?_;symm;refine⟨r,p,_,x.cs,x.n,x.m,rfl,x1,λl hl=>?_⟩;obtain⟨H1,z9,s1,el⟩:=aX (.lst (x.cs.map V.int)) hl;rw[z9];refine tq el (by omega) λns' l2 hl2 pm up=>?_;have s2:=s1.laid (o:=.lst (ns'.map V.int)) hl2;have z0:∀ z∈ns',0<=z:=λz hz=>(inn z (pm.mem_iff.mp hz)).1
  have e1:ns'=(ns'.map Int.toNat).map λ(n:Nat)=>(n:Int):=by
   rw[O4]
   conv=>lhs;rw[← QA ns']
   exact Pl λy hy=>by have:=z0 y hy;show y=((y.toNat:Nat):Int);omega
  have e2:ns'.map Int.toNat=srN x.ns:=by
   refine rT (((pm.map Int.toNat).trans (by rw[told ha])).trans (cF x.ns).symm) ?_ (uN _);exact Qw.mpr (Qn (λ{a b} ha' hb' hab=>by have:=z0 a ha';have:=z0 b hb';omega) up)
  symm;subst hW;refine fin l2 (ns'.map Int.toNat) _ s2 (by rw[ag,← e1]) ?_ (λz hz=>?_) ?_
  . rw[OF,pm.length_eq];exact cl16
  . rw[e2]at hz;exact O.ns0 z ((cF _).mem_iff.mp hz)
  . unfold fNs;rw[hf,O6 rfl,e2]
 | false=>
  refine iteF ?_;refine methE (k:=x.k) rfl x1.ok h1 (by rfl) ?_;symm;refine⟨r,p,_,x.cs,x.n,x.m,rfl,x1,λl hl=>?_⟩;have s1:Same H (upd H l (.lst (x.cs.map V.int))):=(OL H).laid hl;symm;subst hW;refine fin l (x.cs.map Int.toNat) _ s1 (by rw[ag,← cn]) (by rw[OF];exact cl16) (λz hz=>?_) ?_
  . obtain⟨y,hy,rfl⟩:=OP.mp hz;have:=inn y hy;omega
  . cases ha:allK x.k with
    | true=>unfold lnW;rw[ha,O6 rfl,O6 rfl]
    | false=>
     unfold fNs;rw[hf,O0 OI,told ha]
theorem D5:∀{a b:List Nat},ltCps b a=false->leL a b=true
 | [],_,_=>rfl
 | _::_,[],h=>by simp[ltCps]at h
 | a::x,b::y,h=>by
  simp[ltCps]at h;simp[leL];rcases Rf a b with l | l | l
  . exact .inl l
  . exact .inr ⟨l,D5 (h.2 l.symm)⟩
  . omega
theorem Cn:∀{p:Str} {l:List Str},risingS p l=true->ltCps ((l.head?.getD p).cps.toList) p.cps.toList=false/\sortedS l=true
 | p,[],_=>⟨by
  show ltCps p.cps.toList p.cps.toList=false
  have:∀ l:List Nat,ltCps l l=false:=λl=>by
   induction l with
   | nil=>rfl
   | cons a x ih=>simp[ltCps,ih]
  exact this _,rfl⟩
 | p,x::r,h=>by
  have h:(!ltCps x.cps.toList p.cps.toList&&risingS x r)=true:=h;rw[QB,Se]at h;exact h
theorem wR:∀{ls:List (List Nat)},sortedS (ls.map tx)=true->ls.Pairwise λa b=>leL a b=true
 | [],_=>.nil
 | [x],_=>List.pairwise_singleton _ _
 | x::y::r,h=>by
  obtain⟨h1,h2⟩:=Cn (p:=tx x) (l:=tx y::r.map tx) h;have ih:=wR (ls:=y::r) h2;have xy:leL x y=true:=D5 (by have h1:ltCps (tx y).cps.toList (tx x).cps.toList=false:=h1;rw[ka,ka]at h1;exact h1);refine PL.mpr ⟨λz hz=>?_,ih⟩;rcases OM.mp hz with rfl | hz
  . exact xy
  . exact yL xy ((PL.mp ih).1 z hz)
variable{p:Addr}
theorem Al{ls:List (List Nat)}(hp:H p=some (.lst ((ls.map tx).map V.str)))(hn:ls.length<64)(h:∀ l,H l=none->Q (.ref l) (upd H l (.lst (((srS ls).map tx).map V.str)))):lc [.ref p] H Q:=by
 unfold lc
 try dsimp only
 rw[hp];refine⟨ls.map tx,rfl,by rw[OF];exact hn,λss' l hl pm so=>?_⟩
 have e1:ss'=(ss'.map λx=>x.cps.toList).map tx:=by
  rw[O4]
  conv=>lhs;rw[← QA ss']
  exact Pl λx _=>(DS x).symm
 have e2:ss'.map (λx=>x.cps.toList)=srS ls:=by
  have p2:=pm.map λx:Str=>x.cps.toList;rw[O4]at p2
  have e3:ls.map ((λx:Str=>x.cps.toList) ∘ tx)=ls:=by
   conv=>rhs;rw[← QA ls]
   exact Pl λx _=>ka x
  rw[e3]at p2;exact tT (p2.trans (ik ls).symm) (wR (by rw[← e1];exact so)) (yM ls)
 have:=h l hl;rw[← e2,← e1]at this;exact this
theorem D6{r:RR}{h w:Int}(O:r.Ok h w g)(F:FlOk h w g):PyData.strOk (tx (fT r))=true:=by
 have n1:r.n<100:=by have:=O.n0;omega
 have m1:=RR.m100 O F;refine AM (yB λw hw c hc=>?_);unfold rowW at hw;rcases OM.mp hw with rfl | hw
 . revert c;cases r.k <;> decide
 . rcases OY.mp hw with hw | hw
   . rcases OY.mp hw with hw | hw
     . split at hw
       . rw[OR.mp hw]at hc;have:=mI n1 c hc;omega
       . cases hw
     . split at hw
       . rw[OR.mp hw]at hc;have:=mI m1 c hc;omega
       . cases hw
   . obtain⟨a,ha,rfl⟩:=OP.mp hw;have:=mI (qW (k:=r.k) O.ns0 a ha) c hc;omega
structure IsFm(H:Hp)(T p L C:Addr)(f:Frm):Prop where
 T:H T=some (.tup [.ref p,.ref L,.ref C])
 p:IsFl H p f.1.1 f.1.2.1 f.1.2.2
 L:H L=some (.lst ((f.2.1.map tx).map V.str))
 C:H C=some (.lst (f.2.2.map V.int))
 ok:∀ l∈f.2.1,PyData.strOk (tx l)=true
theorem IsFm.same{H':Hp}{T L C:Addr}{f:Frm}(X:IsFm H T p L C f)(s:Same H H'):IsFm H' T p L C f:=⟨s _ _ X.T,s _ _ X.p,s _ _ X.L,s _ _ X.C,X.ok⟩
def cV(K:Frag)(c:RCl RK)(d:RCl PzK):Sp:=λvs H Q _=>∃(P L G:Addr) (h w g:Int) (rows:List RR) (cl:List Int),vs=[.ref P]/\IsPz H c d P L G h w g rows cl/\∀(T p L C:Addr) (H':Hp),Same H H'->H T=none->H L=none->H C=none->L≠C->IsFm H' T p L C (Pd.frm ⟨h,w,g,rows,cl⟩)->Q (.ref T) H'
def vV(K:Frag)(c:RCl RK)(d:RCl PzK):TS:=
 by exists ":lwaAjE~c~dbij0caq'BaD&-- zbAjE~S~Tbij0ch#1 B,{Jbia1ccaAjE~o~pbij0cc"
variable{d:RCl PzK}
theorem EO(h:cV K c d vs H Q E):vV K c d {nx:=λ_ H'=>Q .non H',rt:=Q} (start ["puzzle"] vs) H:=by
 obtain⟨P,L,G,h,w,g,rows,cl,rfl,X,q⟩:=h;obtain⟨dx,p0,rs,h1,h2,h3⟩:=X.ex;have F:=X.R.F;have rn:=X.R.n;show vV K c d _ [some (.ref P)] H;unfold vV;symm;refine methE (k:=.Puzzle) rfl X.ok h1 (by rfl) ?_;symm;refine⟨P,L,G,h,w,g,rows,cl,rfl,X,λp hp=>?_⟩;symm;refine methE (k:=.Puzzle) rfl X.ok h1 (by rfl) ?_;symm;refine⟨P,L,G,h,w,g,rows,cl,rfl,X,λl p2 rs2 hl hp2 Y=>?_⟩;have s1:Same H (upd H l (.lst (rs2.map V.ref))):=(OL H).laid hl;generalize upd H l (.lst (rs2.map V.ref))=H1 at*;have yl:=Y.len;refine⟨l,rfl,⟨_,Pc Y.top⟩,?_⟩;refine bn (xs:=rs2.map V.ref) (λ_=>true) (λi=>.str ((rows[i]?.map λr=>tx (fT r)).getD (tx []))) (by rw[OF];omega) (Pc Y.top) ?_ ?_ ?_
 . intro i y H2 R hy s2 k2;exact k2 _ (OL _)
 . intro i y H2 Q2 hy hb s2 k2;obtain⟨b,hb2,rfl⟩:=bq hy;have hi:i<rs2.length:=(OK.mp hb2).1;have er:rows[i]? =some rows[i]:=OG (by omega);rw[er]at k2;show tCall _ _ _ _ [none,some (.ref b)] H2 Q2;symm;exact⟨b,p2,rows[i],h,w,g,rfl,(Y.at_ i b _ hb2 er).same s2,X.R.ok _ (Pt _),F,λH' s3=>k2 H' s3⟩
 . intro M H2 hM s2 eM
   have et:((List.range (rs2.map V.ref).length).filter λ_=>true).map (λi=>V.str ((rows[i]?.map λr=>tx (fT r)).getD (tx [])))=((rows.map fT).map tx).map V.str:=by
    rw[aU,OF,O4,O4,yl];refine PJ (by simp) λi h1 h2=>?_;have hi:i<rows.length:=by simpa using h2
    simp[OG hi]
   rw[et]at eM;have s12:=s1.trans s2;symm;refine Al eM (by rw[OF];omega) λL2 hL2=>?_;obtain⟨H3,z9,s3,eL⟩:=aX (.lst (((srS (rows.map fT)).map tx).map V.str)) hL2;rw[z9];have s13:=s12.trans s3;have X3:=X.same s13;obtain⟨dx3,p03,rs3,h13,_,_⟩:=X3.ex;symm;refine methE (k:=.Puzzle) rfl X.ok h13 (by rfl) ?_;symm;refine⟨P,L,G,h,w,g,rows,cl,rfl,X3,λf hf=>?_⟩;have s4:Same H3 (upd H3 f (.lst (cl.map V.int))):=(OL H3).laid hf;have ef:(upd H3 f (.lst (cl.map V.int))) f=some (.lst (cl.map V.int)):=ag;have nL:L2≠f:=λe=>by rw[← e,eL]at hf;cases hf
   generalize upd H3 f (.lst (cl.map V.int))=H4 at*;refine⟨lnR rfl,λT hT=>?_⟩;have s14:=s13.trans s4;have s5:Same H4 (upd H4 T (.tup [.ref p,.ref L2,.ref f])):=(OL H4).laid hT
   exact q T p L2 f _ (s14.trans s5) (s14.free hT) (s12.free hL2) (s13.free hf) nL ⟨ag,(s14.trans s5) _ _ hp,(s4.trans s5) _ _ eL,s5 _ _ ef,λt ht=>by
    obtain⟨r,hr,rfl⟩:=OP.mp ((ik _).mem_iff.mp ht);exact D6 (X.R.ok r hr) F⟩
theorem Dw{α:Type}(F:Int->α)(ss:List Int):(List.range ss.length).map (λi=>F (ss.getD i 0))=ss.map F:=by
 refine Qi λi=>?_;rw[OH,OH];by_cases h:i<ss.length
 . rw[PC h,OG h];simp[List.getD,h]
 . rw[Ph (by simpa using h),Ph (by omega)];rfl
def extL(fs:List (List Int))(ss:List Int):List (List Int):=fs.flatMap λf=>ss.map λs=>f++[s]
def io(sss:List (List Int)):List (List Int):=sss.foldl extL [[]]
def prodL(sss:List (List Int)):Nat:=sss.foldl (λn ss=>n*ss.length) 1
theorem tW(ss:List Int):∀ fs:List (List Int),(extL fs ss).length=fs.length*ss.length
 | []=>by simp[extL]
 | f::r=>by
  have ih:=tW ss r;unfold extL at ih ⊢;rw[List.flatMap_cons,OU,ih,OF,Pq,Rx,Nat.add_comm]
theorem Dx(fs gs:List (List Int))(ss:List Int):extL (fs++gs) ss=extL fs ss++extL gs ss:=by
 unfold extL;rw[RU]
theorem yQ(f:List Int)(ss:List Int):extL [f] ss=ss.map λs=>f++[s]:=by
 unfold extL;simp
theorem yR:∀(sss fs:List (List Int)),(sss.foldl extL fs).length=sss.foldl (λn ss=>n*ss.length) fs.length
 | [],_=>rfl
 | ss::r,fs=>by
  rw[QF,yR r,QF,tW]
theorem uP(sss:List (List Int)):(io sss).length=prodL sss:=yR sss [[]]
theorem Am:∀(sss:List (List Int)) (n:Nat),(∀ ss∈sss,1<=ss.length)->n<=sss.foldl (λn ss=>n*ss.length) n
 | [],_,_=>OQ _
 | ss::r,n,h=>by
  rw[QF];exact O7 (Nat.le_mul_of_pos_right n (h ss OV)) (Am r _ λx hx=>h x (OT _ hx))
variable{sss:List (List Int)}
theorem Co(i:Nat)(h:∀ ss∈sss,1<=ss.length):prodL (sss.take i)<=prodL sss:=by
 have e:prodL sss=(sss.drop i).foldl (λn ss=>n*ss.length) (prodL (sss.take i)):=by
  unfold prodL;rw[← Sh,List.take_append_drop]
 rw[e];exact Am _ _ λx hx=>h x (RN hx)
variable{i:Nat}
theorem lL{α:Type}{l:List α}{x:α}(h:l[i]? =some x):l.take (i+1)=l.take i++[x]:=by
 rw[Ri,h];rfl
variable{ss:List Int}
theorem Cp(h:sss[i]? =some ss):io (sss.take (i+1))=extL (io (sss.take i)) ss:=by
 unfold io;rw[lL h,Sh];rfl
theorem Dy(h:sss[i]? =some ss):prodL (sss.take (i+1))=prodL (sss.take i)*ss.length:=by
 unfold prodL;rw[lL h,Sh];rfl
theorem wS:∀(sss fs:List (List Int)) (n:Nat),(∀ f∈fs,f.length=n)->∀ f∈sss.foldl extL fs,f.length=n+sss.length
 | [],_,_,h,f,hf=>h f hf
 | ss::r,fs,n,h,f,hf=>by
  have:=wS r (extL fs ss) (n+1) (λf hf=>by
   unfold extL at hf;obtain⟨g,hg,hf⟩:=Sv.mp hf;obtain⟨s,_,rfl⟩:=OP.mp hf;rw[OU,h g hg];rfl) f hf
  rw[this,Pq];omega
variable{f:List Int}
theorem uQ(h:f∈io sss):f.length=sss.length:=by
 have:=wS sss [[]] 0 (λf hf=>by rw[OR.mp hf];rfl) f h;omega
variable{l:Addr}{as:List Addr}{OB:List (List Int)}
theorem IsLL.app{bs:List Addr}{yss:List (List Int)}(x:IsLL H l as OB)(nl:l∉as)(nb:l∉bs)(len:bs.length=yss.length)(at2:∀(j:Nat) (a:Addr) (ys:List Int),bs[j]? =some a->yss[j]? =some ys->H a=some (.lst (ys.map V.int))):
  IsLL (upd H l (.lst (as.map V.ref++bs.map V.ref))) l (as++bs) (OB++yss):=by
 have hx:=x.len;refine⟨by rw[ag,PB],by rw[OU,OU,x.len,len],λj a ys h1 h2=>?_⟩;by_cases hj:j<as.length
 . rw[O9 hj]at h1;rw[O9 (by omega)]at h2;have ne:a≠l:=λz=>nl (z ▸ ON h1);rw[ah ne];exact x.at_ j a ys h1 h2
 . rw[O8 (by omega)]at h1;rw[O8 (by omega)]at h2;have ne:a≠l:=λz=>nb (z ▸ ON h1);rw[ah ne];exact at2 _ a ys h1 (by rw[hx];exact h2)
theorem IsLL.get{a:Addr}(x:IsLL H l as OB)(h:as[i]? =some a):∃ xs,OB[i]? =some xs/\H a=some (.lst (xs.map V.int)):=by
 have hi:=(OK.mp h).1;have e:OB[i]? =some (OB[i]'(by have:=x.len;omega)):=OG _;exact⟨_,e,x.at_ i a _ h e⟩
theorem wT{n:Nat}(h:n<=1100):n<sizeLine:=PK h (by decide)
theorem qX{q:Addr}{xs ys:List V}(hp:H p=some (.lst xs))(hq:H q=some (.lst ys))(hn:xs.length+ys.length<=1100)(h:Q .non (upd H p (.lst (xs++ys)))):jS (.ref p) [.ref q] H Q:=by
 show bnd (unM (H p)) _;rw[hp];show bnd (unM (H q)) _;rw[hq];exact⟨PD (wT hn),h⟩
variable{H1:Hp}{fin:Addr->Hp->Prop}
theorem Dz {S f:Addr} {xs:List Int} (hS:H1 S=some (.lst (ss.map V.int))) (hf:H1 f=some (.lst (xs.map V.int))) (hs:ss.length<=100) (hx:xs.length<=16)
  (hd:∀ m as H',H1 m=none->Same H1 H'->H' m=some (.lst (as.map V.ref))->NewAt H1 H' m as (ss.map λs=>.lst ((xs++[s]).map V.int))->fin m H'):
  CompR (Itl K S) (gName 1) tTrue (tOp cAdd (tVar 2) (tLst (tCons (tVar 1) tNil))) fin [none,none,some (.ref f)] H1:=by
 refine uq (xs:=ss.map V.int) (λ_=>true) (λi=>.lst ((xs++[ss.getD i 0]).map V.int)) (by rw[OF];omega) (Pc hS) ?_ ?_ ?_
 . intro i x H R hx s1 k1;exact k1 _ (OL _)
 . intro i x H Q hi hb s1 k1;obtain⟨z,hz,rfl⟩:=cp hi;rw[jU hz]at k1;show tOp cAdd _ _ [none,some (.int z),some (.ref f)] H Q;symm;refine⟨lnR rfl,λt ht=>?_⟩;have s2:Same H (upd H t (.lst [V.int z])):=(OL H).laid ht;refine pE (s2 _ _ (s1 _ _ hf)) ag (by simp;omega) λr hr=>?_;exact k1 r _ (s2.trans ((OL _).laid hr)) (s2.free hr) (by rw[ag];simp)
 . intro m as H hm s1 e nw;refine hd m as H hm s1 e ?_;rw[aU,OF,Dw (λs=>HO.lst ((xs++[s]).map V.int))]at nw;exact nw
theorem DA{H0 H2:Hp}{m:Addr}{bs:List Addr}{xs:List Int}(x:IsLL H1 l as OB)(nl:l∉as)(s0:Same H0 H1)(hl:H0 l=none)(fr:∀ b∈as,H0 b=none)(s1:Same H1 H2)(nw:NewAt H1 H2 m bs (ss.map λs=>.lst ((xs++[s]).map V.int))):
  IsLL (upd H2 l (.lst (as.map V.ref++bs.map V.ref))) l (as++bs) (OB++extL [xs] ss)/\l∉as++bs/\(∀ b∈as++bs,H0 b=none):=by
 have nb:l∉bs:=λh=>by have:=nw.fr l h;rw[x.top]at this;cases this
 refine⟨?_,?_,?_⟩
 . refine(x.same s1).app nl nb (by rw[nw.len,yQ,OF,OF]) λj a ys h1 h2=>?_;refine nw.at_ j a _ h1 ?_;rw[yQ,OH]at h2;rw[OH]
   cases e:ss[j]? with
   | none=>rw[e]at h2;cases h2
   | some s=>rw[e]at h2;cases h2;rfl
 . intro h;rcases OY.mp h with h | h
   . exact nl h
   . exact nb h
 . intro b h;rcases OY.mp h with h | h
   . exact fr b h
   . exact s0.free (nw.fr b h)
def ip(K:Frag):Sp:=λvs H Q _=>∃(F S:Addr) (as:List Addr) (fss:List (List Int)) (ss:List Int),vs=[.ref F,.ref S]/\IsLL H F as fss/\H S=some (.lst (ss.map V.int))/\fss.length*ss.length<=1100/\ss.length<=100/\(∀ f∈fss,f.length<=16)/\
 ∀(l:Addr) (bs:List Addr) (H':Hp),Same H H'->H l=none->IsLL H' l bs (extL fss ss)->l∉bs->(∀ b∈bs,H b=none)->Q (.ref l) H'
def nJ(K:Frag):TS:=
 by exists ":gkvch#2 gJzb0h#3 HFbI~D2aD&--3 zb1h#1 Ber2va1ccl2"
theorem yS(h:ip K vs H Q E):nJ K {nx:=λ_ H'=>Q .non H',rt:=Q} (start ["fillings","signs","found","filling"] vs) H:=by
 obtain⟨F,S,as,fss,ss,rfl,x,hS,hn,hs,hf,q⟩:=h;show nJ K _ [some (.ref F),some (.ref S),none,none] H;unfold nJ;symm;refine⟨lnR rfl,λl hl=>?_⟩;obtain⟨H1,z9,s1,el⟩:=aX (.lst []) hl;rw[z9];refine⟨⟨_,Pc (s1 _ _ x.top)⟩,?_⟩
 refine kO (K:=K) (xs:=as.map V.ref) (λi σ H'=>∃(v:Option V) (bs:List Addr),σ=[some (.ref F),some (.ref S),some (.ref l),v]/\Same H H'/\IsLL H' l bs (extL (fss.take i) ss)/\l∉bs/\∀ b∈bs,H b=none)
  ⟨none,[],rfl,s1,⟨el,rfl,λj a xs h1=>by simp at h1⟩,by simp,λb hb=>nomatch hb⟩ (λi σ H' _ ⟨_,_,_,s,_⟩=>s.seq (Pc x.top)) ?_ ?_
 . rintro i y σ H2 hy ⟨v,bs,rfl,s2,x2,nl,fr⟩;obtain⟨f,hfa,rfl⟩:=bq hy;obtain⟨xs,ex,ef⟩:=x.get hfa;symm;refine⟨bA x2.top,⟨_,Pc (s2 _ _ hS)⟩,?_⟩;refine Dz (ss:=ss) (xs:=xs) (s2 _ _ hS) (s2 _ _ ef) hs (hf xs (ON ex)) λm cs H3 hm s3 em nw=>?_
   have hb:bs.length+cs.length<=1100:=by
    have l1:=x2.len;rw[tW,PV]at l1;have l2:=nw.len;rw[OF]at l2;have hi:=(OK.mp ex).1;have e1:min i fss.length=i:=by omega
    rw[e1]at l1;have:=RM ss.length (show i+1<=fss.length by omega);rw[Rx]at this;omega
   refine qX (s3 _ _ x2.top) em (by rw[OF,OF];exact hb) ?_;obtain⟨z1,z2,z3⟩:=DA x2 nl s2 hl fr s3 nw;refine⟨_,bs++cs,rfl,(s2.trans s3).own hl,?_,z2,z3⟩;rw[lL ex,Dx];exact z1
 . rintro σ H2 ⟨v,bs,rfl,s2,x2,nl,fr⟩;symm;have e:fss.take (as.map V.ref).length=fss:=PR (by rw[OF,x.len];exact OQ _);rw[e]at x2;exact q l bs H2 s2 hl x2 nl fr
def dg(K:Frag):Sp:=λvs H Q _=>∃(A:Addr) (as:List Addr) (sss:List (List Int)),vs=[.ref A]/\IsLL H A as sss/\sss.length<=16/\(∀ ss∈sss,1<=ss.length/\ss.length<=100)/\prodL sss<=1100/\
 ∀(l:Addr) (bs:List Addr) (H':Hp),Same H H'->H l=none->IsLL H' l bs (io sss)->l∉bs->(∀ b∈bs,H b=none)->Q (.ref l) H'
def jJ(K:Frag):TS:=
 by exists ":gkvavcch#1 gJzb0h#2 k,{Kba1a2ch#1 l1"
theorem tX(h:dg K vs H Q E):jJ K {nx:=λ_ H'=>Q .non H',rt:=Q} (start ["signs_by_cell","fillings","signs"] vs) H:=by
 obtain⟨A,as,sss,rfl,x,h16,hs,hp,q⟩:=h;show jJ K _ [some (.ref A),none,none] H;unfold jJ;symm;refine⟨lnR rfl,λe he=>?_⟩;obtain⟨H1,z9,s1,ee⟩:=aX (.lst []) he;rw[z9];refine⟨lnR rfl,λl hl=>?_⟩;have s2:Same H1 (upd H1 l (.lst [V.ref e])):=(OL H1).laid hl;have el:(upd H1 l (.lst [V.ref e])) l=some (.lst [V.ref e]):=ag;have nle:l≠e:=λz=>by rw[z,ee]at hl;cases hl
 generalize upd H1 l (.lst [V.ref e])=H2 at*;have s12:=s1.trans s2;refine⟨⟨_,Pc (s12 _ _ x.top)⟩,?_⟩
 refine kO (K:=K) (xs:=as.map V.ref) (λi σ H'=>∃(l:Addr) (v:Option V) (bs:List Addr),σ=[some (.ref A),some (.ref l),v]/\Same H H'/\H l=none/\IsLL H' l bs (io (sss.take i))/\l∉bs/\∀ b∈bs,H b=none)
  ⟨l,none,[e],rfl,s12,s1.free hl,⟨el,rfl,λj a xs h1 h2=>?_⟩,by simpa using nle,λb hb=>by rw[OR.mp hb];exact he⟩ (λi σ H' _ ⟨_,_,_,_,s,_⟩=>s.seq (Pc x.top)) ?_ ?_
 . have hj:j=0:=by have:=(OK.mp h1).1;simp at this;omega
   subst hj;cases h1;cases h2;exact s2 _ _ ee
 . rintro i y σ H3 hy ⟨l,v,bs,rfl,s3,hl,x3,nl,fr⟩;obtain⟨S,hSa,rfl⟩:=bq hy;obtain⟨ss,es,eS⟩:=x.get hSa;have hss:=hs ss (ON es);symm;refine⟨l,S,bs,_,ss,rfl,x3,s3 _ _ eS,?_,hss.2,?_,λl' cs H4 s4 hl4 x4 nl4 fr4=>?_⟩
   . rw[uP,← Dy es];exact O7 (Co _ λz hz=>(hs z hz).1) hp
   . intro f hf;rw[uQ hf,PV];omega
   . rw[← Cp es]at x4;exact⟨l',_,cs,rfl,s3.trans s4,s3.free hl4,x4,nl4,λb hb=>s3.free (fr4 b hb)⟩
 . rintro σ H3 ⟨l,v,bs,rfl,s3,hl,x3,nl,fr⟩;symm;have e:sss.take (as.map V.ref).length=sss:=PR (by rw[OF,x.len];exact OQ _);rw[e]at x3;exact q l bs H3 s3 hl x3 nl fr
def qY(R:Int->List Int->Prop):List Int->List (List Int)->Prop
 | [],[]=>True
 | x::f,ss::r=>R x ss/\qY R f r
 | _,_=>False
theorem yT{R:Int->List Int->Prop}:∀{f:List Int} {sss:List (List Int)},qY R f sss↔f.length=sss.length/\∀(i:Nat) x ss,f[i]? =some x->sss[i]? =some ss->R x ss
 | [],[]=>by simp[qY]
 | [],_::_=>by simp[qY]
 | _::_,[]=>by simp[qY]
 | x::f,ss::r=>by
  rw[qY,yT (f:=f) (sss:=r)];constructor
  . rintro⟨h1,h2,h3⟩;refine⟨by simp[h2],λi y s e1 e2=>?_⟩
    match i,e1,e2 with
    | 0,e1,e2=>simp at e1 e2;subst e1 e2;exact h1
    | i+1,e1,e2=>exact h3 i y s (by simpa using e1) (by simpa using e2)
  . rintro⟨h1,h2⟩;exact⟨h2 0 x ss rfl rfl,by simpa using h1,λi y s e1 e2=>h2 (i+1) y s (by simpa using e1) (by simpa using e2)⟩
theorem mem_extL{fs:List (List Int)}:f∈extL fs ss↔∃ a∈fs,∃ s∈ss,f=a++[s]:=by
 unfold extL;rw[Sv];constructor
 . rintro⟨a,ha,h⟩;obtain⟨s,hs,rfl⟩:=OP.mp h;exact⟨a,ha,s,hs,rfl⟩
 . rintro⟨a,ha,s,hs,rfl⟩;exact⟨a,ha,OP.mpr ⟨s,hs,rfl⟩⟩
theorem yU:∀(sss fs:List (List Int)) (f:List Int),f∈sss.foldl extL fs↔∃ a∈fs,∃ t,f=a++t/\qY (λx ss=>x∈ss) t sss
 | [],fs,f=>by
  constructor
  . intro h;exact⟨f,h,[],by simp,trivial⟩
  . rintro⟨a,ha,t,rfl,ht⟩
    cases t with
    | nil=>simpa using ha
    | cons x t=>exact ht.elim
 | ss::r,fs,f=>by
  rw[QF,yU r];constructor
  . rintro⟨b,hb,t,rfl,ht⟩;obtain⟨a,ha,s,hs,rfl⟩:=mem_extL.mp hb;exact⟨a,ha,s::t,by simp,hs,ht⟩
  . rintro⟨a,ha,t,rfl,ht⟩
    cases t with
    | nil=>exact ht.elim
    | cons x t=>exact⟨a++[x],mem_extL.mpr ⟨a,ha,x,ht.1,rfl⟩,t,by simp,ht.2⟩
theorem Cq:f∈io sss↔qY (λx ss=>x∈ss) f sss:=by
 unfold io;rw[yU];constructor
 . rintro⟨a,ha,t,rfl,ht⟩;rw[OR.mp ha];exact ht
 . intro h;exact⟨[],by simp,f,rfl,h⟩
theorem Cr {B:Addr} {bs:List Addr} {LL:List (List Int)} {tt:TT} {σ0:St} (p:List Int->Bool) (x:IsLL H1 B bs LL) (hn:LL.length<=1100) (hσ:1<σ0.length)
  (ht:∀(b:Addr) (f:List Int) H R,f∈LL->H1 b=some (.lst (f.map V.int))->Same H1 H->(∀ H',Same H H'->R (p f) H')->tt (σ0.set 1 (some (.ref b))) H R)
  (hd:∀ l cs H,H1 l=none->Same H1 H->IsLL H l cs (LL.filter p)->l∉cs->(∀ c∈cs,c∈bs)->fin l H):CompR (Itl K B) (gName 1) tt (tVar 1) fin σ0 H1:=by
 have hxl:=x.len;refine gX (xs:=bs.map V.ref) (λl i σ H=>(σ=σ0\/∃ cv,σ=σ0.set 1 cv)/\Same H1 H/\∃ cs,IsLL H l cs ((LL.take i).filter p)/\l∉cs/\∀ c∈cs,c∈bs) (λl hl=>⟨.inl rfl,(OL H1).laid hl,[],⟨by rw[ag];rfl,rfl,λj a xs h1=>by simp at h1⟩,by simp,(λc hc=>nomatch hc)⟩) (λl i σ H _ _ p=>p.2.1.seq (Pc x.top)) ?_ ?_
 . rintro l i y σ H hl hy ⟨hσ2,s1,cs,xl,nl,sub⟩;obtain⟨b,hb,rfl⟩:=bq hy;obtain⟨f,ef,eb⟩:=x.get hb;rw[aS]
   have e:σ.set 1 (some (.ref b))=σ0.set 1 (some (.ref b)):=by
    rcases hσ2 with rfl | ⟨cv,rfl⟩
    . rfl
    . exact Qy ..
   rw[e];refine ht b f H _ (ON ef) eb s1 λH2 s2=>?_;have xl2:=xl.same s2;have s12:=s1.trans s2
   cases hp:p f with
   | false=>
    rw[O0 OI];refine⟨.inr ⟨_,rfl⟩,s12,cs,?_,nl,sub⟩;rw[lL ef,Ps,Pz,hp]
    simpa using xl2
   | true=>
    rw[O6 rfl,ui];refine⟨.ref b,by rw[QU hσ],cs.map V.ref,xl2.top,?_,.inr ⟨_,rfl⟩,s12.own hl,cs++[b],?_,?_,?_⟩
    . rw[OF,xl2.len];have h4:=Qe p (LL.take i);have h5:(LL.take i).length<=LL.length:=by rw[PV];exact Nat.min_le_right _ _
      exact wT (by omega)
    . have nb:l≠b:=λz=>by rw[← z,hl]at eb;cases eb
      have z:=xl2.app (bs:=[b]) (yss:=[f]) nl (by simpa using nb) rfl λj a ys h1 h2=>by
       have hj:j=0:=by have:=(OK.mp h1).1;simp at this;omega
       subst hj;cases h1;cases h2;exact s12 _ _ eb
      rw[lL ef,Ps,Pz,hp]
      simpa using z
    . intro h;rcases OY.mp h with h | h
      . exact nl h
      . rw[OR.mp h,eb]at hl;cases hl
    . intro c hc;rcases OY.mp hc with hc | hc
      . exact sub c hc
      . rw[OR.mp hc];exact ON hb
 . rintro l σ H hl ⟨_,s1,cs,xl,nl,sub⟩;have e:LL.take (bs.map V.ref).length=LL:=PR (by rw[OF,hxl];exact OQ _);rw[e]at xl;exact hd l cs H hl s1 xl nl sub
abbrev qZ(a:EA):List Addr:=[a.NoMove,a.NoPuzzle]
def aT(K:Frag)(c:RCl RK)(d:RCl PzK):Sp:=λvs H Q E=>∃(P L G:Addr) (h w g:Int) (rows:List RR) (cl:List Int),vs=[.ref P]/\IsPz H c d P L G h w g rows cl/\(g<=4->Q .non H)/\(4<g->∀ C,Glb K "TooMany" C->E (.ref C) none H)
theorem qe(h:aT K c d vs H Q E):vs.length=1:=by
 obtain⟨_,_,_,_,_,_,_,_,rfl,_⟩:=h;rfl
def cJ(K:Frag)(c:RCl RK)(d:RCl PzK)(a:EA)(E:XK):TS:=
 by exists ":ome>enAjE~c~dbij0cdf#2 df#4 ~zy'Cadtu`0cp",[112,117,122,122,108,101,115,32,97,114,101,32,108,105,107,101,110,101,100,32,111,110,32,102,108,111,111,114,115,32,111,102,32,97,116,32,109,111,115,116,32,52,32,115,105,103,110,115]
theorem qf{a:EA}{os:List Addr}(R:gY K a "TooMany" a.TooMany os)(h:aT K c d vs H Q E):cJ K c d a E {nx:=λ_ H'=>Q .non H',rt:=Q} (start ["puzzle"] vs) H:=by
 obtain⟨P,L,G,h,w,g,rows,cl,rfl,X,k1,k2⟩:=h;obtain⟨dx,p0,rs,h1,h2,h3⟩:=X.ex;have one:(1:Nat)<=sizeLine:=bd (by decide);show cJ K c d a E _ [some (.ref P)] H;unfold cJ;rw[aN];symm;refine methE (k:=.Puzzle) rfl X.ok h1 (by rfl) ?_;symm;refine⟨P,L,G,h,w,g,rows,cl,rfl,X,λp hp=>?_⟩;refine ixT hp (v:=V.int g) rfl ?_;symm;by_cases c1:4<g
 . rw[O3 c1];refine iteT ?_;rw[pD];symm;exact⟨one,k2 c1 _ R.g⟩
 . rw[OW c1];refine iteF ?_;exact k1 (by omega)
def exL(g:Int)(rows:List RR):List (List Int):=if recR rows then [plnL g] else(io (List.replicate g.toNat (plnL g))).filter (exOk g)
variable{rows:List RR}
theorem vW(g0:0<=g):ss∈exL g rows↔Exch g ss/\(ss=plnL g\/recR rows=false):=by
 have pl:=dy g0;unfold exL
 cases h:recR rows with
 | true=>
  rw[O6 rfl,OR];exact⟨λe=>⟨e ▸ yN g0,.inl e⟩,λx=>x.2.elim id λy=>by cases y⟩
 | false=>
  rw[O0 OI,Ql,Cq,yT];constructor
  . rintro⟨_,e⟩;exact⟨⟨P8.mp e,g0⟩,.inr rfl⟩
  . rintro⟨X,_⟩;have xl:=X.len;refine⟨⟨by rw[PN];omega,λi x ls e1 e2=>?_⟩,P8.mpr X.p⟩;have hi:=(OK.mp e2).1;rw[PN]at hi;rw[Rt,O6 hi]at e2;cases e2;exact X.p.mem_iff.mp (ON e1)
def mvs(g:Int)(rows:List RR):List (Int × List Int):=((List.range 8).map λ(n:Nat)=>(n:Int)).flatMap λm=>(exL g rows).map λss=>(m,ss)
theorem rY{m:Int}(g0:0<=g):(m,ss)∈mvs g rows↔0<=m/\m<8/\Exch g ss/\(ss=plnL g\/recR rows=false):=by
 unfold mvs;rw[Sv];constructor
 . rintro⟨k,hk,hm⟩;obtain⟨n,hn,rfl⟩:=OP.mp hk;obtain⟨s,hs,e⟩:=OP.mp hm;cases e;have:=O5.mp hn;exact⟨by omega,by omega,(vW g0).mp hs⟩
 . rintro⟨m0,m8,X⟩;exact⟨m,OP.mpr ⟨m.toNat,O5.mpr (by omega),by omega⟩,OP.mpr ⟨ss,(vW g0).mpr X,rfl⟩⟩
def fP(K:Frag)(c:RCl RK)(d:RCl PzK):Sp:=λvs H Q _=>∃(P L G:Addr) (h w g:Int) (rows:List RR) (cl:List Int),vs=[.ref P]/\IsPz H c d P L G h w g rows cl/\g<=4/\∀(l:Addr) (as:List Addr) (H':Hp),Same H H'->H l=none->IsLL H' l as (exL g rows)->(∀ a∈as,H a=none)->Q (.ref l) H'
def kD(K:Frag)(c:RCl RK)(d:RCl PzK):TS:=
 by exists ":goC,'Abija0clva2cplD&--1 zb,{Lbae'pva2cqKa2cch#1 C,'lba2a1c1"
def nK(K:Frag)(c:RCl RK)(d:RCl PzK):TS:=
 by exists ":gkAjE~c~dbij0ch#1 gk,~Cba1ch#2 {Mbij"
theorem yV(h:fP K c d vs H Q E):nK K c d {nx:=λ_ H'=>Q .non H',rt:=Q} (start ["puzzle","floor","signs"] vs) H:=by
 obtain⟨P,L,G,h,w,g,rows,cl,rfl,X,g4,q⟩:=h;obtain⟨dx,p0,rs,h1,h2,h3⟩:=X.ex;have g0:=X.R.F.g0;have pl:=dy (g:=g) (by omega);show nK K c d _ [some (.ref P),none,none] H;unfold nK;generalize hW:kD K c d=W at*;symm;refine methE (k:=.Puzzle) rfl X.ok h1 (by rfl) ?_;symm;refine⟨P,L,G,h,w,g,rows,cl,rfl,X,λp hp=>?_⟩;symm;refine⟨p,h,w,g,rfl,hp,by omega,by omega,λS hS=>?_⟩;obtain⟨H1,z9,s1,eS⟩:=aX (.lst ((plnL g).map V.int)) hS;rw[z9];symm;subst hW;unfold kD;rw[az,aN];symm;refine⟨P,L,G,h,w,g,rows,cl,rfl,X.same s1,λH2 s2=>?_⟩;refine⟨recR rows,rfl,?_⟩;have s12:=s1.trans s2
 cases hr:recR rows with
 | true=>
  refine iteT ?_;symm;refine⟨lnR rfl,λl hl=>?_⟩;have nS:S≠l:=λe=>by rw[← e,s2 _ _ eS]at hl;cases hl
  refine q l [S] _ (s12.laid hl) (s12.free hl) ?_ (λa ha=>by rw[OR.mp ha];exact hS);unfold exL;rw[hr,O6 rfl];refine⟨ag,rfl,λj a xs e1 e2=>?_⟩
  cases j with
  | zero=>cases e1;cases e2;rw[ah nS];exact s2 _ _ eS
  | succ j=>simp at e1
 | false=>
  refine iteF ?_;symm;refine⟨lnR rfl,λA0 hA0=>?_⟩;obtain⟨H3,z9,s3,e3⟩:=aX (.lst [V.ref S]) hA0;rw[z9];rw[gM ((s2.trans s3) _ _ eS),OF];refine BJ e3 (by omega) (by omega) (by show(1:Nat)<=1;decide) λA hA=>?_
  have er:(List.replicate (((plnL g).length:Nat):Int).toNat [V.ref S]).flatten=(List.replicate g.toNat S).map V.ref:=by
   rw[List.flatten_replicate_singleton,List.map_replicate,show(((plnL g).length:Nat):Int).toNat=g.toNat by omega]
  rw[er];have s4:Same H3 (upd H3 A (.lst ((List.replicate g.toNat S).map V.ref))):=(OL H3).laid hA;have nA:S≠A:=λe=>by rw[← e,(s2.trans s3) _ _ eS]at hA;cases hA
  have xA:IsLL (upd H3 A (.lst ((List.replicate g.toNat S).map V.ref))) A (List.replicate g.toNat S) (List.replicate g.toNat (plnL g)):=by
   refine⟨ag,by rw[PN,PN],λj a xs e1 e2=>?_⟩;have i1:=(OK.mp e1).1;rw[PN]at i1;rw[Rt,O6 i1]at e1 e2;cases e1;cases e2;rw[ah nA];exact(s2.trans s3) _ _ eS
  generalize upd H3 A (.lst ((List.replicate g.toNat S).map V.ref))=H4 at*;have s14:=(s12.trans s3).trans s4
  have pb:prodL (List.replicate g.toNat (plnL g))<=256:=by
   have e:g=1\/g=2\/g=3\/g=4:=by omega
   rcases e with rfl | rfl | rfl | rfl <;> decide
  refine⟨A,_,_,rfl,xA,by rw[PN];omega,λss hs=>?_,by omega,λB bs H5 s5 hB xB nB fB=>?_⟩
  . rw[List.eq_of_mem_replicate hs];omega
  . refine⟨B,rfl,⟨_,Pc xB.top⟩,?_⟩;have s15:=s14.trans s5;refine Cr (exOk g) xB (by rw[uP];omega) (by show(1:Nat)<3;decide) ?_ ?_
    . intro b f H6 R hf eb s6 k6;show tB _ [none,some (.ref b),some (.ref p)] H6 R;symm;have fl:=uQ hf;rw[PN]at fl;exact⟨p,b,h,w,g,f,rfl,(s15.trans s6) _ _ hp,by omega,by omega,s6 _ _ eb,by omega,λH7 s7=>⟨_,rfl,k6 H7 s7⟩⟩
    . intro l cs H6 hl s6 xl nl sub;refine q l cs H6 (s15.trans s6) (s15.free hl) ?_ (λa ha=>s14.free (fB a (sub a ha)));unfold exL;rw[hr,O0 OI];exact xl
def IsM1(H:Hp)(l t:Addr)(m:Int × List Int):Prop:=∃ s,s≠l/\H t=some (.tup [.int m.1,.ref s])/\H s=some (.lst (m.2.map V.int))
theorem IsM1.same{H':Hp}{t:Addr}{m:Int × List Int}(x:IsM1 H l t m)(s:Same H H'):IsM1 H' l t m:=by
 obtain⟨a,n,e1,e2⟩:=x;exact⟨a,n,s _ _ e1,s _ _ e2⟩
structure IsMs(H:Hp)(l:Addr)(ts:List Addr)(ms:List (Int × List Int)):Prop where
 top:H l=some (.lst (ts.map V.ref))
 len:ts.length=ms.length
 at_:∀(i:Nat) t m,ts[i]? =some t->ms[i]? =some m->IsM1 H l t m
theorem IsMs.same{H':Hp}{ts:List Addr}{ms:List (Int × List Int)}(x:IsMs H l ts ms)(s:Same H H'):IsMs H' l ts ms:=⟨s _ _ x.top,x.len,λi t m e1 e2=>(x.at_ i t m e1 e2).same s⟩
theorem uR(g0:1<=g)(g4:g<=4):(exL g rows).length<=100:=by
 unfold exL
 split
 . show 1<=100;decide
 . have e:g=1\/g=2\/g=3\/g=4:=by omega
   rcases e with rfl | rfl | rfl | rfl <;> decide+kernel
theorem nM(n:Nat):(((List.range (n+1)).map λ(n:Nat)=>(n:Int)).flatMap λm=>(exL g rows).map λss=>(m,ss))=(((List.range n).map λ(n:Nat)=>(n:Int)).flatMap λm=>(exL g rows).map λss=>(m,ss))++(exL g rows).map λss=>((n:Int),ss):=by
 rw[PP,PB,RU];simp
def eY(K:Frag)(c:RCl RK)(d:RCl PzK):Sp:=λvs H Q _=>∃(P L G:Addr) (h w g:Int) (rows:List RR) (cl:List Int),vs=[.ref P]/\IsPz H c d P L G h w g rows cl/\g<=4/\∀(l:Addr) (ts:List Addr) (H':Hp),Same H H'->H l=none->IsMs H' l ts (mvs g rows)->Q (.ref l) H'
def oS(K:Frag)(c:RCl RK)(d:RCl PzK):TS:=
 by exists ":gkvch#1 gJTadf#8 ch#2 HFbI~D1aD&--2 zb,{Nbija0ch#1 Bwa2a1ccl1"
theorem zH(h:eY K c d vs H Q E):oS K c d {nx:=λ_ H'=>Q .non H',rt:=Q} (start ["puzzle","found","move"] vs) H:=by
 obtain⟨P,L,G,h,w,g,rows,cl,rfl,X,g4,q⟩:=h;have g0:=X.R.F.g0;have el:=uR (rows:=rows) g0 g4
 have ln:∀ n:Nat,(((List.range n).map λ(n:Nat)=>(n:Int)).flatMap λm=>(exL g rows).map λss=>(m,ss)).length=n*(exL g rows).length:=λn=>by
  induction n with
  | zero=>simp
  | succ n ih=>rw[nM,OU,ih,OF,Rx]
 show oS K c d _ [some (.ref P),none,none] H;unfold oS;symm;refine⟨bd (by decide),λR hR=>?_⟩;obtain⟨H1,z9,s1,e1⟩:∃ z,upd H R (.lst [])=z/\Same H z/\z R=some (.lst (([]:List Addr).map V.ref)):=aX _ hR;rw[z9];refine⟨8,rfl,by decide,by decide,?_⟩;refine cK (λi σ H'=>∃(v2:Option V) (ts:List Addr),σ=[some (.ref P),some (.ref R),v2]/\Same H H'/\IsMs H' R ts (((List.range i).map λ(n:Nat)=>(n:Int)).flatMap λm=>(exL g rows).map λss=>(m,ss))/\R∉ts) ⟨none,[],rfl,s1,⟨e1,rfl,λi t m e=>by simp at e⟩,by simp⟩ ?_ ?_
 . rintro i σ H2 hi ⟨v2,ts,rfl,s2,Y,nR⟩;rw[SG];have yl:=Y.len;have hi8:i<8:=hi;symm;refine⟨bA Y.top,?_⟩;refine⟨P,L,G,h,w,g,rows,cl,rfl,X.same s2,g4,λl as H3 s3 hl xl fr=>?_⟩;have al:=xl.len;refine⟨l,rfl,⟨_,Pc xl.top⟩,?_⟩;refine uq (xs:=as.map V.ref) (λ_=>true) (λj=>.tup [.int (i:Int),((as.map V.ref)[j]?).getD .non]) (by rw[OF];omega) (Pc xl.top) ?_ ?_ ?_
   . intro j x H4 R4 hx s4 k4;exact k4 _ (OL _)
   . intro j x H4 Q4 hx hb s4 k4;rw[hx]at k4;show tTup _ [none,some x,some (.int (i:Int))] H4 Q4;symm;exact⟨lnR rfl,λt ht=>k4 t _ ((OL H4).laid ht) ht ag⟩
   . intro M us H4 hM s4 eM nw;rw[aU,OF]at nw;have s34:=s3.trans s4;have nl:=nw.len;rw[OF,PY]at nl;have Y4:=Y.same s34;have li:=ln i
     have hb:ts.length+us.length<=1100:=by
      have:i*(exL g rows).length<=7*100:=S3 (by omega) el;omega
     refine qX Y4.top eM (by rw[OF,OF];exact hb) ?_;have hR4:H2 R≠none:=by rw[Y.top];simp
     have nRu:R∉us:=λhm=>by have:=nw.fr R hm;rw[s3 _ _ Y.top]at this;cases this
     refine⟨_,ts++us,rfl,(s2.trans s34).own hR,?_,by simp[nR,nRu]⟩;rw[nM];refine⟨by rw[ag,PB],by rw[OU,OU,OF];omega,λk t m h1 h2=>?_⟩
     have put:∀{t m},IsM1 H4 R t m->t≠R->IsM1 (upd H4 R (.lst (ts.map V.ref++us.map V.ref))) R t m:=λ{t m} x nt=>by
      obtain⟨a,n,e1,e2⟩:=x;exact⟨a,n,by rw[ah nt];exact e1,by rw[ah n];exact e2⟩
     rcases Qo k ts.length with hk | hk
     . rw[O9 hk]at h1;rw[O9 (by omega)]at h2;exact put (Y4.at_ k t m h1 h2) (λe=>nR (e ▸ ON h1))
     . rw[O8 hk]at h1;rw[O8 (by omega),show k-_=k-ts.length by rw[← yl]]at h2;have ku:=(OK.mp h1).1;generalize k-ts.length=j at*;rw[OH]at h2;obtain⟨ss,hs,rfl⟩:=P9.mp h2;have ha:as[j]? =some (as[j]'(by omega)):=OG (by omega);have et:=nw.at_ j t _ h1 (by rw[OH,PC (by omega)];rfl);dsimp only at et;rw[OH,ha]at et;exact put ⟨_,(λe=>by have:=fr _ (ON ha);rw[e]at this;exact hR4 this),et,s4 _ _ (xl.at_ j _ ss ha hs)⟩ (λe=>nRu (e ▸ ON h1))
 . rintro σ H2 ⟨v2,ts,rfl,s2,Y,nR⟩;symm;exact q R ts H2 s2 hR Y
def bU(K:Frag)(c:RCl RK)(d:RCl PzK):Sp:=λvs H Q _=>∃(P L G l t:Addr) (h w g:Int) (rows:List RR) (cl:List Int) (m:Int × List Int),vs=[.ref P,.ref t]/\IsPz H c d P L G h w g rows cl/\IsM1 H l t m/\Pd.May ⟨h,w,g,rows,cl⟩ m.1 m.2/\∀(T p L C:Addr) (H':Hp),Same H H'->H T=none->H L=none->H C=none->L≠C->IsFm H' T p L C (Pd.mv ⟨h,w,g,rows,cl⟩ m.1 m.2).frm->Q (.ref T) H'
theorem xj(h:bU K c d vs H Q E):vs.length=2:=by
 obtain⟨_,_,_,_,_,_,_,_,_,_,_,rfl,_⟩:=h;rfl
def jw(K:Frag)(c:RCl RK)(d:RCl PzK)(E:XK):TS:=
 by exists ":l,~wbijaL~Vbij=ya0aen1df#0 aen1df#1 cc"
theorem xk(h:bU K c d vs H Q E):jw K c d E {nx:=λ_ H'=>Q .non H',rt:=Q} (start ["puzzle","move"] vs) H:=by
 obtain⟨P,L,G,l,t,h,w,g,rows,cl,⟨m,ss⟩,rfl,X,⟨S,_,et,eS⟩,M,q⟩:=h;have g6:=X.R.F.g1;have sl:=M.x.len;have sl:(ss.length:Int)=g:=sl;show jw K c d E _ [some (.ref P),some (.ref t)] H;unfold jw;symm;refine ixT et (v:=V.int m) rfl ?_;refine ixT et (v:=V.ref S) rfl ?_;refine⟨P,L,G,h,w,g,m,_,ss,rows,cl,rfl,X,.inr ⟨S,rfl,eS,by omega⟩,λ_ P2 L2 G2 H1 s1 pz=>?_,λbad=>absurd ⟨⟨M.m0,M.m8⟩,P8.mpr M.x.p,M.r⟩ bad⟩;exact⟨P2,L2,G2,_,_,g,_,_,rfl,pz,λT p L3 C3 H2 s2 hT hL hC ne fm=>q T p L3 C3 H2 (s1.trans s2) (s1.free hT) (s1.free hL) (s1.free hC) ne fm⟩
def dS(l:List Nat):PyData:=.str (tx l)
theorem q0(a b:List Nat):PyData.eqv (dS a) (dS b)=decide (a=b):=by
 unfold dS;rw[PyData.eqv,Pw];simp only[QD,Pp];exact⟨yh,λe=>by rw[e]⟩
def dF(f:Frm):PyData:=.tuple [dTI [f.1.1,f.1.2.1,f.1.2.2],.list (f.2.1.map dS),dLI f.2.2]
theorem Cs(f k:Frm):PyData.eqv (dF f) (dF k)=decide (f=k):=by
 obtain⟨⟨h,w,g⟩,ls,cl⟩:=f;obtain⟨⟨h',w',g'⟩,ls',cl'⟩:=k;unfold dF;rw[PyData.eqv,PyData.eqvAll,PyData.eqvAll,PyData.eqvAll,PyData.eqvAll,vq,PyData.eqv,kX dS q0,rQ,Pw];simp[and_assoc]
theorem IsFm.dv{T L C:Addr}{f:Frm}(X:IsFm H T p L C f):DV K H (.ref T) (dF f):=by
 refine .tup (SqT.of X.T) (.cons (.tup (SqT.of X.p) (.ints [_,_,_])) (.cons (.lst (Pc X.L) ?_) (.cons (.lst (Pc X.C) (.ints _)) .nil)));refine DVs.of_get (by simp) λi x d h1 h2=>?_;rw[OH,OH]at h1;rw[OH]at h2
 cases e:f.2.1[i]? with
 | none=>rw[e]at h2;cases h2
 | some l=>rw[e]at h1 h2;cases h1;cases h2;exact .str _
theorem oH(f:Frm)(ok:∀ l∈f.2.1,PyData.strOk (tx l)=true):SeqAt.shaped (dF f)=true:=by
 have h1:PyData.canLayAll0 (f.2.1.map dS)=true:=pB λd hd=>by obtain⟨x,hx,rfl⟩:=OP.mp hd;unfold dS;rw[PyData.canLay0];exact ok x hx
 have h2:PyData.depthAll (f.2.1.map dS)<=0:=lJ λd hd=>by obtain⟨x,_,rfl⟩:=OP.mp hd;exact OQ _
 unfold dF;simp[SeqAt.shaped,PyData.canLay0,PyData.canLayAll0,h1,PyData.depth,PyData.depthAll,z8,rP,wI,oz];omega
theorem AU{T L C T' p' L' C':Addr}{f k:Frm}(X:IsFm H T p L C f)(Y:IsFm H T' p' L' C' k)(h:Q (.bl (decide (f=k))) H):cEq K (.ref T) (.ref T') H Q:=by
 show rEqD K (.ref T) (.ref T') H Q;refine⟨_,_,X.dv,Y.dv,oH f X.ok,oH k Y.ok,?_⟩;rw[Cs];exact h
theorem xL{T L C T' p' L' C':Addr}{f k:Frm}(X:IsFm H T p L C f)(Y:IsFm H T' p' L' C' k)(h:Q (.bl (!decide (f=k))) H):cNe K (.ref T) (.ref T') H Q:=by
 show rNeD K (.ref T) (.ref T') H Q;refine⟨_,_,X.dv,Y.dv,oH f X.ok,oH k Y.ok,?_⟩;rw[Cs];exact h
theorem An{α:Type}{p:α->Bool}:∀{L:List α} {i:Nat} {x:α},L[i]? =some x->p x=true->(∀ y∈L.take i,¬ p y=true)->L.find? p=some x
 | [],_,_,h,_,_=>by simp at h
 | a::L,0,x,h,hp,_=>by cases h;rw[Qx,hp]
 | a::L,i+1,x,h,hp,hn=>by
  have h1:¬ p a=true:=hn a (.head _);rw[Qx,Sf.mpr h1];exact An (L:=L) (i:=i) h hp λy hy=>hn y (.tail _ hy)
def alk(p q:Pd):Option (Int × List Int):=(mvs p.g p.rows).find? λm=>decide ((p.mv m.1 m.2).frm=q.frm)
theorem uS{p:Pd}(g0:0<=p.g){m:Int × List Int}(h:m∈mvs p.g p.rows):p.May m.1 m.2:=by
 obtain⟨m,ss⟩:=m;obtain⟨a,b,c,d⟩:=(rY g0).mp h;exact⟨a,b,c,d⟩
theorem EQ{p q:Pd}(g0:0<=p.g):(alk p q).isSome=true↔p.Orb q.frm:=by
 unfold alk;rw[List.find?_isSome];constructor
 . rintro⟨m,hm,e⟩;exact⟨m.1,m.2,uS g0 hm,QH e⟩
 . rintro⟨m,ss,M,e⟩;exact⟨(m,ss),(rY g0).mpr ⟨M.m0,M.m8,M.x,M.r⟩,O3 e⟩
def iq(K:Frag)(c:RCl RK)(d:RCl PzK):Sp:=λvs H Q E=>∃(P L G P' L' G':Addr) (h w g h' w' g':Int) (rows rows':List RR) (cl cl':List Int),vs=[.ref P,.ref P']/\IsPz H c d P L G h w g rows cl/\IsPz H c d P' L' G' h' w' g' rows' cl'/\
 (4<g\/4<g'->∀ C,Glb K "TooMany" C->E (.ref C) none H)/\
 (g<=4->g'<=4->(alk ⟨h,w,g,rows,cl⟩ ⟨h',w',g',rows',cl'⟩=none->∀ H',Same H H'->Q .non H')/\∀ m,alk ⟨h,w,g,rows,cl⟩ ⟨h',w',g',rows',cl'⟩=some m->∀(l t:Addr) (H':Hp),Same H H'->IsM1 H' l t m->Q (.ref t) H')
theorem DB(h:iq K c d vs H Q E):vs.length=2:=by
 obtain⟨_,_,_,_,_,_,_,_,_,_,_,_,_,_,_,_,rfl,_⟩:=h;rfl
def oU(K:Frag)(c:RCl RK)(d:RCl PzK)(E:XK):TS:=
 by exists ":gk,~wbija1ch#2 gJzb,'Dbija0ch#3 omesbL'Ebij=ya0a3c2l3pld]"
def qg(K:Frag)(c:RCl RK)(d:RCl PzK)(E:XK):TS:=
 by exists ":gHL~Wbij=ya0cgHL~Wbij=ya1c{Obijy"
theorem DC(h:iq K c d vs H Q E):qg K c d E {nx:=λ_ H'=>Q .non H',rt:=Q} (start ["one","other","sought","move"] vs) H:=by
 obtain⟨P,L,G,P',L',G',h,w,g,h',w',g',rows,rows',cl,cl',rfl,X,X',bad,good⟩:=h;have g0:=X.R.F.g0;show qg K c d E _ [some (.ref P),some (.ref P'),none,none] H;unfold qg;generalize hW:oU K c d E=W at*;symm;refine⟨P,L,G,h,w,g,rows,cl,rfl,X,λg4=>?_,λg5=>bad (.inl g5)⟩;symm;refine⟨P',L',G',h',w',g',rows',cl',rfl,X',λg4'=>?_,λg5=>bad (.inr g5)⟩;obtain⟨no,yes⟩:=good g4 g4';subst hW;unfold oU;symm;refine⟨P',L',G',h',w',g',rows',cl',rfl,X',λT p L1 C1 H1 s1 hT hL hC ne fm=>?_⟩;symm;refine⟨P,L,G,h,w,g,rows,cl,rfl,X.same s1,g4,λl ts H2 s2 hl Y=>?_⟩;have yl:=Y.len;refine⟨l,rfl,⟨_,Pc Y.top⟩,?_⟩;have s12:=s1.trans s2
 refine kO (K:=K) (xs:=ts.map V.ref) (λi σ H'=>∃ v3:Option V,σ=[some (.ref P),some (.ref P'),some (.ref T),v3]/\Same H2 H'/\∀ m∈(mvs g rows).take i,¬ (Pd.mv ⟨h,w,g,rows,cl⟩ m.1 m.2).frm=Pd.frm ⟨h',w',g',rows',cl'⟩)
  ⟨none,rfl,OL _,λm hm=>by simp at hm⟩ (λi σ' H' _ ⟨_,_,s,_⟩=>Pc (s _ _ Y.top)) ?_ ?_
 . rintro i x σ H3 hx ⟨v3,rfl,s3,nn⟩;obtain⟨t,ht,rfl⟩:=bq hx;have hi:=(OK.mp ht).1;have hm:(mvs g rows)[i]? =some ((mvs g rows)[i]'(by omega)):=OG (by omega);have y:=(Y.at_ i t _ ht hm).same s3;have M:=uS (p:=⟨h,w,g,rows,cl⟩) (by show 0<=g;omega) (ON hm);rw[aS];show tIfS _ _ _ _ [some (.ref P),some (.ref P'),some (.ref T),some (.ref t)] H3;rw[aN];symm;have s13:=s12.trans s3;refine⟨P,L,G,l,t,h,w,g,rows,cl,_,rfl,X.same s13,y,M,λT2 p2 L2 C2 H4 s4 _ _ _ _ fm2=>?_⟩;refine AU fm2 (fm.same ((s2.trans s3).trans s4)) ?_;refine⟨_,rfl,?_⟩;by_cases e:(Pd.mv ⟨h,w,g,rows,cl⟩ ((mvs g rows)[i]'(by omega)).1 ((mvs g rows)[i]'(by omega)).2).frm=Pd.frm ⟨h',w',g',rows',cl'⟩
   . rw[O3 e];refine iteT ?_;symm;refine yes _ ?_ l t H4 (s13.trans s4) (y.same s4);unfold alk;exact An hm (O3 e) λm hm'=>by rw[Pp];exact nn m hm'
   . rw[OW e];refine iteF ?_;symm;refine⟨_,rfl,s3.trans s4,λm hm'=>?_⟩;rw[Ri,hm]at hm';rcases OY.mp hm' with h1 | h1
     . exact nn m h1
     . have:m=(mvs g rows)[i]'(by omega):=by simpa using h1
       rw[this];exact e
 . rintro σ H3 ⟨v3,rfl,s3,nn⟩;rw[OF,yl,Rn]at nn;symm;refine no ?_ H3 (s12.trans s3);unfold alk;exact List.find?_eq_none.mpr λm hm=>by rw[Pp];exact nn m hm
abbrev bw(K:Frag):Sp:=mf K
abbrev sy(K:Frag):TS:=fc K
theorem sB(h:bw K vs H Q E):sy K {nx:=λ_ H'=>Q .non H',rt:=Q} (start ["_law_script","_law_floor","_law_at_here"] vs) H:=sq h
abbrev ck(K:Frag):Sp:=pK K
abbrev vX(K:Frag):TS:=iO K
theorem vY(h:ck K vs H Q E):vX K {nx:=λ_ H'=>Q .non H',rt:=Q} (start ["_law_floor","_law_filling_here","_law_cell","_law_many","_law_xs","_law_order_here","_law_some","_law_sign","_law_off","_law_way","_law_words"] vs) H:=vG h
def fl69:List (Int × Int):=[(1,1),(2,2),(1,4),(3,2),(2,3),(3,3),(4,1),(2,2),(1,5),(2,2),(5,1),(3,1)]
theorem ER:∀ p∈fl69,1<=p.1/\p.1<=6/\1<=p.2/\p.2<=6/\p.1*p.2<=9:=by decide
def bK(K:Frag):Sp:=λvs H Q _=>∃(a:Addr) (ns:List Int),vs=[.ref a]/\SqL K H a (ns.map V.int)/\ns.length<=63/\∀(p:Addr) (h w g:Int) (H':Hp),Same H H'->H p=none->IsFl H' p h w g->FlOk h w g->h*w<=9->g<=5->Q (.ref p) H'
theorem q5(h:bK K vs H Q E):vs.length=1:=by
 obtain⟨_,_,rfl,_⟩:=h;rfl
def AV:List (Int × Int)->(St->Hp->(List V->Hp->Prop)->Prop)
 | []=>tNil
 | p::r=>tCons (tTup (tCons (tC (.int p.1)) (tCons (tC (.int p.2)) tNil))) (AV r)
theorem yW{σ:St}:∀(ps:List (Int × Int)) (H:Hp) (Q:List V->Hp->Prop),(∀(as:List Addr) (H':Hp),Same H H'->as.length=ps.length->(∀(j:Nat) (a:Addr) (p:Int × Int),as[j]? =some a->ps[j]? =some p->H' a=some (.tup [.int p.1,.int p.2]))->Q (as.map V.ref) H')->AV ps σ H Q
 | [],H,Q,h=>h [] H (OL H) rfl λj a p e _=>by simp at e
 | p::r,H,Q,h=>by
  unfold AV;symm;refine⟨lnR rfl,λt ht=>?_⟩;obtain⟨H1,z9,s1,et⟩:=aX (.tup [V.int p.1,V.int p.2]) ht;rw[z9];refine yW r H1 _ λas H2 s2 hl ha=>?_;refine h (t::as) H2 (s1.trans s2) (by simp[hl]) λj a q e1 e2=>?_
  match j,e1,e2 with
  | 0,e1,e2=>
   simp at e1 e2;subst e1 e2;exact s2 _ _ et
  | j+1,e1,e2=>exact ha j a q (by simpa using e1) (by simpa using e2)
def fQ(K:Frag):TS:=
 by exists ":gome~kbGex,Oba0adf#2 cdf#16 wadf#3 adf#9 clwadf#2 adf#2 adf#4 cpgomesbex,Oba0adf#2 cdf#16 df#7 kdf#5 h#4 plwa2a3a4c"
def jX(K:Frag):TS:=
 by exists ":gkerdf#1 ex,Oba0adf#1 cdf#3 h#4 {Pb"
def jY(K:Frag):TS:=
 by exists ":gken1ex,Oba0adf#0 cdf#12 ~mb#2 Ph#2 Ph#3 ~n{Qb"
def dO(K:Frag):TS:=
 by exists ":gkvawadf#1 adf#1 cawadf#2 adf#2 cawadf#1 adf#4 cawadf#3 adf#2 cawadf#2 adf#3 cawadf#3 adf#3 cawadf#4 adf#1 cawadf#2 adf#2 cawadf#1 adf#5 cawadf#2 adf#2 cawadf#5 adf#1 cawadf#3 adf#1 cch#1 {Rb"
theorem AW {H0:Hp} {a:Addr} {ns:List Int} {h w:Int} {v1:Option V} (s0:Same H0 H) (hS:SqL K H a (ns.map V.int)) (hn:ns.length<=63) (F:1<=h/\h<=6/\1<=w/\w<=6/\h*w<=9) (g1:1<=g) (g3:g<=3)
  (q:∀(p:Addr) (h w g:Int) (H':Hp),Same H0 H'->H0 p=none->IsFl H' p h w g->FlOk h w g->h*w<=9->g<=5->Q (.ref p) H'):
  fQ K {nx:=λ_ H'=>Q .non H',rt:=Q} [some (.ref a),v1,some (.int h),some (.int w),some (.int g)] H:=by
 have fin:∀(H1:Hp) (g:Int),Same H0 H1->1<=g->g<=5->∀ p,H1 p=none->Q (.ref p) (upd H1 p (.tup [.int h,.int w,.int g])):=λH1 g s1 g1 g5 p hp=>q p h w g _ (s1.trans ((OL H1).laid hp)) (s1.free hp) ag ⟨F.1,F.2.1,F.2.2.1,F.2.2.2.1,by omega,g1,by omega⟩ F.2.2.2.2 g5;unfold fQ;symm;refine⟨a,ns,2,rfl,hS,hn,by decide,by decide,?_⟩;symm;refine⟨by decide,lnR rfl,λt ht=>?_⟩;obtain⟨H1,z9,s1,et⟩:∃ z,upd H t (.tup [V.int 3,V.int 9])=z/\Same H z/\z t=some (.tup (([3,9]:List Int).map V.int)):=aX _ ht;rw[z9];have s01:=s0.trans s1;rw[B8 et];refine⟨_,rfl,?_⟩
 cases decide (lawAt ns 2%16∈([3,9]:List Int)) with
 | true=>
  refine iteT ⟨lnR rfl,λp hp=>?_⟩;exact q p 2 2 4 _ (s01.trans ((OL H1).laid hp)) (s01.free hp) ag ⟨by decide,by decide,by decide,by decide,by decide,by decide,by decide⟩ (by decide) (by decide)
 | false=>
  refine iteF ?_;rw[aN];symm;refine⟨a,ns,2,rfl,s1.seq hS,hn,by decide,by decide,?_⟩;symm;refine⟨by decide,?_⟩
  cases decide (lawAt ns 2%16=7) with
  | true=>
   refine iteT ?_;symm;exact⟨lnR rfl,fin H1 5 s01 (by decide) (by decide)⟩
  | false=>
   refine iteF ?_;symm;exact⟨lnR rfl,fin H1 g s01 g1 (by omega)⟩
theorem ra(h:bK K vs H Q E):dO K {nx:=λ_ H'=>Q .non H',rt:=Q} (start ["_law_script","_law_sizes","_law_high","_law_wide","_law_signs"] vs) H:=by
 obtain⟨a,ns,rfl,hS,hn,q⟩:=h;show dO K _ [some (.ref a),none,none,none,none] H;unfold dO;rw[az,dH,fX];refine yW fl69 H _ λas H1 s1 hl ha=>?_;have hl12:as.length=12:=hl;refine⟨by rw[OF];exact bd (by omega),λU hU=>?_⟩;obtain⟨H2,z9,s2,eU⟩:=aX (.lst (as.map V.ref)) hU;rw[z9];have s12:=s1.trans s2;unfold jY;symm;refine⟨a,ns,0,rfl,s12.seq hS,hn,by decide,by decide,?_⟩;symm;refine⟨by decide,?_⟩;generalize lawAt ns 0=y at*;have j0:=Pj y (show(12:Int)≠0 by decide);have j1:=Pa y (show(0:Int)<12 by decide);have ej:y%12=(((y%12).toNat:Nat):Int):=by omega
 have hj:(y%12).toNat<fl69.length:=by show _<12;omega
 rw[ej];generalize (y%12).toNat=j at*;have ea:as[j]? =some (as[j]'(by omega)):=OG (by omega);have ep:fl69[j]? =some fl69[j]:=OG hj;have et:=ha j _ _ ea ep;have ok2:=ER _ (Pt hj);generalize fl69[j]=pr at*;refine ixL eU (v:=V.ref (as[j]'(by omega))) (dr (by rw[OH,ea];rfl)) ?_;refine ur (s2 _ _ et) rfl ?_;rw[yg];unfold jX;symm;refine⟨a,ns,1,rfl,s12.seq hS,hn,by decide,by decide,?_⟩;symm;have g0:=Pj (lawAt ns 1) (show(3:Int)≠0 by decide);have g1:=Pa (lawAt ns 1) (show(0:Int)<3 by decide);exact⟨by decide,AW s12 (s12.seq hS) hn ok2 (by omega) (by omega) q⟩
def pmR(r:RR)(ns:List Nat):RR:=⟨r.k,r.n,r.m,ns,ns.map λ(n:Nat)=>(n:Int)⟩
theorem Ct{k:RK}(h:fK k=true):allK k=false:=by revert h;cases k <;> decide
variable{r:RR}{ns:List Nat}{h w g:Int}
theorem FX(O:r.Ok h w g)(hk:fK r.k=true)(p:ns.Perm r.ns):(pmR r ns).Ok h w g:=by
 obtain⟨c1,c2,c3,c4,c5⟩:=O.cl.told (Ct hk);refine⟨O.k0,O.n0,O.nz,O.m0,O.mz,⟨λ_=>⟨λe=>c1 ?_,by rw[show(pmR r ns).ns=ns from rfl,p.length_eq];exact c2,λn hn=>c3 n (p.mem_iff.mp hn),p.nodup_iff.mpr c4,rfl⟩,λha=>?_⟩,λx hx=>O.ns0 x (p.mem_iff.mp hx),by rw[show(pmR r ns).ns=ns from rfl,p.length_eq];exact O.len⟩
 . rw[show(pmR r ns).ns=ns from rfl]at e;rw[e]at p;exact p.symm.eq_nil
 . have:allK r.k=true:=ha;rw[Ct hk]at this;cases this
def rwR(t:Bool)(r:RR):RR:=if fK r.k then pmR r (if t then(srN r.ns).reverse else srN r.ns) else r
theorem ES(t:Bool)(ns:List Nat):(if t then(srN ns).reverse else srN ns).Perm ns:=by
 cases t
 . exact cF ns
 . exact(List.reverse_perm _).trans (cF ns)
variable{t:Bool}
theorem FY(O:r.Ok h w g):(rwR t r).Ok h w g:=by
 unfold rwR
 split
 . rename_i hk;exact FX O hk (ES t _)
 . exact O
theorem GK:(rwR t r).k=r.k:=by unfold rwR;split <;> rfl
theorem ET:(rwR false r).txt=tx (fT r):=by
 unfold rwR
 split
 . rename_i hk
   show tx (catL 32 (rowW r.k r.n r.m (srN r.ns)))=_;unfold fT fNs;rw[hk,O6 rfl]
 . rename_i hk
   show tx (catL 32 (rowW r.k r.n r.m r.ns))=_;unfold fT fNs;rw[O0 hk]
def hdW(k:RK)(n m:Nat):List (List Nat):=nmC k::((if numK k then [numC n] else [])++(if sgnK k then [numC m] else []))
theorem Cu(k:RK)(n m:Nat)(ns:List Nat):rowW k n m ns=hdW k n m++ns.map numC:=by
 unfold rowW hdW;cases numK k <;> cases sgnK k <;> simp
def frF(k:RK):Nat:=if fK k then frN k else 0
theorem FZ{k:RK}{n m:Nat}(h:fK k=true):(hdW k n m).length=frF k:=by revert h;cases k <;> intro h <;> first | (cases h;done) | rfl
theorem Ga{k:RK}(h:fK k=false):frF k=0:=by unfold frF;rw[h];rfl
theorem GL{k:RK}(h:fK k=true):1<=frF k/\frF k<=3:=by revert h;cases k <;> decide
def vZ:List (Key × V):=[(.inr (tx [117,110,108,105,107,101]),V.int 1),(.inr (tx [115,117,109]),V.int 2),(.inr (tx [99,111,117,110,116]),V.int 3)]
theorem DD(k:RK)(k0:k≠.Rule):(valV (i7 [] vZ) (Sum.inr (tx (nmC k)))).getD (V.int 0)=V.int (frF k:Int):=by
 revert k0
 cases k <;> intro k0 <;> first | (exact absurd rfl k0) | rfl | decide+kernel
def bV(K:Frag):Sp:=λvs H Q _=>∃(x:RR) (t:Bool) (h w g:Int),vs=[.str x.txt,.bl t]/\FlOk h w g/\x.Ok h w g/\∀ H',Same H H'->Q (.str (rwR t x).txt) H'
variable{K:Frag}{vs:List V}{H:Hp}{Q:VK}{E:XK}
theorem xm(h:bV K vs H Q E):vs.length=2:=by
 obtain⟨_,_,_,_,_,rfl,_⟩:=h;rfl
def ge(K:Frag):TS:=
 by exists ":lFb[~xdtu`0aerYZ2+*3D&-- zb4h#1 Bq;a1cc",[32]
def jK(K:Frag):TS:=
 by exists ":goC1k{S4h#4 p{Tb"
def gf(K:Frag):TS:=
 by exists ":gkq~PaD&-- zbYZ2*3+h#1 Bq~[a1cch#4 {Ub"
def jL(K:Frag):TS:=
 by exists ":gomesb3df#0 l0p{Vb"
def jM(K:Frag):TS:=
 by exists ":gk{W{X`0en2df#0 df#0 h#3 {Yb",[((tC (.str (tx [117,110,108,105,107,101]))),(tC (.int 1))),((tC (.str (tx [115,117,109]))),(tC (.int 2))),((tC (.str (tx [99,111,117,110,116]))),(tC (.int 3)))]
def jx(K:Frag):TS:=
 by exists ":gkFb[~L0adtu`0ch#2 {Zb",[32]
variable{H0:Hp}{hd:List (List Nat)}{v0 v1:Option V}
theorem sS {W C:Addr} {zs:List Nat} (s0:Same H0 H) (eW:H W=some (.lst (((hd++ns.map numC).map tx).map V.str))) (eC:H C=some (.lst ((zs.map λ(n:Nat)=>(n:Int)).map V.int))) (hn:hd.length<=10) (hl:∀ x∈hd,x.length<=20) (nn:zs.length<=16) (ni:∀ x∈zs,x<100)
  (q:∀ H',Same H0 H'->Q (.str (tx (catL 32 (hd++zs.map numC)))) H'):
  ge K {nx:=λ_ H'=>Q .non H',rt:=Q} [v0,v1,some (.ref W),some (.int (hd.length:Int)),some (.ref C)] H:=by
 unfold ge;symm;refine⟨pX,?_⟩;refine ly eW λA hA=>?_;rw[yG,← Q5,← Q5,List.take_left];obtain⟨H1,z9,s1,eA⟩:=aX (.lst ((hd.map tx).map V.str)) hA;rw[z9];symm;have eC1:=s1 _ _ eC;refine⟨⟨_,Pc eC1⟩,?_⟩;refine bn (xs:=(zs.map λ(n:Nat)=>(n:Int)).map V.int) (λ_=>true) (λi=>.str (tx (numC (zs.getD i 0)))) (by simp;omega) (Pc eC1) ?_ ?_ ?_
 . intro i y H3 R hy s3 k3;exact k3 _ (OL _)
 . intro i y H3 Q3 hy _ s3 k3;rw[OH,OH]at hy
   cases e:zs[i]? with
   | none=>rw[e]at hy;cases hy
   | some n=>
    rw[e]at hy;cases hy;have eg:zs.getD i 0=n:=by rw[List.getD,e];rfl
    rw[eg]at k3;show tCB kStr _ [none,some (.int (n:Int))] H3 Q3;symm;exact DZ (by have:=ni n (ON e);omega) (k3 _ (OL _))
 . intro T H3 hT s3 eT
   have et:((List.range ((zs.map λ(n:Nat)=>(n:Int)).map V.int).length).filter λ_=>true).map (λi=>V.str (tx (numC (zs.getD i 0))))=((zs.map numC).map tx).map V.str:=by
    rw[aU,OF,OF,O4,O4];refine PJ (by simp) λi h1 h2=>?_;have hi:i<zs.length:=by simpa using h2
    simp[List.getD,OG hi]
   rw[et]at eT;symm;refine pE (s3 _ _ eA) eT (by simp;omega) λZ hZ=>?_;have s4:Same H3 (upd H3 Z (.lst ((hd.map tx).map V.str++((zs.map numC).map tx).map V.str))):=(OL H3).laid hZ;have eZ:(upd H3 Z (.lst ((hd.map tx).map V.str++((zs.map numC).map tx).map V.str))) Z=some (.lst (((hd++zs.map numC).map tx).map V.str)):=by rw[ag,PB,PB]
   generalize upd H3 Z (.lst ((hd.map tx).map V.str++((zs.map numC).map tx).map V.str))=H4 at*
   refine vx eZ (kb (by simp;omega) (λt ht=>by
    obtain⟨z,hz,rfl⟩:=OP.mp ht;rw[cr];rcases OY.mp hz with hz | hz
    . have:=hl z hz;omega
    . obtain⟨y,_,rfl⟩:=OP.mp hz;exact O7 gH (by decide)) (by rw[cr];decide)) ?_
   rw[p7,mG];exact q _ (((s0.trans s1).trans s3).trans s4)
theorem EU:∀ z∈(ns.map λ(n:Nat)=>(n:Int)),0<=z:=λz hz=>by
 obtain⟨n,_,rfl⟩:=OP.mp hz;omega
theorem EV{zs:List Int}(h:∀ z∈zs,0<=z):zs=(zs.map Int.toNat).map λ(n:Nat)=>(n:Int):=by
 rw[O4]
 conv=>lhs;rw[← QA zs]
 exact Pl λy hy=>by have:=h y hy;show y=((y.toNat:Nat):Int);omega
variable{v4:Option V}
theorem zI {W:Addr} (s0:Same H0 H) (eW:H W=some (.lst (((hd++ns.map numC).map tx).map V.str))) (hn:hd.length<=10) (hl:∀ x∈hd,x.length<=20) (nn:ns.length<=16) (ni:∀ x∈ns,x<100)
  (q:∀ H',Same H0 H'->Q (.str (tx (catL 32 (hd++(if t then(srN ns).reverse else srN ns).map numC)))) H'):
  gf K {nx:=λ_ H'=>Q .non H',rt:=Q} [v0,some (.bl t),some (.ref W),some (.int (hd.length:Int)),v4] H:=by
 unfold gf;generalize hV:jK K=V4 at*;symm;refine ly eW λB hB=>?_;rw[tP,← Rp,← Rp,List.drop_left];obtain⟨H2,z9,s2,eB⟩:=aX (.lst (((ns.map numC).map tx).map V.str)) hB;rw[z9];refine⟨B,rfl,⟨_,Pc eB⟩,?_⟩;refine bn (xs:=((ns.map numC).map tx).map V.str) (λ_=>true) (λi=>.int ((ns.getD i 0:Nat):Int)) (by simp;omega) (Pc eB) ?_ ?_ ?_
 . intro i y H3 R hy s3 k3;exact k3 _ (OL _)
 . intro i y H3 Q3 hy _ s3 k3;rw[OH,OH,OH]at hy
   cases e:ns[i]? with
   | none=>rw[e]at hy;cases hy
   | some n=>
    rw[e]at hy;cases hy;have eg:ns.getD i 0=n:=by rw[List.getD,e];rfl
    rw[eg]at k3;show tCB mm _ [none,some (.str (tx (numC n)))] H3 Q3;symm;exact GG (ni n (ON e)) (k3 _ (OL _))
 . intro T H3 hT s3 eT
   have et:((List.range (((ns.map numC).map tx).map V.str).length).filter λ_=>true).map (λi=>V.int ((ns.getD i 0:Nat):Int))=(ns.map λ(n:Nat)=>(n:Int)).map V.int:=by
    rw[aU,OF,OF,OF,O4];refine PJ (by simp) λi h1 h2=>?_;have hi:i<ns.length:=by simpa using h2
    simp[List.getD,OG hi]
   rw[et]at eT;have s03:=(s0.trans s2).trans s3;symm;refine tq eT (by rw[OF];omega) λzs l2 hl2 pm up=>?_;obtain⟨H4,z9,s4,e4⟩:=aX (.lst (zs.map V.int)) hl2;rw[z9];have z0:∀ z∈zs,0<=z:=λz hz=>EU z (pm.mem_iff.mp hz)
   have ez:zs.map Int.toNat=srN ns:=by
    refine rT ((pm.map Int.toNat).trans ?_) (Qw.mpr (Qn (λ{a b} ha hb hab=>by have:=z0 a ha;have:=z0 b hb;omega) up)) (uN _);rw[O4]
    have:ns.map (Int.toNat ∘ λ(n:Nat)=>(n:Int))=ns:=by
     conv=>rhs;rw[← QA ns]
     exact Pl λy _=>rfl
    rw[this];exact(cF ns).symm
   have e5:=EV z0;rw[ez]at e5;subst hV;have eW4:=((s2.trans s3).trans s4) _ _ eW;have s04:=s03.trans s4;have sl:(srN ns).length<=16:=by rw[(cF ns).length_eq];exact nn
   have si:∀ x∈srN ns,x<100:=λx hx=>ni x ((cF ns).mem_iff.mp hx);unfold jK;generalize hV:ge K=V5 at*;rw[az]
   cases t with
   | false=>
    rw[aN,w_b];symm;subst hV;exact sS s04 eW4 (zs:=srN ns) (by rw[e4,e5]) hn hl sl si q
   | true=>
    rw[aN,w_b];symm;rw[BN];symm;refine⟨l2,_,rfl,e4,λl3 hl3=>?_⟩;have s5:Same H4 (upd H4 l3 (.lst (zs.map V.int).reverse)):=(OL H4).laid hl3
    have e6:(upd H4 l3 (.lst (zs.map V.int).reverse)) l3=some (.lst (((srN ns).reverse.map λ(n:Nat)=>(n:Int)).map V.int)):=by
     rw[ag,e5,List.map_reverse,List.map_reverse]
    generalize upd H4 l3 (.lst (zs.map V.int).reverse)=H5 at*;subst hV;exact sS (s04.trans s5) (s5 _ _ eW4) (zs:=(srN ns).reverse) e6 hn hl (by rw[List.length_reverse];exact sl) (λx hx=>si x (List.mem_reverse.mp hx)) q
theorem xn(h:bV K vs H Q E):jx K {nx:=λ_ H'=>Q .non H',rt:=Q} (start ["_law_line_here","_law_turned","_law_words","_law_front","_law_cells"] vs) H:=by
 obtain⟨x,t,h,w,g,rfl,F,O,q⟩:=h;have ew0:atI ((x.ws.map tx).map V.str) 0=some (V.str (tx (nmC x.k))):=dr (j:=0) rfl;show jx K _ [some (.str x.txt),some (.bl t),none,none,none] H;unfold jx;generalize hV:jM K=V1 at*;symm;refine⟨pX,?_⟩;refine Ah O F λW hW=>?_;obtain⟨H1,z9,s1,eW⟩:=aX (.lst ((x.ws.map tx).map V.str)) hW;rw[z9];subst hV;unfold jM;generalize hV:jL K=V2 at*;rw[az,dH];unfold xZ tDisp;intro p hp;unfold mQ mQ mQ mQ;symm;refine⟨ag,vZ,rfl,by show(3:Nat)<=15;decide,.inl ⟨_,.inl ag⟩,?_⟩;have s2:Same H1 (upd (upd H1 p (.dK [])) p (.dK (i7 [] vZ))):=((OL H1).laid hp).own hp;have ed:(upd (upd H1 p (.dK [])) p (.dK (i7 [] vZ))) p=some (.dK (i7 [] vZ)):=ag;generalize upd (upd H1 p (.dK [])) p (.dK (i7 [] vZ))=H2 at*;have s12:=s1.trans s2;have eW2:=s2 _ _ eW;refine ixL eW2 ew0 ?_;refine⟨_,DGet.k (k:=Sum.inr (tx (nmC x.k))) ed,?_⟩;rw[DD x.k O.k0];subst hV;unfold jL;generalize hV:gf K=V3 at*;rw[az,aN];symm
 cases hf:fK x.k with
 | false=>
  rw[Ga hf];refine iteT ?_;have e:(rwR t x).txt=x.txt:=by unfold rwR;rw[hf];rfl
  rw[e]at q;symm;exact q H2 s12
 | true=>
  have f1:=GL hf;rw[OW (by omega)];refine iteF ?_
  have e:(rwR t x).txt=tx (catL 32 (hdW x.k x.n x.m++(if t then(srN x.ns).reverse else srN x.ns).map numC)):=by
   unfold rwR;rw[hf,O6 rfl,← Cu];rfl
  rw[e]at q;rw[← FZ (n:=x.n) (m:=x.m) hf]at f1 ⊢;subst hV;refine zI s12 ?_ (by omega) ?_ O.len O.ns0 q
  . rw[eW2];unfold RR.ws;rw[Cu]
  . intro y hy;unfold hdW at hy;rcases OM.mp hy with rfl | hy
    . exact yH x.k
    . rcases OY.mp hy with hy | hy
      . split at hy
        . rw[OR.mp hy];exact O7 gH (by decide)
        . cases hy
      . split at hy
        . rw[OR.mp hy];exact O7 gH (by decide)
        . cases hy
def bz(K:Frag)(c:RCl RK)(d:RCl PzK):Sp:=cV K c d
def nN(K:Frag)(c:RCl RK)(d:RCl PzK):TS:=
 by exists ":lwaAjE~c~dbij0caq'BaD&-- zbAjE~E~Fbij0ch#1 B,'Fba1adVGccaAjE~o~pbij0cc"
variable{c:RCl RK}{d:RCl PzK}
theorem yX(h:bz K c d vs H Q E):nN K c d {nx:=λ_ H'=>Q .non H',rt:=Q} (start ["_law_puzzle"] vs) H:=by
 obtain⟨P,L,G,h,w,g,rows,cl,rfl,X,q⟩:=h;obtain⟨dx,p0,rs,h1,h2,h3⟩:=X.ex;have F:=X.R.F;have rn:=X.R.n;show nN K c d _ [some (.ref P)] H;unfold nN;symm;refine methE (k:=.Puzzle) rfl X.ok h1 (by rfl) ?_;symm;refine⟨P,L,G,h,w,g,rows,cl,rfl,X,λp hp=>?_⟩;symm;refine methE (k:=.Puzzle) rfl X.ok h1 (by rfl) ?_;symm;refine⟨P,L,G,h,w,g,rows,cl,rfl,X,λl H1 s1 hl el=>?_⟩;refine⟨l,rfl,⟨_,Pc el⟩,?_⟩;refine bn (xs:=(rows.map RR.txt).map V.str) (λ_=>true) (λi=>.str ((rows[i]?.map λr=>tx (fT r)).getD (tx []))) (by rw[OF,OF];omega) (Pc el) ?_ ?_ ?_
 . intro i y H2 R hy s2 k2;exact k2 _ (OL _)
 . intro i y H2 Q2 hy hb s2 k2;rw[OH,OH]at hy
   cases e:rows[i]? with
   | none=>rw[e]at hy;cases hy
   | some x=>
    rw[e]at hy k2;cases hy;show tCall _ _ _ _ [none,some (.str x.txt)] H2 Q2;symm;refine⟨x,false,h,w,g,rfl,F,X.R.ok _ (ON e),λH' s3=>?_⟩;rw[ET];exact k2 H' s3
 . intro M H2 hM s2 eM
   have et:((List.range ((rows.map RR.txt).map V.str).length).filter λ_=>true).map (λi=>V.str ((rows[i]?.map λr=>tx (fT r)).getD (tx [])))=((rows.map fT).map tx).map V.str:=by
    rw[aU,OF,OF,O4,O4];refine PJ (by simp) λi h1 h2=>?_;have hi:i<rows.length:=by simpa using h2
    simp[OG hi]
   rw[et]at eM;have s12:=s1.trans s2;symm;refine Al eM (by rw[OF];omega) λL2 hL2=>?_;obtain⟨H3,z9,s3,eL⟩:=aX (.lst (((srS (rows.map fT)).map tx).map V.str)) hL2;rw[z9];have s13:=s12.trans s3;have X3:=X.same s13;obtain⟨dx3,p03,rs3,h13,_,_⟩:=X3.ex;symm;refine methE (k:=.Puzzle) rfl X.ok h13 (by rfl) ?_;symm;refine⟨P,L,G,h,w,g,rows,cl,rfl,X3,λf hf=>?_⟩;have s4:Same H3 (upd H3 f (.lst (cl.map V.int))):=(OL H3).laid hf;have ef:(upd H3 f (.lst (cl.map V.int))) f=some (.lst (cl.map V.int)):=ag;have nL:L2≠f:=λe=>by rw[← e,eL]at hf;cases hf
   generalize upd H3 f (.lst (cl.map V.int))=H4 at*;refine⟨lnR rfl,λT hT=>?_⟩;have s14:=s13.trans s4;have s5:Same H4 (upd H4 T (.tup [.ref p,.ref L2,.ref f])):=(OL H4).laid hT
   exact q T p L2 f _ (s14.trans s5) (s14.free hT) (s12.free hL2) (s13.free hf) nL ⟨ag,(s14.trans s5) _ _ hp,(s4.trans s5) _ _ eL,s5 _ _ ef,λt ht=>by
    obtain⟨r,hr,rfl⟩:=OP.mp ((ik _).mem_iff.mp ht);exact D6 (X.R.ok r hr) F⟩
def lsX(g:Int)(one:List Int):List (List Int):=((List.range g.toNat).filter λ(i:Nat)=>!decide ((1+(i:Int))∈one)).map λ(i:Nat)=>one++[1+(i:Int)]
def lsN(g:Int):Nat->List (List Int)
 | 0=>[[]]
 | n+1=>(lsN g n).flatMap (lsX g)
theorem Gb:∀ g∈([1,2,3,4]:List Int),lsN g g.toNat=(io (List.replicate g.toNat (plnL g))).filter (exOk g)/\∀ i∈List.range 5,(lsN g i).length<=64/\∀ one∈lsN g i,one.length<=4:=by decide+kernel
theorem Ao{one:List Int}(g4:g<=4):(lsX g one).length<=4:=by
 unfold lsX;rw[OF];have:=Qe (λ(i:Nat)=>!decide ((1+(i:Int))∈one)) (List.range g.toNat);rw[PY]at this;omega
theorem Ap{g:Int}(g4:g<=4):∀ OB:List (List Int),(OB.flatMap (lsX g)).length<=4*OB.length
 | []=>OQ _
 | x::r=>by
  rw[List.flatMap_cons,OU,Pq];have:=Ap g4 r;have:=Ao (one:=x) g4;omega
variable{l:Addr}{OB:List (List Int)}
theorem EW{H1:Hp}{M:Addr}{as us:List Addr}{zs:List (List Int)}(X:IsLL H l as OB)(nl:l∉as)(hl:H1 l≠none)(nw:NewAt H1 H M us (zs.map λxs=>.lst (xs.map V.int))):IsLL (upd H l (.lst (as.map V.ref++us.map V.ref))) l (as++us) (OB++zs)/\l∉as++us:=by
 have nu:l∉us:=λh=>hl (nw.fr l h);have xl:=X.len;have ul:=nw.len;rw[OF]at ul;refine⟨⟨by rw[ag,PB],by rw[OU,OU];omega,λj a xs h1 h2=>?_⟩,λh=>(OY.mp h).elim nl nu⟩;rcases Qo j as.length with hj | hj
 . rw[O9 hj]at h1;rw[O9 (by omega)]at h2;rw[ah (λ(e:a=l)=>nl (by rw[← e];exact ON h1))];exact X.at_ j a xs h1 h2
 . rw[O8 hj]at h1;rw[O8 (by omega),← xl]at h2;rw[ah (λ(e:a=l)=>nu (by rw[← e];exact ON h1))];exact nw.at_ _ a _ h1 (by rw[OH,h2];rfl)
def cG(K:Frag)(c:RCl RK)(d:RCl PzK):Sp:=fP K c d
def uT(K:Frag)(c:RCl RK)(d:RCl PzK):TS:=
 by exists ":Jzb2h#5 HFbI~D4aD&--5 'iadf#1 aer1df#1 ch#1 me~kb~l12er2va1cc"
def nO(K:Frag)(c:RCl RK)(d:RCl PzK):TS:=
 by exists ":gJTa1ch#3 gkvch#4 g{*bijk4h#2 l2"
def gg(K:Frag)(c:RCl RK)(d:RCl PzK):TS:=
 by exists ":gkvavcch#2 {+bij"
def jN(K:Frag)(c:RCl RK)(d:RCl PzK):TS:=
 by exists ":gome>qKaD&-- zbAjE~E~Fbij0ch#1 me~kbGenFb[~L1adtu`0cdf#0 wadtu`1adtu`2adtu`3c1cdf#0 lva~Badf#1 aer1df#1 ccp{-bij",[32],[115,117,109],[114,105,115,105,110,103],[115,101,101,110]
def lZ(K:Frag)(c:RCl RK)(d:RCl PzK):TS:=
 by exists ":gkenAjE~c~dbij0cdf#2 h#1 {/bij"
variable{P L:Addr}{v3:Option V}
theorem DE {D:Ends} {B:Addr} {bs:List Addr} {v5:Option V} (g1:1<=g) (g4:g<=4) (X:IsLL H B bs OB) (xl:OB.length<=64) (xo:∀ one∈OB,one.length<=4) (hL:H L=none)
  (q:∀(us:List Addr) (v5:Option V) (H':Hp),Same H H'->IsLL H' L us (OB.flatMap (lsX g))->(∀ u∈us,H u=none)->D.nx [some (.ref P),some (.int g),some (.ref B),v3,some (.ref L),v5] H'):
  uT K c d D [some (.ref P),some (.int g),some (.ref B),v3,some (.ref L),v5] (upd H L (.lst [])):=by
 have s1:Same H (upd H L (.lst [])):=(OL H).laid hL;have e1:(upd H L (.lst [])) L=some (.lst (([]:List Addr).map V.ref)):=ag;generalize upd H L (.lst [])=H1 at*;have bl:=X.len;unfold uT;symm;refine⟨⟨_,Pc (s1 _ _ X.top)⟩,?_⟩
 refine kO (K:=K) (xs:=bs.map V.ref) (λj σ H'=>∃(us:List Addr) (v5:Option V),σ=[some (.ref P),some (.int g),some (.ref B),v3,some (.ref L),v5]/\Same H H'/\IsLL H' L us ((OB.take j).flatMap (lsX g))/\L∉us/\∀ u∈us,H u=none)
  ⟨[],v5,rfl,s1,⟨e1,rfl,λj a xs e=>by simp at e⟩,by simp,λu hu=>nomatch hu⟩ (λj σ' H' _ ⟨_,_,_,s,_⟩=>Pc (s _ _ X.top)) ?_ ?_
 . rintro j x σ H2 hx ⟨us,v5,rfl,s2,Y,nL,fr⟩;obtain⟨b,hb,rfl⟩:=bq hx;have hj:=(OK.mp hb).1;have ho:OB[j]? =some (OB[j]'(by omega)):=OG (by omega);have eb:=X.at_ j b _ hb ho;have ol:=xo _ (ON ho);generalize OB[j]'(by omega)=one at*;have yl:=Y.len;have fl:=Ap g4 (OB.take j);have tl:=RV j OB;rw[aS];symm;refine⟨bA Y.top,?_⟩;refine⟨1,g+1,rfl,⟨by omega,by omega,by omega,by omega⟩,?_⟩;rw[show(g+1-1).toNat=g.toNat by omega];refine zB (n:=g.toNat) (λi=>!decide ((1+(i:Int))∈one)) (λi=>.lst ((one++[1+(i:Int)]).map V.int)) (by omega) ?_ ?_ ?_
   . intro i H4 R4 hi s4 k4;show tTest _ [none,some (.int (1+(i:Int))),some (.ref b)] H4 R4;symm;rw[Gu ((s2.trans s4) _ _ eb)];exact⟨_,rfl,k4 _ (OL _)⟩
   . intro i H4 Q4 hi hbi s4 k4;show tOp cAdd _ _ [none,some (.int (1+(i:Int))),some (.ref b)] H4 Q4;symm;refine⟨lnR rfl,λt ht=>?_⟩;obtain⟨H5,z9,s5,e5⟩:=aX (.lst [V.int (1+(i:Int))]) ht;rw[z9];refine pE (((s2.trans s4).trans s5) _ _ eb) e5 (by rw[OF];show one.length+1<=1000;omega) λr hr=>?_;refine k4 r _ (s5.trans ((OL H5).laid hr)) (s5.free hr) ?_;rw[ag,PB];rfl
   . intro M ws H4 hM s4 eM nw
     have e4:((List.range g.toNat).filter λ(i:Nat)=>!decide ((1+(i:Int))∈one)).map (λ(i:Nat)=>HO.lst ((one++[1+(i:Int)]).map V.int))=(lsX g one).map λxs=>HO.lst (xs.map V.int):=by
      unfold lsX;rw[O4];rfl
     rw[e4]at nw;have nl:=nw.len;rw[OF]at nl;have l4:=Ao (one:=one) g4;have Y4:=Y.same s4;refine qX Y4.top eM (by rw[OF,OF];omega) ?_;obtain⟨Z,nZ⟩:=EW Y4 nL (by rw[Y.top];simp) nw;refine⟨us++ws,_,rfl,(s2.trans s4).own hL,?_,nZ,λu hu=>?_⟩
     . rw[Ri,ho,RU]
       simpa using Z
     . rcases OY.mp hu with hu | hu
       . exact fr u hu
       . exact s2.free (nw.fr u hu)
 . rintro σ H2 ⟨us,v5,rfl,s2,Y,nL,fr⟩;rw[OF,bl,Rn]at Y;exact q us v5 H2 s2 Y fr
variable{rows:List RR}
theorem zJ (s0:Same H0 H) (g1:1<=g) (g4:g<=4) (hr:recR rows=false)
  (q:∀(l:Addr) (as:List Addr) (H':Hp),Same H0 H'->H0 l=none->IsLL H' l as (exL g rows)->(∀ a∈as,H0 a=none)->Q (.ref l) H'):
  gg K c d {nx:=λ_ H'=>Q .non H',rt:=Q} [some (.ref P),some (.int g),none,none,none,none] H:=by
 have al:=Gb g (by have:g=1\/g=2\/g=3\/g=4:=by omega
                   rcases this with rfl | rfl | rfl | rfl <;> decide)
 unfold gg;symm;refine⟨bd (by decide),λA hA=>⟨lnR rfl,λB hB=>?_⟩⟩;have s1:Same H (upd H A (.lst [])):=(OL H).laid hA;have e1:(upd H A (.lst [])) A=some (.lst (([]:List Int).map V.int)):=ag;generalize upd H A (.lst [])=H1 at*;have s2:Same H1 (upd H1 B (.lst [V.ref A])):=(OL H1).laid hB;have nAB:A≠B:=λe=>by rw[← e,e1]at hB;cases hB
 have x2:IsLL (upd H1 B (.lst [V.ref A])) B [A] (lsN g 0):=⟨ag,rfl,λj a xs h1 h2=>by
  cases j with
  | zero=>cases h1;cases h2;rw[ah nAB];exact e1
  | succ j=>simp at h1⟩
 generalize upd H1 B (.lst [V.ref A])=H2 at*;have s02:=(s0.trans s1).trans s2;have fA:H0 A=none:=s0.free hA;have fB:H0 B=none:=(s0.trans s1).free hB;unfold nO;symm;refine⟨g,rfl,by omega,by omega,?_⟩;refine cK (n:=g.toNat) (λi σ H'=>∃(v3 v4 v5:Option V) (B:Addr) (bs:List Addr),σ=[some (.ref P),some (.int g),some (.ref B),v3,v4,v5]/\Same H0 H'/\IsLL H' B bs (lsN g i)/\H0 B=none/\∀ b∈bs,H0 b=none) ⟨none,none,none,B,[A],rfl,s02,x2,fB,λb hb=>by rw[OR.mp hb];exact fA⟩ ?_ ?_
 . rintro i σ H3 hi ⟨v3,v4,v5,B,bs,rfl,s3,x3,fB,fb⟩;have h5:=al.2 i (O5.mpr (by omega));rw[aS];generalize hV:uT K c d=V at*;symm;refine⟨bd (by decide),λL hL=>?_⟩;subst hV;refine DE (c:=c) (d:=d) (v5:=v5) g1 g4 x3 h5.1 h5.2 hL λus v5' H4 s4 Y fr=>?_;symm;exact⟨_,_,_,L,us,rfl,s3.trans s4,Y,s3.free hL,λu hu=>s3.free (fr u hu)⟩
 . rintro σ H3 ⟨v3,v4,v5,B,bs,rfl,s3,x3,fB,fb⟩;symm;rw[al.1]at x3;refine q B bs H3 s3 fB ?_ fb;unfold exL;rw[hr,O0 OI];exact x3
theorem xp(h:cG K c d vs H Q E):lZ K c d {nx:=λ_ H'=>Q .non H',rt:=Q} (start ["_law_puzzle","_law_many","_law_found","_law_k","_law_longer","_law_one"] vs) H:=by
 obtain⟨P,L,G,h,w,g,rows,cl,rfl,X,g4,q⟩:=h;obtain⟨dx,p0,rs,h1,h2,h3⟩:=X.ex;have F:=X.R.F;have rn:=X.R.n;have g1:=F.g0;have pl:=dy (g:=g) (by omega);have ok:=X.R.ok;show lZ K c d _ [some (.ref P),none,none,none,none,none] H;unfold lZ;generalize hV:jN K c d=V1 at*;symm;refine methE (k:=.Puzzle) rfl X.ok h1 (by rfl) ?_;symm;refine⟨P,L,G,h,w,g,rows,cl,rfl,X,λp hp=>?_⟩;refine ixT hp (v:=V.int g) rfl ?_;subst hV;unfold jN;generalize hV:gg K c d=V2 at*;rw[az,aN];symm;refine methE (k:=.Puzzle) rfl X.ok h1 (by rfl) ?_;symm;refine⟨P,L,G,h,w,g,rows,cl,rfl,X,λLl H1 s1 hLl hL=>?_⟩;refine⟨Ll,rfl,⟨_,Pc hL⟩,?_⟩;refine bn (xs:=(rows.map RR.txt).map V.str) (λi=>recB ((rows[i]?.map RR.k).getD .Rule)) (λi=>.str ((rows[i]?.map RR.txt).getD (tx []))) (by simp;omega) (Pc hL) ?_ ?_ ?_
 . intro i y H2 R hy s2 k2;rw[OH,OH]at hy
   cases e:rows[i]? with
   | none=>rw[e]at hy;cases hy
   | some x=>
    rw[e]at hy k2;cases hy;have ew0:atI ((x.ws.map tx).map V.str) 0=some (V.str (tx (nmC x.k))):=dr (j:=0) rfl;show tTest _ [none,some (.str x.txt)] H2 R;symm;refine⟨pX,?_⟩;refine Ah (ok x (ON e)) F λW hW=>?_;obtain⟨H3,z9,s3,eW⟩:=aX (.lst ((x.ws.map tx).map V.str)) hW;rw[z9];symm;refine ixL eW ew0 ?_;refine⟨lnR rfl,λT hT=>?_⟩;have s4:Same H3 (upd H3 T (.tup ([tx [115,117,109],tx [114,105,115,105,110,103],tx [115,101,101,110]].map V.str))):=(OL H3).laid hT;have eT:(upd H3 T (.tup ([tx [115,117,109],tx [114,105,115,105,110,103],tx [115,101,101,110]].map V.str))) T=some (.tup ([tx [115,117,109],tx [114,105,115,105,110,103],tx [115,101,101,110]].map V.str)):=ag;show cIn K false (V.str (tx (nmC x.k))) (V.ref T) (upd H3 T (.tup ([tx [115,117,109],tx [114,105,115,105,110,103],tx [115,101,101,110]].map V.str))) _;generalize upd H3 T (.tup ([tx [115,117,109],tx [114,105,115,105,110,103],tx [115,101,101,110]].map V.str))=H4 at*;rw[EJ eT,GF];exact⟨_,rfl,k2 _ (s3.trans s4)⟩
 . intro i y H2 Q2 hy hb s2 k2;rw[OH,OH]at hy
   cases e:rows[i]? with
   | none=>rw[e]at hy;cases hy
   | some x=>
    rw[e]at hy k2;cases hy;show tVar 1 [none,some (.str x.txt)] H2 Q2;symm;exact k2 _ (OL _)
 . intro T H2 hT s2 eT;symm;rw[gM eT];symm;rw[OF,OF,OF]
   have e:decide ((0:Int) < ((((List.range rows.length).filter λi=>recB ((rows[i]?.map RR.k).getD .Rule)).length:Nat):Int))=recR rows:=by
    unfold recR;rw[← GH (λr:RR=>recB r.k) rows (λi=>recB ((rows[i]?.map RR.k).getD .Rule)) (λi x hx=>by rw[hx];rfl),Pw,Pp,Pp];omega
   rw[e];have s12:=s1.trans s2
   cases hr:recR rows with
   | true=>
    refine iteT ?_;symm;refine⟨1,g+1,rfl,⟨by omega,by omega,by omega,by omega⟩,λS hS=>?_⟩;have s3:Same H2 (upd H2 S (.lst ((plnL g).map V.int))):=(OL H2).laid hS;have e3:(upd H2 S (.lst ((plnL g).map V.int))) S=some (.lst ((plnL g).map V.int)):=ag;show _/\∀ p,(upd H2 S (.lst ((plnL g).map V.int))) p=none->Q (.ref p) (upd (upd H2 S (.lst ((plnL g).map V.int))) p (.lst [V.ref S]));generalize upd H2 S (.lst ((plnL g).map V.int))=H3 at*;have s13:=s12.trans s3;refine⟨lnR rfl,λl hl=>?_⟩;have nS:S≠l:=λe=>by rw[← e,e3]at hl;cases hl
    refine q l [S] _ (s13.laid hl) (s13.free hl) ?_ (λa ha=>by rw[OR.mp ha];exact s12.free hS);unfold exL;rw[hr,O6 rfl];refine⟨ag,rfl,λj a xs e1 e2=>?_⟩
    cases j with
    | zero=>cases e1;cases e2;rw[ah nS];exact e3
    | succ j=>simp at e1
   | false=>
    refine iteF ?_;subst hV;exact zJ s12 g1 g4 hr q
structure IsF1(H:Hp)(l t:Addr)(m:Int × List Int)(f:Frm):Prop where
 ex:∃ S T p L C,H t=some (.tup [.int m.1,.ref S,.ref T])/\H S=some (.lst (m.2.map V.int))/\IsFm H T p L C f/\t≠l/\S≠l/\T≠l/\p≠l/\L≠l/\C≠l
variable{m:Int × List Int}
theorem IsF1.same{H':Hp}{t:Addr}{f:Frm}(x:IsF1 H l t m f)(s:Same H H'):IsF1 H' l t m f:=by
 obtain⟨S,T,p,L,C,a,b,c,r⟩:=x.ex;exact⟨S,T,p,L,C,s _ _ a,s _ _ b,c.same s,r⟩
theorem IsF1.put{t:Addr}{f:Frm}{o:HO}(x:IsF1 H l t m f):IsF1 (upd H l o) l t m f:=by
 obtain⟨S,T,p,L,C,a,b,c,n1,n2,n3,n4,n5,n6⟩:=x.ex;exact⟨S,T,p,L,C,by rw[ah n1];exact a,by rw[ah n2];exact b,⟨by rw[ah n3];exact c.T,by show(upd H l o) p=_;rw[ah n4];exact c.p,by rw[ah n5];exact c.L,by rw[ah n6];exact c.C,c.ok⟩,n1,n2,n3,n4,n5,n6⟩
structure IsFs(H:Hp)(l:Addr)(ts:List Addr)(ms:List (Int × List Int))(p:Pd):Prop where
 top:H l=some (.lst (ts.map V.ref))
 len:ts.length=ms.length
 at_:∀(i:Nat) t m,ts[i]? =some t->ms[i]? =some m->IsF1 H l t m (p.mv m.1 m.2).frm
variable{ts:List Addr}{ms:List (Int × List Int)}
theorem IsFs.same{H':Hp}{p:Pd}(x:IsFs H l ts ms p)(s:Same H H'):IsFs H' l ts ms p:=⟨s _ _ x.top,x.len,λi t m e1 e2=>(x.at_ i t m e1 e2).same s⟩
theorem IsFs.more{t:Addr}{p:Pd}(x:IsFs H l ts ms p)(y:IsF1 H l t m (p.mv m.1 m.2).frm):IsFs (upd H l (.lst (ts.map V.ref++[V.ref t]))) l (ts++[t]) (ms++[m]) p:=by
 have xl:=x.len;refine⟨by rw[ag,PB];rfl,by rw[OU,OU,xl];rfl,λi u n h1 h2=>?_⟩;rcases Qo i ts.length with hi | hi
 . rw[O9 hi]at h1;rw[O9 (by omega)]at h2;exact(x.at_ i u n h1 h2).put
 . rw[O8 hi]at h1;rw[O8 (by omega),← xl]at h2
   cases h:i-ts.length with
   | zero=>
    rw[h]at h1 h2;cases h1;cases h2;exact y.put
   | succ k=>rw[h]at h1;simp at h1
def dB(K:Frag)(c:RCl RK)(d:RCl PzK):Sp:=λvs H Q _=>∃(P L G:Addr) (h w g:Int) (rows:List RR) (cl:List Int),vs=[.ref P]/\IsPz H c d P L G h w g rows cl/\g<=4/\∀(l:Addr) (ts:List Addr) (H':Hp),Same H H'->H l=none->IsFs H' l ts (mvs g rows) ⟨h,w,g,rows,cl⟩->Q (.ref l) H'
theorem xq(h:dB K c d vs H Q E):vs.length=1:=by
 obtain⟨_,_,_,_,_,_,_,_,rfl,_⟩:=h;rfl
def uU(K:Frag)(c:RCl RK)(d:RCl PzK)(E:XK):TS:=
 by exists ":Jzb,'Gbija0ch#3 HFbI~i1awa2a3a,~GbijaL~Vbij=ya0a2aq~ra3ccccc"
def jy(K:Frag)(c:RCl RK)(d:RCl PzK)(E:XK):TS:=
 by exists ":gkvch#1 gJTadf#8 ch#2 {:bijyl1"
variable{cl:List Int}
theorem DF {D:Ends} {G R:Addr} {mv:Int} (X:IsPz H c d P L G h w g rows cl) (g4:g<=4) (m0:0<=mv) (m8:mv<8) (ml:ms.length<=800) (Y:IsFs H R ts ms ⟨h,w,g,rows,cl⟩)
  {H0:Hp} (s0:Same H0 H) (hR:H0 R=none) (X0:IsPz H0 c d P L G h w g rows cl)
  (q:∀(ts:List Addr) (v3:Option V) (H':Hp),Same H0 H'->IsFs H' R ts (ms++(exL g rows).map λss=>(mv,ss)) ⟨h,w,g,rows,cl⟩->D.nx [some (.ref P),some (.ref R),some (.int mv),v3] H'):
  uU K c d E D [some (.ref P),some (.ref R),some (.int mv),v3] H:=by
 have g1:=X.R.F.g0;have el:=uR (rows:=rows) g1 g4;unfold uU;symm;refine⟨P,L,G,h,w,g,rows,cl,rfl,X,g4,λB bs H1 s1 hB Z fb=>?_⟩;have zl:=Z.len;refine⟨B,rfl,⟨_,Pc Z.top⟩,?_⟩;have tR:H R≠none:=by rw[Y.top];simp
 have nB:B≠R:=λe=>tR (e ▸ hB)
 refine kO (K:=K) (xs:=bs.map V.ref) (λj σ H'=>∃(us:List Addr) (v3:Option V),σ=[some (.ref P),some (.ref R),some (.int mv),v3]/\Same H0 H'/\IsLL H' B bs (exL g rows)/\IsFs H' R us (ms++((exL g rows).take j).map λss=>(mv,ss)) ⟨h,w,g,rows,cl⟩)
  ⟨ts,v3,rfl,s0.trans s1,Z,by simpa using Y.same s1⟩ (λj σ' H' _ ⟨_,_,_,_,z,_⟩=>Pc z.top) ?_ ?_
 . rintro j x σ H2 hx ⟨us,v3,rfl,s2,Z2,Y2⟩;obtain⟨b,hb,rfl⟩:=bq hx;have hj:=(OK.mp hb).1;have ho:(exL g rows)[j]? =some ((exL g rows)[j]'(by omega)):=OG (by omega);have eb:=Z2.at_ j b _ hb ho;have M:=(vW (rows:=rows) (by omega:0<=g)).mp (ON ho);generalize (exL g rows)[j]'(by omega)=ss at*;have sl:=M.1.len;have bR:b≠R:=λe=>tR (e ▸ fb b (ON hb));have yl:=Y2.len;rw[OU,OF]at yl;have tl:=RV j (exL g rows);have tR2:H2 R≠none:=by rw[Y2.top];simp
   rw[aS];symm;refine⟨bA Y2.top,?_⟩;refine uj eb λS hS=>?_;obtain⟨H3,z9,s3,eS⟩:=aX (.lst (ss.map V.int)) hS;rw[z9];refine⟨P,L,G,h,w,g,mv,_,ss,rows,cl,rfl,X0.same (s2.trans s3),.inr ⟨S,rfl,eS,by omega⟩,λ_ P2 L2 G2 H4 s4 pz=>?_,λbad=>absurd ⟨⟨m0,m8⟩,P8.mpr M.1.p,M.2⟩ bad⟩;refine⟨P2,L2,G2,_,_,g,_,_,rfl,pz,λT p L3 C3 H5 s5 hT hL hC ne fm=>?_⟩;have s35:=(s3.trans s4).trans s5;have Y5:=Y2.same s35;refine⟨lnR rfl,λt ht=>?_⟩;obtain⟨H6,z9,s6,et⟩:=aX (.tup [.int mv,.ref b,.ref T]) ht;rw[z9];have s36:=s35.trans s6;have Y6:=Y5.same s6;have fm6:=fm.same s6;rw[kT Y6.top];refine⟨by rw[OF];exact aE (by omega),?_⟩;have old:∀{z},H4 z=none->z≠R:=λhz e=>tR2 ((s3.trans s4).free (e ▸ hz));refine⟨us++[t],_,rfl,(s2.trans s36).own hR,?_,?_⟩
   . exact⟨by rw[ah nB];exact s36 _ _ Z2.top,Z2.len,λk a xs h1 h2=>by
      have:a≠R:=λe=>tR (e ▸ fb a (ON h1));rw[ah this];exact s36 _ _ (Z2.at_ k a xs h1 h2)⟩
   . have y:IsF1 H6 R t (mv,ss) (Pd.mv ⟨h,w,g,rows,cl⟩ mv ss).frm:=⟨b,T,p,L3,C3,et,s36 _ _ eb,fm6,(λe=>tR2 (s35.free (e ▸ ht))),bR,old hT,(λe=>by have h1:H6 R=_:=Y6.top;have h2:=fm6.p;unfold IsFl at h2;rw[e,h1]at h2;cases h2),old hL,old hC⟩;have:=Y6.more y;rw[Ri,ho,PB,← Rb];exact this
 . rintro σ H2 ⟨us,v3,rfl,s2,Z2,Y2⟩;rw[OF,zl,Rn]at Y2;exact q us v3 H2 s2 Y2
theorem xt(h:dB K c d vs H Q E):jy K c d E {nx:=λ_ H'=>Q .non H',rt:=Q} (start ["_law_puzzle","_law_forms_here","_law_move","_law_signs"] vs) H:=by
 obtain⟨P,L,G,h,w,g,rows,cl,rfl,X,g4,q⟩:=h;have g1:=X.R.F.g0;have el:=uR (rows:=rows) g1 g4
 have ln:∀ n:Nat,(((List.range n).map λ(n:Nat)=>(n:Int)).flatMap λm=>(exL g rows).map λss=>(m,ss)).length=n*(exL g rows).length:=λn=>by
  induction n with
  | zero=>simp
  | succ n ih=>rw[nM,OU,ih,OF,Rx]
 show jy K c d E _ [some (.ref P),none,none,none] H;unfold jy;generalize hV:uU K c d E=Vf at*;symm;refine⟨bd (by decide),λR hR=>?_⟩;obtain⟨H1,z9,s1,e1⟩:∃ z,upd H R (.lst [])=z/\Same H z/\z R=some (.lst (([]:List Addr).map V.ref)):=aX _ hR;rw[z9];refine⟨8,rfl,by decide,by decide,?_⟩;refine cK (λi σ H'=>∃(v2 v3:Option V) (ts:List Addr),σ=[some (.ref P),some (.ref R),v2,v3]/\Same H H'/\IsFs H' R ts (((List.range i).map λ(n:Nat)=>(n:Int)).flatMap λm=>(exL g rows).map λss=>(m,ss)) ⟨h,w,g,rows,cl⟩) ⟨none,none,[],rfl,s1,⟨e1,rfl,λi t m e=>by simp at e⟩⟩ ?_ ?_
 . rintro i σ H2 hi ⟨v2,v3,ts,rfl,s2,Y⟩;rw[SG,aS];have hi8:i<8:=hi;have hb:i*(exL g rows).length<=7*100:=S3 (by omega) el;subst hV;refine DF (X.same s2) g4 (by omega) (by omega) (by rw[ln];omega) Y s2 hR X λts' v3' H' s' Y'=>?_;rw[nM];exact⟨_,_,ts',rfl,s',Y'⟩
 . rintro σ H2 ⟨v2,v3,ts,rfl,s2,Y⟩;symm;exact q R ts H2 s2 hR Y
def cz(K:Frag)(c:RCl RK)(d:RCl PzK):Sp:=λvs H Q _=>∃(a P L G:Addr) (ns:List Int) (h w g:Int) (rows:List RR) (cl:List Int),vs=[.ref a,.ref P]/\SqL K H a (ns.map V.int)/\ns.length<=63/\IsPz H c d P L G h w g rows cl/\g<=4/\
 ∀(P' L' G':Addr) (h' w' g':Int) (rows':List RR) (cl':List Int) (H':Hp),Same H H'->IsPz H' c d P' L' G' h' w' g' rows' cl'->g'<=4->Q (.ref P') H'
theorem uV(h:cz K c d vs H Q E):vs.length=2:=by
 obtain⟨_,_,_,_,_,_,_,_,_,_,rfl,_⟩:=h;rfl
def di(K:Frag)(c:RCl RK)(d:RCl PzK)(E:XK):TS:=
 by exists ":lR~t~u~vbij=Sa9a5a7c"
def dj(K:Frag)(c:RCl RK)(d:RCl PzK)(E:XK):TS:=
 by exists ":gomesbexeU2df#64 df#6 df#2 gkvch#5 kwaen9df#1 aen9df#0 aq{;aen9df#2 aerdf#1 exeU2df#512 df#4 cch#9 p{?bijy"
def dk(K:Frag)(c:RCl RK)(d:RCl PzK)(E:XK):TS:=
 by exists ":go~jmesbexeU2df#64 df#6 df#1 me>qKa5cdf#0 kYZ5*df#1 +h#5 p{[bijy"
def dl(K:Frag)(c:RCl RK)(d:RCl PzK)(E:XK):TS:=
 by exists ":gomesbexeU2df#64 df#6 df#0 kexeren78df#1 eren9df#2 df#1 'r78'sp{]bijy"
def ir(K:Frag)(c:RCl RK)(d:RCl PzK)(E:XK):TS:=
 by exists ":gkAjE~o~pbij4ch#7 gkexeU2df#256 qKa7ch#8 gkAjE~c~dbij4ch#9 {^bijy"
def dP(K:Frag)(c:RCl RK)(d:RCl PzK)(E:XK):TS:=
 by exists ":gkexeU2df#16 erqKa5cdf#1 h#6 gkerYZ5*6+YZ5+*6h#5 }abijy"
def dQ(K:Frag)(c:RCl RK)(d:RCl PzK)(E:XK):TS:=
 by exists ":g^#5 &--2 zbAjE~E~Fbij4ch#1 B,'Fba1aesbexeU2df#8 df#2 df#1 c}bbijy"
def dR(K:Frag)(c:RCl RK)(d:RCl PzK)(E:XK):TS:=
 by exists ":gkL~Vbij=ya1aex2df#8 a3ch#4 }cbijy"
def gQ(K:Frag)(c:RCl RK)(d:RCl PzK)(E:XK):TS:=
 by exists ":gk,Oba0adf#30 ch#2 gk~Badf#1 aerenAjE~c~dbij1cdf#2 df#1 ch#3 gome>qKa,'Gbija1ccdf#1 k,}dba,Oba0adf#31 caqKa3cch#3 p}ebijy"
variable{Ll Cl:Addr}
theorem rb {f:Addr} {v2 v6 v8:Option V} (ok:d.ok .Puzzle=true) (s0:Same H0 H) (hf:IsFl H f h w g) (R:c6 c h w g rows) (C:CluesOk h w g cl) (eL:H Ll=some (.lst ((rows.map RR.txt).map V.str))) (eC:H Cl=some (.lst (cl.map V.int))) (g4:g<=4)
  (q:∀(P' L' G':Addr) (h' w' g':Int) (rows':List RR) (cl':List Int) (H':Hp),Same H0 H'->IsPz H' c d P' L' G' h' w' g' rows' cl'->g'<=4->Q (.ref P') H'):
  di K c d E {nx:=λ_ H'=>Q .non H',rt:=Q} [v0,v1,v2,v3,v4,some (.ref Ll),v6,some (.ref Cl),v8,some (.ref f)] H:=by
 unfold di;symm;exact qS ok hf eL eC R C λP L G H3 s3 _ _ _ pz=>q P L G h w g rows cl H3 (s0.trans s3) pz g4
variable{y:Int}
theorem nP {f:Addr} {v6 v8:Option V} (ok:d.ok .Puzzle=true) (s0:Same H0 H) (hf:IsFl H f h w g) (R:c6 c h w g rows) (C:CluesOk h w g cl) (eL:H Ll=some (.lst ((rows.map RR.txt).map V.str))) (eC:H Cl=some (.lst (cl.map V.int))) (g4:g<=4)
  (q:∀(P' L' G':Addr) (h' w' g':Int) (rows':List RR) (cl':List Int) (H':Hp),Same H0 H'->IsPz H' c d P' L' G' h' w' g' rows' cl'->g'<=4->Q (.ref P') H'):
  dj K c d E {nx:=λ_ H'=>Q .non H',rt:=Q} [v0,v1,some (.int y),v3,v4,some (.ref Ll),v6,some (.ref Cl),v8,some (.ref f)] H:=by
 unfold dj;generalize hV:di K c d E=V13 at*;rw[az,aN];symm;refine⟨⟨by decide,by decide⟩,by decide,?_⟩
 cases decide (y/64%6=2) with
 | false=>
  refine iteF ?_;subst hV;exact rb ok s0 hf R C eL eC g4 q
 | true=>
  refine iteT ⟨bd (by decide),λA hA=>?_⟩;obtain⟨H1,z9,s1,e1⟩:∃ z,upd H A (.lst [])=z/\Same H z/\z A=some (.lst ((([]:List RR).map RR.txt).map V.str)):=aX _ hA;rw[z9];have hf1:=s1 _ _ hf;refine ixT hf1 (v:=V.int w) rfl ?_;refine ixT hf1 (v:=V.int h) rfl ?_;refine ixT hf1 (v:=V.int g) rfl ?_;refine⟨⟨by decide,by decide⟩,by decide,?_⟩;rw[ke];refine⟨lnR rfl,λf2 hf2=>?_⟩;have a0:=Pj (y/512) (show(4:Int)≠0 by decide);have a1:=Pa (y/512) (show(0:Int)<4 by decide);have gm:g<=(if 1+y/512%4>g then 1+y/512%4 else g)/\(if 1+y/512%4>g then 1+y/512%4 else g)<=4:=by split <;> omega
  generalize (if 1+y/512%4>g then 1+y/512%4 else g)=g2 at*;have s2:Same H1 (upd H1 f2 (.tup [.int w,.int h,.int g2])):=(OL H1).laid hf2;have e2:IsFl (upd H1 f2 (.tup [.int w,.int h,.int g2])) f2 w h g2:=ag;generalize upd H1 f2 (.tup [.int w,.int h,.int g2])=H2 at*;obtain⟨h0,h1,w0,w1,m16,gg0,gg1⟩:=id R.F;have mc:w*h=h*w:=SH _ _;subst hV;exact rb ok ((s0.trans s1).trans s2) e2 (rows:=[]) ⟨⟨w0,w1,h0,h1,by omega,by omega,by omega⟩,Py _,λr hr=>(nomatch hr),λr hr=>(nomatch hr)⟩ ⟨by rw[mc];exact C.len,λx hx=>by have:=C.ok x hx;omega⟩ (s2 _ _ e1) ((s1.trans s2) _ _ eC) gm.2 q
theorem yY{rows':List RR}(R:c6 c h w g rows)(l:rows'.length<=12)(m:∀ r∈rows',r∈rows):c6 c h w g rows':=⟨R.F,l,λr hr=>R.ok r (m r hr),λr hr=>R.c r (m r hr)⟩
theorem re {f:Addr} {v6 v8:Option V} (ok:d.ok .Puzzle=true) (s0:Same H0 H) (hf:IsFl H f h w g) (R:c6 c h w g rows) (C:CluesOk h w g cl) (eL:H Ll=some (.lst ((rows.map RR.txt).map V.str))) (eC:H Cl=some (.lst (cl.map V.int))) (g4:g<=4)
  (q:∀(P' L' G':Addr) (h' w' g':Int) (rows':List RR) (cl':List Int) (H':Hp),Same H0 H'->IsPz H' c d P' L' G' h' w' g' rows' cl'->g'<=4->Q (.ref P') H'):
  dk K c d E {nx:=λ_ H'=>Q .non H',rt:=Q} [v0,v1,some (.int y),v3,v4,some (.ref Ll),v6,some (.ref Cl),v8,some (.ref f)] H:=by
 unfold dk;generalize hV:dj K c d E=V12 at*;rw[az,aN];symm;refine⟨⟨by decide,by decide⟩,by decide,?_⟩
 cases decide (y/64%6=1) with
 | false=>
  refine iteF ?_;subst hV;exact nP ok s0 hf R C eL eC g4 q
 | true=>
  refine iteT ?_;rw[gM eL];symm;by_cases c1:(0:Int) < (((rows.map RR.txt).map V.str).length:Int)
  . rw[O3 c1];refine iteT ?_;refine ly eL λB hB=>?_
    have ec:cutV ((rows.map RR.txt).map V.str) (some ((1:Nat):Int)) none=(((rows.drop 1).map RR.txt).map V.str):=by
     rw[tP,← Rp,← Rp]
    have ec':cutV ((rows.map RR.txt).map V.str) (some 1) none=(((rows.drop 1).map RR.txt).map V.str):=ec;rw[ec'];obtain⟨H1,z9,s1,e1⟩:=aX (.lst (((rows.drop 1).map RR.txt).map V.str)) hB;rw[z9];subst hV;exact nP ok (s0.trans s1) (s1 _ _ hf) (yY R (by rw[RG];have:=R.n;omega) λr hr=>RN hr) C e1 (s1 _ _ eC) g4 q
  . rw[OW c1];refine iteF ?_;subst hV;exact nP ok s0 hf R C eL eC g4 q
theorem yZ {f:Addr} {at_:Int} {v6:Option V} (ok:d.ok .Puzzle=true) (s0:Same H0 H) (hf:IsFl H f h w g) (R:c6 c h w g rows) (C:CluesOk h w g cl) (eL:H Ll=some (.lst ((rows.map RR.txt).map V.str))) (eC:H Cl=some (.lst (cl.map V.int))) (g4:g<=4) (a0:0<=at_) (a1:at_ < (cl.length:Int)) (fC:H0 Cl=none) (nC:Ll≠Cl)
  (q:∀(P' L' G':Addr) (h' w' g':Int) (rows':List RR) (cl':List Int) (H':Hp),Same H0 H'->IsPz H' c d P' L' G' h' w' g' rows' cl'->g'<=4->Q (.ref P') H'):
  dl K c d E {nx:=λ_ H'=>Q .non H',rt:=Q} [v0,v1,some (.int y),v3,v4,some (.ref Ll),v6,some (.ref Cl),some (.int at_),some (.ref f)] H:=by
 unfold dl;generalize hV:dk K c d E=V11 at*;rw[az,aN];symm;refine⟨⟨by decide,by decide⟩,by decide,?_⟩
 cases decide (y/64%6=0) with
 | false=>
  refine iteF ?_;subst hV;exact re ok s0 hf R C eL eC g4 q
 | true=>
  refine iteT ?_;have hz:cl[at_.toNat]? =some (cl[at_.toNat]'(by omega)):=OG (by omega);have zb:=C.ok _ (ON hz);generalize cl[at_.toNat]'(by omega)=z at*;have ea:at_=((at_.toNat:Nat):Int):=by omega
  have gz:=R.F.g0;refine ixL eC (v:=V.int z) (by rw[ea];exact dr (by rw[OH,hz];rfl)) ?_;symm;refine ixT hf (v:=V.int g) rfl ?_;symm;refine⟨by omega,?_⟩;refine DR eC a0 (by rw[OF];exact a1) ?_;have m0:=Pj (z+1) (show g+1≠0 by omega);have m1:=Pa (z+1) (show 0<g+1 by omega);generalize (z+1) % (g+1)=z2 at*;rw[← List.map_set];have nf:f≠Cl:=λe=>by rw[e]at hf;unfold IsFl at hf;rw[eC]at hf;cases hf
  subst hV;refine re ok (s0.own fC) (cl:=cl.set at_.toNat z2) (by show(upd H Cl _) f=_;rw[ah nf];exact hf) R ⟨by rw[SQ];exact C.len,λx hx=>?_⟩ (by rw[ah nC];exact eL) ag g4 q;rcases List.mem_or_eq_of_mem_set hx with hx | rfl
  . exact C.ok x hx
  . omega
theorem zK {N G:Addr} {rows':List RR} (s0:Same H0 H) (X:IsPz H c d N L G h w g rows cl) (R:c6 c h w g rows') (eL:H Ll=some (.lst ((rows'.map RR.txt).map V.str))) (g4:g<=4)
  (q:∀(P' L' G':Addr) (h' w' g':Int) (rows':List RR) (cl':List Int) (H':Hp),Same H0 H'->IsPz H' c d P' L' G' h' w' g' rows' cl'->g'<=4->Q (.ref P') H'):
  dP K c d E {nx:=λ_ H'=>Q .non H',rt:=Q} [v0,v1,some (.int y),v3,some (.ref N),some (.ref Ll),none,none,none,none] H:=by
 obtain⟨dx,p0,rs,h1,h2,h3⟩:=X.ex;have rn:=R.n
 have cl1:0<cl.length:=by
  have:=X.C.len;obtain⟨a0,a1,b0,b1,m16,gg0,gg1⟩:=id X.R.F;have:1<=h*w:=by have:=S1 a0 b0 (by decide) (by omega);omega
  omega
 unfold dP;generalize hV:ir K c d E=V7 at*;symm;rw[gM eL];symm;rw[OF,OF];have u0:=Pj (y/16) (show((rows'.length:Nat):Int)+1≠0 by omega);have u1:=Pa (y/16) (show 0 < ((rows'.length:Nat):Int)+1 by omega);refine⟨⟨by decide,by decide⟩,by omega,?_⟩;have eu:y/16 % (((rows'.length:Nat):Int)+1)=(((y/16 % (((rows'.length:Nat):Int)+1)).toNat:Nat):Int):=by omega
 generalize y/16 % (((rows'.length:Nat):Int)+1)=u at*;rw[eu];generalize u.toNat=k at*;refine ly eL λA hA=>?_;rw[tP,← Rp,← Rp];obtain⟨H1,z9,s1,e1⟩:=aX (.lst (((rows'.drop k).map RR.txt).map V.str)) hA;rw[z9];refine ly (s1 _ _ eL) λB hB=>?_;rw[yG,← Q5,← Q5];obtain⟨H2,z9,s2,e2⟩:=aX (.lst (((rows'.take k).map RR.txt).map V.str)) hB;rw[z9];have kl:∀ n,(rows'.drop n).length<=12/\(rows'.take n).length<=12:=λn=>by rw[RG,PV];omega
 refine pE (s2 _ _ e1) e2 (by simp only[OF];have:=kl k;omega) λZ hZ=>?_;have s3:Same H2 (upd H2 Z (.lst (((rows'.drop k).map RR.txt).map V.str++((rows'.take k).map RR.txt).map V.str))):=(OL H2).laid hZ;have e3:(upd H2 Z (.lst (((rows'.drop k).map RR.txt).map V.str++((rows'.take k).map RR.txt).map V.str))) Z=some (.lst (((rows'.drop k++rows'.take k).map RR.txt).map V.str)):=by rw[ag,PB,PB]
 generalize upd H2 Z (.lst (((rows'.drop k).map RR.txt).map V.str++((rows'.take k).map RR.txt).map V.str))=H3 at*;have s13:=(s1.trans s2).trans s3;have R3:c6 c h w g (rows'.drop k++rows'.take k):=yY R (by rw[OU,RG,PV];omega) λr hr=>(OY.mp hr).elim RN QG;generalize rows'.drop k++rows'.take k=rw' at*;subst hV;unfold ir;generalize hV:dl K c d E=V10 at*;symm;refine methE (k:=.Puzzle) rfl X.ok (s13 _ _ h1) (by rfl) ?_;symm;refine⟨N,L,G,h,w,g,rows,cl,rfl,X.same s13,λCl hCl=>?_⟩;obtain⟨H4,z9,s4,e4⟩:=aX (.lst (cl.map V.int)) hCl;rw[z9];have s14:=s13.trans s4;symm;rw[gM e4];symm;rw[OF];have b0:=Pj (y/256) (show((cl.length:Nat):Int)≠0 by omega);have b1:=Pa (y/256) (show 0 < ((cl.length:Nat):Int) by omega);refine⟨⟨by decide,by decide⟩,by omega,?_⟩;refine methE (k:=.Puzzle) rfl X.ok (s14 _ _ h1) (by rfl) ?_;symm;refine⟨N,L,G,h,w,g,rows,cl,rfl,X.same s14,λf hf=>?_⟩;subst hV;exact yZ X.ok (s0.trans s14) hf R3 X.C (s4 _ _ e3) e4 g4 b0 b1 ((s0.trans s13).free hCl) (λe=>by rw[← e,e3]at hCl;cases hCl) q
theorem zL {N G:Addr} (s0:Same H0 H) (X:IsPz H c d N L G h w g rows cl) (g4:g<=4)
  (q:∀(P' L' G':Addr) (h' w' g':Int) (rows':List RR) (cl':List Int) (H':Hp),Same H0 H'->IsPz H' c d P' L' G' h' w' g' rows' cl'->g'<=4->Q (.ref P') H'):
  dQ K c d E {nx:=λ_ H'=>Q .non H',rt:=Q} [v0,v1,some (.int y),v3,some (.ref N),none,none,none,none,none] H:=by
 obtain⟨dx,p0,rs,h1,h2,h3⟩:=X.ex;have F:=X.R.F;have rn:=X.R.n;unfold dQ;generalize hV:dP K c d E=V5 at*;symm;refine methE (k:=.Puzzle) rfl X.ok h1 (by rfl) ?_;symm;refine⟨N,L,G,h,w,g,rows,cl,rfl,X,λLl H1 s1 hLl eL=>?_⟩;refine⟨Ll,rfl,⟨_,Pc eL⟩,?_⟩;generalize ht:decide (y/8%2=1)=t at*;refine bn (xs:=(rows.map RR.txt).map V.str) (λ_=>true) (λi=>.str ((rows[i]?.map λr=>(rwR t r).txt).getD (tx []))) (by rw[OF,OF];omega) (Pc eL) ?_ ?_ ?_
 . intro i z H2 R hz s2 k2;exact k2 _ (OL _)
 . intro i z H2 Q2 hz hb s2 k2;rw[OH,OH]at hz
   cases e:rows[i]? with
   | none=>rw[e]at hz;cases hz
   | some x=>
    rw[e]at hz k2;cases hz;show tCall _ _ _ _ [none,some (.str x.txt),some (.int y)] H2 Q2;symm;refine⟨⟨by decide,by decide⟩,by decide,?_⟩;rw[ht];exact⟨x,t,h,w,g,rfl,F,X.R.ok _ (ON e),λH' s3=>k2 H' s3⟩
 . intro M H2 hM s2 eM
   have et:((List.range ((rows.map RR.txt).map V.str).length).filter λ_=>true).map (λi=>V.str ((rows[i]?.map λr=>(rwR t r).txt).getD (tx [])))=((rows.map (rwR t)).map RR.txt).map V.str:=by
    rw[aU,OF,OF,O4,O4];refine PJ (by simp) λi h1 h2=>?_;have hi:i<rows.length:=by simpa using h2
    simp[OG hi]
   rw[et]at eM;have s12:=s1.trans s2;subst hV
   exact zK (s0.trans s12) (X.same s12) ⟨F,by rw[OF];exact rn,λr hr=>by
    obtain⟨x,hx,rfl⟩:=OP.mp hr;exact FY (X.R.ok x hx),λr hr=>by
    obtain⟨x,hx,rfl⟩:=OP.mp hr;rw[GK];exact X.R.c x hx⟩ eM g4 q
theorem sU {G S:Addr} {ss:List Int} (s0:Same H0 H) (X:IsPz H c d P L G h w g rows cl) (g4:g<=4) (eS:H S=some (.lst (ss.map V.int))) (xs:ss.Perm (plnL g)) (xr:ss=plnL g\/recR rows=false)
  (q:∀(P' L' G':Addr) (h' w' g':Int) (rows':List RR) (cl':List Int) (H':Hp),Same H0 H'->IsPz H' c d P' L' G' h' w' g' rows' cl'->g'<=4->Q (.ref P') H'):
  dR K c d E {nx:=λ_ H'=>Q .non H',rt:=Q} [v0,some (.ref P),some (.int y),some (.ref S),none,none,none,none,none,none] H:=by
 have g1:=X.R.F.g0;have pl:=dy (g:=g) (by omega);have sl:=xs.length_eq;have m0:=Pj y (show(8:Int)≠0 by decide);have m8:=Pa y (show(0:Int)<8 by decide);unfold dR;generalize hV:dQ K c d E=V4 at*;symm;refine⟨by decide,?_⟩;refine⟨P,L,G,h,w,g,y%8,_,ss,rows,cl,rfl,X,.inr ⟨S,rfl,eS,by omega⟩,λ_ P2 L2 G2 H4 s4 pz=>?_,λbad=>absurd ⟨⟨m0,m8⟩,P8.mpr xs,xr⟩ bad⟩;subst hV;exact zL (s0.trans s4) pz g4 q
theorem uW(h:cz K c d vs H Q E):gQ K c d E {nx:=λ_ H'=>Q .non H',rt:=Q} (start ["_law_script","_law_puzzle","_law_cell","_law_signs","_law_other_here","_law_lines","_law_cut","_law_clues","_law_at_here","_law_floor"] vs) H:=by
 obtain⟨a,P,L,G,ns,h,w,g,rows,cl,rfl,hS,hn,X,g4,q⟩:=h;obtain⟨dx,p0,rs,h1,h2,h3⟩:=X.ex;have g1:=X.R.F.g0;have pl:=dy (g:=g) (by omega);show gQ K c d E _ [some (.ref a),some (.ref P),none,none,none,none,none,none,none,none] H;unfold gQ;generalize hV:dR K c d E=V3 at*;symm;refine⟨a,ns,30,rfl,hS,hn,by decide,by decide,?_⟩;generalize lawAt ns 30=y at*;symm;refine methE (k:=.Puzzle) rfl X.ok h1 (by rfl) ?_;symm;refine⟨P,L,G,h,w,g,rows,cl,rfl,X,λp hp=>?_⟩;refine ixT hp (v:=V.int g) rfl ?_;symm;refine⟨1,g+1,rfl,⟨by omega,by omega,by omega,by omega⟩,λS hSS=>?_⟩;have s1:Same H (upd H S (.lst ((plnL g).map V.int))):=(OL H).laid hSS;have e1:(upd H S (.lst ((plnL g).map V.int))) S=some (.lst ((plnL g).map V.int)):=ag;generalize hHz:upd H S (.lst ((plnL g).map V.int))=H1 at*;have hHz':upd H S (.lst ((rngL 1 (g+1)).map V.int))=H1:=hHz;rw[hHz'];rw[aN];symm;refine⟨P,L,G,h,w,g,rows,cl,rfl,X.same s1,g4,λB bs H2 s2 hB Z fb=>?_⟩;symm;rw[gM Z.top];symm;have s12:=s1.trans s2;by_cases c1:(1:Int) < ((bs.map V.ref).length:Int)
 . rw[O3 c1];refine iteT ?_
   have hr:recR rows=false:=by
    cases hr:recR rows with
    | false=>rfl
    | true=>
     rw[OF,Z.len]at c1;unfold exL at c1;rw[hr,O6 rfl]at c1;exact absurd c1 (by show ¬ ((1:Int) < ((1:Nat):Int));decide)
   refine⟨a,ns,31,rfl,s12.seq hS,hn,by decide,by decide,?_⟩;symm;rw[gM (s2 _ _ e1)];symm;rw[OF];refine⟨_,_,rfl,by omega,by omega,λSi H3 ss s3 hSi eSi pe=>?_⟩;rw[pl]at pe;subst hV;exact sU (s12.trans s3) (X.same (s12.trans s3)) g4 eSi pe (.inr hr) q
 . rw[OW c1];refine iteF ?_;subst hV;exact sU s12 (X.same s12) g4 (s2 _ _ e1) (QQ _) (.inl rfl) q
def LtAt(A:Around)(s:Shared)(x y:Value)(b:Bool):Prop:=∀(prog:Program) (w:World) (E Q:Value->Shared->Prop),Q (.bool b) s->wpAny (model prog w) A (richCompare .Lt x y) Q E s
variable{A:Around}{s:Shared}
theorem LtAt.int(a b:Int)(t u:Tok):LtAt A s (.int a t) (.int b u) (decide (a<b)):=λprog w E Q h=>
 SI rfl rfl F.slot_int_lt (call_int_lt ⟨nofun,h⟩)
theorem LtAt.str(a b:Str)(t u:Tok):LtAt A s (.str a t) (.str b u) (decide (a.cps.toList<b.cps.toList)):=λprog w E Q h=>
 SI rfl rfl F.slot_str_lt (call_str_lt ⟨nofun,h⟩)
def Lex(n m:Nat)(e:Nat->Bool)(t:Nat->Bool->Prop)(b:Bool):Prop:=(∃ j,j<n/\j<m/\(∀ i,i<j->e i=true)/\e j=false/\t j b)\/((∀ i,i<n->i<m->e i=true)/\b=decide (n<m))
theorem DG(l b:Addr)(items items2:Array Value)(n n2:Nat)(dd dd2:Option Addr)(sl sl2:Array (Option Value))(e:Nat->Bool)(r:Bool):
  Meets (Builtin.«tuple.__lt__» ⟨[.ref l,.ref b],[]⟩)
   (λA R s=>s.heap.get? l=some {cls:=.type "tuple",dict:=dd,data:=.seq items n,slots:=sl}/\s.heap.get? b=some {cls:=.type "tuple",dict:=dd2,data:=.seq items2 n2,slots:=sl2}/\
    (∀(j:Nat) (h1:j<items.size) (h2:j<items2.size),SeqAt.EqAt A.in1 s items[j] items2[j] (e j))/\
    Lex items.size items2.size e (λj r=>∀(h1:j<items.size) (h2:j<items2.size),LtAt A.in1 s items[j] items2[j] r) r/\R (.ok (.ret (.bool r))) s):=
 .of_wp λprog w A R s h=>by
  obtain⟨hp,g,d,tk,os⟩:=s;obtain⟨hl,hb,he,hx,h⟩:=h
  wp_walk using Qf hl,Qf hb
  refine Sg AutoSeq1.sub_tuple_tuple ?_
  wp_walk using Qf hl,Qf hb,Qu hl,Qu hb,wpAny_forIn_list _ (λrest (z:Option PySem.Fin × Unit) s'=>∃ i,rest=(items.toList.zip items2.toList).drop i/\z.1=none/\(∀ m,m<i->e m=true)/\s'=⟨hp,g,d,tk,os⟩) _
  case h=>
   exact⟨0,rfl,rfl,λ_ h=>absurd h (QY _),rfl⟩
  case turn=>
   rintro⟨x,y⟩ rest z s' ⟨i,hr,hz,hm,rfl⟩
   have hlt:i < (items.toList.zip items2.toList).length:=by
    rcases Qo i (items.toList.zip items2.toList).length with h | h
    . exact h
    . rw[List.drop_of_length_le h]at hr;cases hr
   have h12:i<items.size/\i<items2.size:=by
    rw[List.length_zip,Qc,Qc]at hlt;omega
   rw[R9 hlt]at hr;injection hr with hr1 hr2;rw[List.getElem_zip,Array.getElem_toList,Array.getElem_toList]at hr1;cases hr1
   try dsimp only
   refine OO (he i h12.1 h12.2 prog w _ _ ?_)
   cases hc:e i with
   | true=>
    wp_walk
    refine⟨i+1,hr2,rfl,λm hmi=>?_,rfl⟩;rcases Sm.mp hmi with h | rfl
    . exact hm m h
    . exact hc
   | false=>
    obtain⟨j,j1,j2,ja,jf,jt⟩ | ⟨hall,hr⟩:=hx
    . obtain rfl:i=j:=by
       rcases Rf i j with h | h | h
       . rw[ja i h]at hc;cases hc
       . exact h
       . rw[hm j h]at jf;cases jf
      refine S4 rfl (OO (wpAny_rule (OO (jt h12.1 h12.2 prog w _ _ ?_))))
      wp_walk
      exact⟨_,rfl,h⟩
    . rw[hall i h12.1 h12.2]at hc;cases hc
  case fin=>
   rintro⟨z,_⟩ s' ⟨i,hr,hz,hm,rfl⟩;dsimp only at hz;subst hz
   have hge:(items.toList.zip items2.toList).length<=i:=by
    rcases Qo i (items.toList.zip items2.toList).length with h | h
    . rw[R9 h]at hr;cases hr
    . exact h
   rw[List.length_zip,Qc,Qc]at hge;obtain⟨j,j1,j2,ja,jf,jt⟩ | ⟨hall,rfl⟩:=hx
   . rw[hm j (by omega)]at jf;cases jf
   . exact Pf ⟨_,rfl,h⟩
theorem wa(l b:Addr)(items items2:Array Value)(n n2:Nat)(dd dd2:Option Addr)(sl sl2:Array (Option Value))(e:Nat->Bool)(r:Bool):∀(k i:Nat),min items.size items2.size-i=k->
  Meets (Builtin.«list.__eq__.loop» ⟨[.ref l,.ref b,rawInt (i:Int),rawInt 0],[]⟩)
   (λA R s=>s.heap.get? l=some {cls:=.type "list",dict:=dd,data:=.seq items n,slots:=sl}/\s.heap.get? b=some {cls:=.type "list",dict:=dd2,data:=.seq items2 n2,slots:=sl2}/\
    (∀(j:Nat) (h1:j<items.size) (h2:j<items2.size),SeqAt.EqAt A.in1 s items[j] items2[j] (e j))/\(∀ m,m<i->e m=true)/\
    Lex items.size items2.size e (λj r=>∀(h1:j<items.size) (h2:j<items2.size),LtAt A.in1 s items[j] items2[j] r) r/\R (.ok (.ret (.bool r))) s):=by
 intro k
 induction k with
 | zero=>
  intro i hk prog w A R s h;obtain⟨hp,g,d,tk,os⟩:=s;obtain⟨hl,hb,he,hm,hx,h⟩:=h
  wp_walk using Qu hl,Qu hb
  have e0:((i:Int)).toNat=i:=rfl;rw[e0]
  have done:R (.ok (.ret (.bool (decide (items.size<items2.size))))) (⟨hp,g,d,tk,os⟩:Shared):=by
   obtain⟨j,j1,j2,ja,jf,jt⟩ | ⟨hall,rfl⟩:=hx
   . rw[hm j (by omega)]at jf;cases jf
   . exact h
  rcases Qo i items.size with h1 | h1
  . have h2:items2.size<=i:=by omega
    rw[Px h1,SJ h2]
    wp_walk using Qu hl,Qu hb
    exact done
  . rw[SJ h1]
    wp_walk using Qu hl,Qu hb
    exact done
 | succ k ih=>
  intro i hk prog w A R s h;obtain⟨hp,g,d,tk,os⟩:=s;obtain⟨hl,hb,he,hm,hx,h⟩:=h
  wp_walk using Qu hl,Qu hb
  have e0:((i:Int)).toNat=i:=rfl;have h1:i<items.size:=by omega
  have h2:i<items2.size:=by omega
  rw[e0,Px h1,Px h2]
  try dsimp only
  refine OO (he i h1 h2 prog w _ _ ?_)
  cases hc:e i with
  | true=>
   refine S4 rfl (Pf ⟨Q0 QS _,QX Sw ?_⟩);rw[QI QS _];refine ih (i+1) (by omega) prog w A R _ ⟨hl,hb,he,λm hmi=>?_,hx,h⟩;rcases Sm.mp hmi with h | rfl
   . exact hm m h
   . exact hc
  | false=>
   obtain⟨j,j1,j2,ja,jf,jt⟩ | ⟨hall,hr⟩:=hx
   . obtain rfl:i=j:=by
      rcases Rf i j with h | h | h
      . rw[ja i h]at hc;cases hc
      . exact h
      . rw[hm j h]at jf;cases jf
     refine wpAny_ite_false (by decide) ?_
     wp_walk using Qu hl,Qu hb
     rw[Px h1,Px h2]
     try dsimp only
     refine OO (jt h1 h2 prog w _ _ ?_);exact Pf h
   . rw[hall i h1 h2]at hc;cases hc
theorem Cv(l b:Addr)(items items2:Array Value)(n n2:Nat)(dd dd2:Option Addr)(sl sl2:Array (Option Value))(e:Nat->Bool)(r:Bool):
  Meets (Builtin.«list.__lt__» ⟨[.ref l,.ref b],[]⟩)
   (λA R s=>s.heap.get? l=some {cls:=.type "list",dict:=dd,data:=.seq items n,slots:=sl}/\s.heap.get? b=some {cls:=.type "list",dict:=dd2,data:=.seq items2 n2,slots:=sl2}/\
    (∀(j:Nat) (h1:j<items.size) (h2:j<items2.size),SeqAt.EqAt A.in1 s items[j] items2[j] (e j))/\
    Lex items.size items2.size e (λj r=>∀(h1:j<items.size) (h2:j<items2.size),LtAt A.in1 s items[j] items2[j] r) r/\R (.ok (.ret (.bool r))) s):=by
 intro prog w A R s h;obtain⟨hp,g,d,tk,os⟩:=s;obtain⟨hl,hb,he,hx,h⟩:=h
 wp_walk using Qf hl,Qf hb
 refine Sg AutoSeq1.sub_list_list ?_
 wp_walk
 refine⟨Q0 QS _,QX Sw ?_⟩;rw[QI QS _];exact wa l b items items2 n n2 dd dd2 sl sl2 e r _ 0 rfl prog w A R _ ⟨hl,hb,he,λ_ h=>absurd h (QY _),hx,h⟩
variable{e:Nat->Bool}
theorem LtAt.tuples {l b:Addr} {items items2:Array Value} {r:Bool} (hl:s.heap.IsTuple l items) (hb:s.heap.IsTuple b items2) (hu:A.units<cLine)
  (he:∀(j:Nat) (h1:j<items.size) (h2:j<items2.size),SeqAt.EqAt A.in1 s items[j] items2[j] (e j))
  (hx:Lex items.size items2.size e (λj r=>∀(h1:j<items.size) (h2:j<items2.size),LtAt A.in1 s items[j] items2[j] r) r):LtAt A s (.ref l) (.ref b) r:=λprog w E Q h=>by
 obtain⟨⟨oc,od,oda,osl⟩,g1,c1,n1,d1⟩:=hl;obtain⟨⟨oc2,od2,oda2,osl2⟩,g2,c2,n2,d2⟩:=hb;dsimp only at c1 d1 c2 d2;subst c1 d1 c2 d2;exact SK ⟨_,g1,rfl⟩ ⟨_,g2,rfl⟩ F.slot_tuple_lt F.entry_tuple_lt (F.args_tuple_lt_2 _ _) (DG l b items items2 n1 n2 od od2 osl osl2 e r) ⟨g1,g2,he,hx,nofun,h⟩ hu
theorem LtAt.lists {l b:Addr} {items items2:Array Value} {r:Bool} (hl:s.heap.IsList l items) (hb:s.heap.IsList b items2) (hu:A.units<cLine)
  (he:∀(j:Nat) (h1:j<items.size) (h2:j<items2.size),SeqAt.EqAt A.in1 s items[j] items2[j] (e j))
  (hx:Lex items.size items2.size e (λj r=>∀(h1:j<items.size) (h2:j<items2.size),LtAt A.in1 s items[j] items2[j] r) r):LtAt A s (.ref l) (.ref b) r:=λprog w E Q h=>by
 obtain⟨⟨oc,od,oda,osl⟩,g1,c1,n1,d1⟩:=hl;obtain⟨⟨oc2,od2,oda2,osl2⟩,g2,c2,n2,d2⟩:=hb;dsimp only at c1 d1 c2 d2;subst c1 d1 c2 d2;exact SK ⟨_,g1,rfl⟩ ⟨_,g2,rfl⟩ F.slot_list_lt F.entry_list_lt (F.args_list_lt_2 _ _) (Cv l b items items2 n1 n2 od od2 osl osl2 e r) ⟨g1,g2,he,hx,nofun,h⟩ hu
inductive LexD(R:PyData->PyData->Bool->Prop):List PyData->List PyData->Bool->Prop
 | nn:LexD R [] [] false
 | nc {y ys}:LexD R [] (y::ys) true
 | cn {x xs}:LexD R (x::xs) [] false
 | eq {x y xs ys b}:PyData.eqv x y=true->LexD R xs ys b->LexD R (x::xs) (y::ys) b
 | ne {x y xs ys b}:PyData.eqv x y=false->R x y b->LexD R (x::xs) (y::ys) b
def qh(xs ys:List PyData)(j:Nat):Bool:=match xs[j]?,ys[j]? with | some x,some y=>PyData.eqv x y | _,_=>false
variable{R:PyData->PyData->Bool->Prop}{xs ys:List PyData}{b:Bool}
theorem LexD.lex(h:LexD R xs ys b):Lex xs.length ys.length (qh xs ys) (λj b=>∃ x y,xs[j]? =some x/\ys[j]? =some y/\R x y b) b:=by
 induction h with
 | nn=>exact .inr ⟨λi h=>absurd h (QY _),rfl⟩
 | nc=>exact .inr ⟨λi h=>absurd h (QY _),by simp⟩
 | cn=>exact .inr ⟨λi _ h=>absurd h (QY _),rfl⟩
 | @ne x y xs ys b e r=>exact .inl ⟨0,Nat.succ_pos _,Nat.succ_pos _,λi h=>absurd h (QY _),e,x,y,rfl,rfl,r⟩
 | @eq x y xs ys b e _ ih=>
  have up:∀ i,(∀ k,k<i->qh xs ys k=true)->∀ k,k<i+1->qh (x::xs) (y::ys) k=true:=λi h k hk=>by
   cases k with
   | zero=>exact e
   | succ k=>exact h k (by omega)
  obtain⟨j,j1,j2,ja,jf,jt⟩ | ⟨hall,rfl⟩:=ih
  . exact .inl ⟨j+1,Nat.succ_lt_succ j1,Nat.succ_lt_succ j2,up j ja,jf,jt⟩
  . refine .inr ⟨λi h1 h2=>?_,by simp⟩
    cases i with
    | zero=>exact e
    | succ i=>exact hall i (SL h1) (SL h2)
theorem nQ{h:Heap}:∀{us:List Value} {xs:List PyData} {as:List Addr},ReadsAll h us xs as->us.length=xs.length
 | _,_,_,.nil=>rfl
 | _,_,_,.cons _ t=>congrArg (· +1) (nQ t)
theorem oV{h:Heap}:∀{us:List Value} {xs:List PyData} {as:List Addr} {j:Nat} {x:PyData} {u:Value},ReadsAll h us xs as->xs[j]? =some x->us[j]? =some u->∃ bs,Reads h u x bs
 | _,_,_,0,_,_,.cons r _,e1,e2=>by cases e1;cases e2;exact⟨_,r⟩
 | _,_,_,j+1,_,_,.cons _ t,e1,e2=>oV (j:=j) t e1 e2
def Gd(d:PyData):Prop:=PyData.canLay0 d=true/\d.depth<=8
variable{A:Around}{s:Shared}{as:List Addr}
theorem Cw {us vs:Array Value} {bs:List Addr} (h:LexD R xs ys b) (r1:ReadsAll s.heap us.toList xs as) (r2:ReadsAll s.heap vs.toList ys bs) (g1:∀ x∈xs,Gd x) (g2:∀ y∈ys,Gd y) (hu:A.units+16<cLine)
  (hR:∀ x y b,x∈xs->y∈ys->R x y b->∀ u v as bs,Reads s.heap u x as->Reads s.heap v y bs->LtAt A.in1 s u v b):
  (∀(j:Nat) (h1:j<us.size) (h2:j<vs.size),SeqAt.EqAt A.in1 s us[j] vs[j] (qh xs ys j))/\Lex us.size vs.size (qh xs ys) (λj r=>∀(h1:j<us.size) (h2:j<vs.size),LtAt A.in1 s us[j] vs[j] r) b:=by
 have l1:=nQ r1;have l2:=nQ r2;rw[Qc]at l1 l2
 have at1:∀(j:Nat) (h1:j<us.size),∃ x,xs[j]? =some x/\x∈xs/\∃ cs,Reads s.heap us[j] x cs:=λj h1=>by
  have hx:xs[j]? =some (xs[j]'(by omega)):=OG (by omega);exact⟨_,hx,Pt _,oV r1 hx (by rw[RC,Px h1])⟩
 have at2:∀(j:Nat) (h1:j<vs.size),∃ x,ys[j]? =some x/\x∈ys/\∃ cs,Reads s.heap vs[j] x cs:=λj h1=>by
  have hx:ys[j]? =some (ys[j]'(by omega)):=OG (by omega);exact⟨_,hx,Pt _,oV r2 hx (by rw[RC,Px h1])⟩
 constructor
 . intro j h1 h2;obtain⟨x,ex,mx,cs,rx⟩:=at1 j h1;obtain⟨y,ey,my,ds,ry⟩:=at2 j h2;have:qh xs ys j=PyData.eqv x y:=by unfold qh;rw[ex,ey]
   rw[this];have d1:=(g1 x mx).2;refine SeqAt.eqAt_reads x y A.in1 s _ _ _ _ rx ry (g1 x mx).1 (g2 y my).1 ?_;show A.units+1+min x.depth y.depth<cLine;omega
 . have hl:=h.lex;rw[← l1,← l2]at hl;rcases hl with ⟨j,j1,j2,ja,jf,x,y,ex,ey,jt⟩ | hall
   . refine .inl ⟨j,j1,j2,ja,jf,λh1 h2=>?_⟩;obtain⟨x',ex',mx,cs,rx⟩:=at1 j (by omega);obtain⟨y',ey',my,ds,ry⟩:=at2 j (by omega);rw[ex]at ex';cases ex';rw[ey]at ey';cases ey';exact hR x y _ mx my jt _ _ _ _ rx ry
   . exact .inr hall
theorem Cy {u v:Value} {bs:List Addr} (h:LexD R xs ys b) (r1:Reads s.heap u (.tuple xs) as) (r2:Reads s.heap v (.tuple ys) bs) (g1:∀ x∈xs,Gd x) (g2:∀ y∈ys,Gd y) (hu:A.units+16<cLine)
  (hR:∀ x y b,x∈xs->y∈ys->R x y b->∀ u v as bs,Reads s.heap u x as->Reads s.heap v y bs->LtAt A.in1 s u v b):LtAt A s u v b:=by
 cases r1 with
 | tuple a1 a2 a3 a4=>
  cases r2 with
  | tuple b1 b2 b3 b4=>
   obtain⟨p,q⟩:=Cw h a4 b4 g1 g2 hu hR;exact .tuples ⟨_,a1,a2,_,a3⟩ ⟨_,b1,b2,_,b3⟩ (by omega) p q
theorem EX {u v:Value} {bs:List Addr} (h:LexD R xs ys b) (r1:Reads s.heap u (.list xs) as) (r2:Reads s.heap v (.list ys) bs) (g1:∀ x∈xs,Gd x) (g2:∀ y∈ys,Gd y) (hu:A.units+16<cLine)
  (hR:∀ x y b,x∈xs->y∈ys->R x y b->∀ u v as bs,Reads s.heap u x as->Reads s.heap v y bs->LtAt A.in1 s u v b):LtAt A s u v b:=by
 cases r1 with
 | list a1 a2 a3 a4=>
  cases r2 with
  | list b1 b2 b3 b4=>
   obtain⟨p,q⟩:=Cw h a4 b4 g1 g2 hu hR;exact .lists ⟨_,a1,a2,_,a3⟩ ⟨_,b1,b2,_,b3⟩ (by omega) p q
def LtA(x y:PyData)(b:Bool):Prop:=(∃ i j,x=.int i/\y=.int j/\b=decide (i<j))\/(∃ a c:Str,x=.str a/\y=.str c/\b=decide (a.cps.toList<c.cps.toList))
def LtB(x y:PyData)(b:Bool):Prop:=(∃ xs ys,x=.tuple xs/\y=.tuple ys/\LexD LtA xs ys b/\(∀ x∈xs,Gd x)/\∀ x∈ys,Gd x)\/(∃ xs ys,x=.list xs/\y=.list ys/\LexD LtA xs ys b/\(∀ x∈xs,Gd x)/\∀ x∈ys,Gd x)
theorem LtA.at{x y:PyData}(h:LtA x y b){u v:Value}{as bs:List Addr}(r1:Reads s.heap u x as)(r2:Reads s.heap v y bs):LtAt A s u v b:=by
 obtain⟨i,j,rfl,rfl,rfl⟩ | ⟨i,j,rfl,rfl,rfl⟩:=h
 . cases r1;cases r2;exact .int _ _ _ _
 . cases r1;cases r2;exact .str _ _ _ _
theorem LtB.at{x y:PyData}(h:LtB x y b)(hu:A.units+16<cLine){u v:Value}{as bs:List Addr}(r1:Reads s.heap u x as)(r2:Reads s.heap v y bs):LtAt A s u v b:=by
 obtain⟨xs,ys,rfl,rfl,l,g1,g2⟩ | ⟨xs,ys,rfl,rfl,l,g1,g2⟩:=h
 . exact Cy l r1 r2 g1 g2 hu λx y b _ _ h u v as bs r1 r2=>h.at r1 r2
 . exact EX l r1 r2 g1 g2 hu λx y b _ _ h u v as bs r1 r2=>h.at r1 r2
theorem Gc(h:LexD LtB xs ys b)(g1:∀ x∈xs,Gd x)(g2:∀ x∈ys,Gd x)(hu:A.units+17<cLine){u v:Value}{as bs:List Addr}(r1:Reads s.heap u (.tuple xs) as)(r2:Reads s.heap v (.tuple ys) bs):LtAt A s u v b:=
 Cy h r1 r2 g1 g2 (by omega) λx y b _ _ h u v as bs r1 r2=>h.at (by show A.units+1+16<cLine;omega) r1 r2
def Kp(h h':Heap):Prop:=∀ b o,h.get? b=some o->h'.get? b=some o
mutual
theorem tY{h h':Heap}(k:Kp h h'):∀{u:Value} {d:PyData} {as:List Addr},Reads h u d as->Reads h' u d as
 | _,_,_,.none=>.none
 | _,_,_,.bool b=>.bool b
 | _,_,_,.int i t=>.int i t
 | _,_,_,.str x t=>.str x t
 | _,_,_,.list a b c d=>.list (k _ _ a) b c (readsAll_kp k d)
 | _,_,_,.tuple a b c d=>.tuple (k _ _ a) b c (readsAll_kp k d)
 | _,_,_,.dict a b c d e=>.dict (k _ _ a) b c (readsAll_kp k d) (readsAll_kp k e)
theorem readsAll_kp{h h':Heap}(k:Kp h h'):∀{us:List Value} {ds:List PyData} {as:List Addr},ReadsAll h us ds as->ReadsAll h' us ds as
 | _,_,_,.nil=>.nil
 | _,_,_,.cons a b=>.cons (tY k a) (readsAll_kp k b)
end
section
variable{prog:Program}{w:World}{A:Around}{I:Addr}{fp wr:List Addr}{G:Array GenState->Array GenState->Prop}{n:Nat}{P:Nat->Value->Prop}{St:Nat->Shared->Prop}
theorem y0{h0:Heap}{wr:List Addr}{s s':Shared}(k:Kp h0 s.heap)(m:Moved wr G s s')(hw:∀ b∈wr,h0.get? b=none):Kp h0 s'.heap:=λb o e=>m.heap b o (λhb=>by rw[hw b hb]at e;cases e) (k b o e)
theorem CA{h0 h:Heap}{S:Addr}{f:Obj->Obj}(k:Kp h0 h)(hS:h0.get? S=none):Kp h0 (h.update S f):=λb o e=>by
 rw[PH _ _ (λz=>by rw[z,e]at hS;cases hS)];exact k b o e
theorem CB(W:WalksS prog w A.in1 I fp wr G n P St)(bt:Nat->Nat->Bool)(h0:Heap)(hcmp:∀(i j:Nat) (vi vj:Value) (s:Shared),Kp h0 s.heap->P i vi->P j vj->LtAt A.in1 s vi vj (bt i j))(S:Addr)(hSf:S∉fp)(hS0:h0.get? S=none)(hw0:∀ b∈wr,h0.get? b=none){R:Result->Shared->Prop}:
  ∀(k j:Nat) (s:Shared) (vb:Value) (c:Nat),n - (j+1)=k->j+1<=n->St (j+1) s->Kp h0 s.heap->P (argBest bt j) vb->s.heap.get? S=some {cls:=.type "list",data:=.seq #[vb,vb] c}->
   (∀(v:Value) (s':Shared),P (argBest bt (n-1)) v->Moved (S::wr) G s s'->R (.ok (.ret v)) s')->
   codeAny (model prog w) A (.builtin "min.loop" ⟨[.ref I,.none,.ref S],[]⟩) R s:=by
 have hSw:S∉wr:=λh=>hSf (W.sub S h);have hsub:∀ b,b∈wr->b∈S::wr:=λb hb=>OT _ hb
 have hw1:∀ b∈S::wr,h0.get? b=none:=λb hb=>by
  rcases OM.mp hb with rfl | h
  . exact hS0
  . exact hw0 b h
 have notS:∀{b},b∉S::wr->S≠b:=λhb h=>hb (by rw[h];exact OV);have hname:toString "min"++toString ".loop"="min.loop":=by decide
 intro k
 induction k with
 | zero=>
  intro j s vb c hk hj hst hkp hPb hS hR;have hin:n=j+1:=by omega
  refine QX Sx ?_;rw[QI QC _];refine OO (R5 hS rfl ?_);refine OO (R7 (W.done s _ _ (hin ▸ hst) λs' hm=>?_));have hS':=hm.heap S _ hSw hS;refine OO (RQ hS' rfl (OO (Sd (Pf ?_))));refine hR vb _ (by rw[hin];exact hPb) (SS (hm.mono hsub) (OQ _) λb o hb e=>?_);rw[PH _ _ (notS hb)];exact e
 | succ k ih=>
  intro j s vb c hk hj hst hkp hPb hS hR;refine QX Sx ?_;rw[QI QC _];refine OO (R5 hS rfl ?_);refine OO (R7 (W.item (j+1) s _ _ (by omega) hst λv s' hP hst' hm=>?_));have hS':=hm.heap S _ hSw hS;have hk':=y0 hkp hm hw0;refine OO (Pf ?_);refine OO (R7 (QZ (OO (hcmp (j+1) (argBest bt j) v vb s' hk' hP hPb prog w _ _ ?_))));refine OO (QZ (Qv (OO (Sd (Pf ?_)))))
  cases hb:bt (j+1) (argBest bt j) with
  | false=>
   refine wpAny_ite_false (by decide) (OO (Sd ?_));refine Pf ⟨Q0 QC _,?_⟩;refine ih (j+1) s' vb c (by omega) (by omega) hst' hk' ?_ hS' λv2 s2 h1 h2=>hR v2 s2 h1 ((hm.mono hsub).trans W.gtrans h2);rw[argBest.eq_2,hb];exact hPb
  | true=>
   refine S4 rfl (OO (RQ hS' rfl (OO (Sd ?_))));refine Pf ⟨Q0 QC _,?_⟩
   have fr:∀ b o,b∉S::wr->s'.heap.get? b=some o->(s'.heap.update S (Obj.mapSeq λ_=>#[v,v])).get? b=some o:=λb o hb e=>by
    rw[PH _ _ (notS hb)];exact e
   refine ih (j+1) _ v _ (by omega) (by omega) (W.frame (j+2) s' _ s'.toks hst' (OQ _) λb hb o e=>?_) (CA hk' hS0) ?_ (Q6 _ hS' rfl) λv2 s2 h1 h2=>hR v2 s2 h1 (Moved.trans W.gtrans (SS (hm.mono hsub) (OQ _) fr) h2)
   . rw[PH _ _ (λ(z:S=b)=>hSf (by rw[z];exact hb))];exact e
   . rw[argBest.eq_2,hb];exact hP
theorem AX (W:WalksS prog w A.in1 I fp wr G n P St) (bt:Nat->Nat->Bool) (h0:Heap) (hcmp:∀(i j:Nat) (vi vj:Value) (s:Shared),Kp h0 s.heap->P i vi->P j vj->LtAt A.in1 s vi vj (bt i j)) (S:Addr) (hSf:S∉fp) (hS0:h0.get? S=none) (hw0:∀ b∈wr,h0.get? b=none) {R:Result->Shared->Prop} (hn:0<n) {s:Shared} {c:Nat} (hst:St 0 s) (hkp:Kp h0 s.heap)
  (hS:s.heap.get? S=some {cls:=.type "list",data:=.seq #[] c}) (hR:∀(v:Value) (s':Shared),P (argBest bt (n-1)) v->Moved (S::wr) G s s'->R (.ok (.ret v)) s'):
  codeAny (model prog w) A (.builtin "min.loop" ⟨[.ref I,.none,.ref S],[]⟩) R s:=by
 have hSw:S∉wr:=λh=>hSf (W.sub S h);have hsub:∀ b,b∈wr->b∈S::wr:=λb hb=>OT _ hb;have notS:∀{b},b∉S::wr->S≠b:=λhb h=>hb (by rw[h];exact OV);refine QX Sx ?_;rw[QI QC _];refine OO (R5 hS rfl ?_);refine OO (R7 (W.item 0 s _ _ hn hst λv s' hP hst' hm=>?_));have hS':=hm.heap S _ hSw hS;have hk':=y0 hkp hm hw0;refine OO (Pf ?_);refine OO (RQ hS' rfl ?_);refine Pf ⟨Q0 QC _,?_⟩
 have fr:∀ b o,b∉S::wr->s'.heap.get? b=some o->(s'.heap.update S (Obj.mapSeq λ_=>#[v,v])).get? b=some o:=λb o hb e=>by
  rw[PH _ _ (notS hb)];exact e
 refine CB W bt h0 hcmp S hSf hS0 hw0 _ 0 _ v _ rfl (by omega) (W.frame 1 s' _ s'.toks hst' (OQ _) λb hb o e=>?_) (CA hk' hS0) (by rw[argBest.eq_1];exact hP) (Q6 _ hS' rfl) λv2 s2 h1 h2=>hR v2 s2 h1 (Moved.trans W.gtrans (SS (hm.mono hsub) (OQ _) fr) h2);rw[PH _ _ (λ(z:S=b)=>hSf (by rw[z];exact hb))];exact e
theorem CC {E:Value->Shared->Prop} {s:Shared} {x:Value} {Q:Value->Shared->Prop} (h:wpAny (model prog w) A.in1 (pyIter x) (λit s₂=>∃ I fp wr G n P St bt,it=.ref I/\WalksS prog w A.in1 I fp wr G n P St/\St 0 s₂/\(∀ b∈fp,b<s₂.heap.objs.size)/\0<n/\Kp s.heap s₂.heap/\(∀ b∈wr,s.heap.get? b=none)/\
  (∀(i j:Nat) (vi vj:Value) (s':Shared),Kp s.heap s'.heap->P i vi->P j vj->LtAt A.in1 s' vi vj (bt i j))/\∀(v:Value) (s':Shared),P (argBest bt (n-1)) v->Moved wr G s₂ s'->Q v s') E s):
  wpAny (model prog w) A (call (.builtin "min") [x]) Q E s:=by
 have hname:toString "min"++toString ".loop"="min.loop":=by decide
 refine call_function_tree F.kind_min F.plain_min F.entry_min (F.args_min1 _) ?_;refine OO (Sg (a:=[none,none]) rfl ?_);refine OO (Pf (OO (PF h ?_ λ_ _ h=>h)));rintro it s₂ ⟨I,fp,wr,G,n,P,St,bt,rfl,W,h0,hfp,hn,hkp,hwr,hc,hq⟩
 have fresh:s₂.heap.get? s₂.heap.objs.size=none:=by
  cases e:s₂.heap.get? s₂.heap.objs.size with
  | none=>rfl
  | some o=>exact absurd (OZ e) (P3 _)
 refine OO (wpAny_newObj_type ?_);refine Pf ⟨Q0 QC _,?_⟩;refine AX W bt s.heap hc s₂.heap.objs.size (λhb=>P3 _ (hfp _ hb)) ?_ hwr hn (W.frame 0 s₂ _ _ h0 ?_ λb hb o e=>OS _ e) (λb o e=>OS _ (hkp b o e)) (Pk _ rfl) λv s' hP hm=>hq v s' hP (Moved.drop_new hm ?_)
 . cases e:s.heap.get? s₂.heap.objs.size with
   | none=>rfl
   | some o=>rw[hkp _ _ e]at fresh;cases fresh
 all_goals exact OQ _
end
section
variable{X:Cx}
def kMinD(K:Frag):List V->Hp->VK->Prop
 | [.ref p],H,Q=>∃(ts:List Addr) (ds:List (List PyData)) (bt:Nat->Nat->Bool),H p=some (.lst (ts.map V.ref))/\ts.length=ds.length/\0<ts.length/\(∀(i:Nat) t d,ts[i]? =some t->ds[i]? =some d->DV K H (.ref t) (.tuple d)/\∀ x∈d,Gd x)/\
   (∀ i j d e,ds[i]? =some d->ds[j]? =some e->LexD LtB d e (bt i j))/\∀ t,ts[argBest bt (ts.length-1)]? =some t->Q (.ref t) H
 | _,_,_=>False
theorem uX(hc:X.calm=true)(hu:X.A.units+64<cLine):CallR X (.builtin "min") (kMinD X.K):=by
 intro Ox s σ H xs us Q I r h;unfold kMinD at h
 split at h
 . rename_i p
   obtain⟨ts,ds,bt,e,hl,hne,hd,hb,q⟩:=h;obtain⟨u,rfl,ru⟩:=dh r;cases ru;obtain⟨OA,rv,pl,hz⟩:=I.list (Pc e);have hil:=rv.length;rw[OF]at hil
   have hlt:p<s.heap.objs.size:=by
    obtain⟨o,h1,_⟩:=pl.isList;exact OZ h1
   have hval:∀(i:Nat) (v:Value),OA.toArray[i]? =some v->∃ t,ts[i]? =some t/\v=.ref t:=λi v hP=>by
    have hv:OA[i]? =some v:=by simpa using hP
    obtain⟨x,hx,rx⟩:=rv.get' hv;obtain⟨b,hb,rfl⟩:∃ b,ts[i]? =some b/\V.ref b=x:=by simpa using hx
    cases rx;exact⟨b,hb,rfl⟩
   have e2:OA.toArray.size=ts.length:=by rw[OX];exact hil.symm
   refine CC (Q9 pl.isList ?_);refine⟨s.heap.objs.size,_,_,_,OA.toArray.size,_,_,bt,rfl,(Tc (A:=X.A.in1) (I.ok.hd hc) s.heap.objs.size p (Po hlt) OA.toArray).toS,⟨⟨_,Pk _ rfl,rfl,rfl⟩,pl.isList.push _⟩,?_,by omega,λb o e=>OS _ e,?_,?_,λv s' hP hm=>?_⟩
   . intro b hb;show b < (s.heap.push _).objs.size;rw[Qr];rcases OM.mp hb with rfl | hb
     . exact QN _
     . rcases OM.mp hb with rfl | hb
       . exact Qd hlt
       . cases hb
   . intro b hb;obtain rfl:=OR.mp hb
     cases e:s.heap.get? s.heap.objs.size with
     | none=>rfl
     | some o=>exact absurd (OZ e) (P3 _)
   . intro i j vi vj s' kp hi hj;obtain⟨t1,e1,rfl⟩:=hval _ _ hi;obtain⟨t2,e2,rfl⟩:=hval _ _ hj;have d1:ds[i]? =some (ds[i]'(by have:=(OK.mp e1).1;omega)):=OG _;have d2:ds[j]? =some (ds[j]'(by have:=(OK.mp e2).1;omega)):=OG _;obtain⟨v1,g1⟩:=hd i _ _ e1 d1;obtain⟨v2,g2⟩:=hd j _ _ e2 d2;obtain⟨as,r1⟩:=v1.reads I rfl;obtain⟨bs,r2⟩:=v2.reads I rfl;exact Gc (hb i j _ _ d1 d2) g1 g2 (by show X.A.units+1+17<cLine;omega) (tY kp r1) (tY kp r2)
   . obtain⟨t,et,rfl⟩:=hval _ v hP;rw[e2]at et;exact⟨.ref t,H,I.walked (l:=p) hm,rfl,q t et⟩
 . exact h.elim
end
local macro_rules|`(tactic|walk_at "w")=>wk9 ws4
theorem CD:∀ a b:List Nat,decide (a<b)=lexL (λa b:Nat=>decide (a<b)) a b
 | [],[]=>by decide
 | [],_::_=>by simp[lexL]
 | _::_,[]=>by simp[lexL]
 | a::x,b::y=>by
  rw[lexL,← CD x y,Pw,Pp,List.cons_lt_cons_iff];by_cases e:a=b
  . subst e;rw[O6 rfl];simp
  . rw[O0 e];simp[e]
theorem tZ:∀ xs ys:List Int,LexD LtA (xs.map PyData.int) (ys.map PyData.int) (lexL ltI xs ys)
 | [],[]=>.nn
 | [],_::_=>.nc
 | _::_,[]=>.cn
 | a::x,b::y=>by
  rw[lexL];by_cases e:a=b
  . rw[O6 e];exact .eq (by rw[PyData.eqv,e];simp) (tZ x y)
  . rw[O0 e];exact .ne (by rw[PyData.eqv];simp[e]) (.inl ⟨a,b,rfl,rfl,rfl⟩)
theorem y7:∀ xs ys:List (List Nat),LexD LtA (xs.map dS) (ys.map dS) (lexL (lexL λa b:Nat=>decide (a<b)) xs ys)
 | [],[]=>.nn
 | [],_::_=>.nc
 | _::_,[]=>.cn
 | a::x,b::y=>by
  rw[lexL];by_cases e:a=b
  . rw[O6 e];exact .eq (by rw[q0,e];simp) (y7 x y)
  . rw[O0 e];exact .ne (by rw[q0];simp[e]) (.inr ⟨tx a,tx b,rfl,rfl,by rw[ka,ka,CD]⟩)
theorem Ge(i:Int):Gd (.int i):=⟨by first | rfl | (rw[PyData.canLay0]),by first | decide | (rw[PyData.depth];decide)⟩
theorem rZ(xs:List Int):∀ x∈xs.map PyData.int,Gd x:=λx hx=>by
 obtain⟨i,_,rfl⟩:=OP.mp hx;exact Ge i
theorem wb{ls:List (List Nat)}(ok:∀ l∈ls,PyData.strOk (tx l)=true):∀ x∈ls.map dS,Gd x:=λx hx=>by
 obtain⟨l,hl,rfl⟩:=OP.mp hx;exact⟨by unfold dS;rw[PyData.canLay0];exact ok l hl,by unfold dS;rw[PyData.depth];decide⟩
def pF(f:Frm):List PyData:=[dTI [f.1.1,f.1.2.1,f.1.2.2],.list (f.2.1.map dS),dLI f.2.2]
variable{f:Frm}
theorem GM(ok:∀ l∈f.2.1,PyData.strOk (tx l)=true):∀ x∈pF f,Gd x:=λx hx=>by
 unfold pF at hx;rcases OM.mp hx with rfl | hx
 . exact⟨z8 _,by rw[wI];decide⟩
 . rcases OM.mp hx with rfl | hx
   . have h1:PyData.canLayAll0 (f.2.1.map dS)=true:=pB λd hd=>(wb ok d hd).1;have h2:PyData.depthAll (f.2.1.map dS)<=0:=lJ λd hd=>by obtain⟨x,_,rfl⟩:=OP.mp hd;exact OQ _
     exact⟨by rw[PyData.canLay0];exact h1,by rw[PyData.depth];omega⟩
   . rw[OR.mp hx];exact⟨rP _,by rw[oz];decide⟩
theorem GN{k:Frm}(ok:∀ l∈f.2.1,PyData.strOk (tx l)=true)(ok':∀ l∈k.2.1,PyData.strOk (tx l)=true):LexD LtB (pF f) (pF k) (ltF f k):=by
 obtain⟨⟨h,w,g⟩,ls,cl⟩:=f;obtain⟨⟨h',w',g'⟩,ls',cl'⟩:=k;unfold pF ltF pairL
 try dsimp only
 by_cases e1:(h,w,g)=(h',w',g')
 . rw[O6 e1];cases e1;refine .eq (by rw[vq];simp) ?_;by_cases e2:ls=ls'
   . rw[O6 e2];cases e2;refine .eq (by rw[PyData.eqv,kX dS q0];simp) ?_;by_cases e3:cl=cl'
     . cases e3;refine .eq (by rw[rQ];simp) ?_;rw[tU];exact .nn
     . exact .ne (by rw[rQ];simp[e3]) (.inr ⟨_,_,rfl,rfl,tZ cl cl',rZ _,rZ _⟩)
   . rw[O0 e2];exact .ne (by rw[PyData.eqv,kX dS q0];simp[e2]) (.inr ⟨_,_,rfl,rfl,y7 ls ls',wb ok,wb ok'⟩)
 . rw[O0 e1];refine .ne (by rw[vq];simpa using e1) (.inl ⟨_,_,rfl,rfl,?_,rZ _,rZ _⟩)
   have e:(if h=h' then(if w=w' then ltI g g' else ltI w w') else ltI h h')=lexL ltI [h,w,g] [h',w',g']:=by
    simp only[lexL];by_cases a:h=h'
    . rw[O6 a,O6 a];by_cases b:w=w'
      . rw[O6 b,O6 b];by_cases c:g=g'
        . exact absurd (by rw[a,b,c]) e1
        . rw[O0 c]
      . rw[O0 b,O0 b]
    . rw[O0 a,O0 a]
   have l:=tZ [h,w,g] [h',w',g'];rw[← e]at l;exact l
structure FsAt(H1 H:Hp)(l:Addr)(ts:List Addr)(fs:List Frm):Prop where
 len:ts.length=fs.length
 at_:∀(i:Nat) t f,ts[i]? =some t->fs[i]? =some f->∃ p L C,IsFm H t p L C f/\t≠l/\p≠l/\L≠l/\C≠l/\H1 t=none/\H1 L=none/\H1 C=none/\L≠C
variable{H:Hp}{L l:Addr}{o:HO}
theorem IsFm.put{T p C:Addr}(c:IsFm H T p L C f)(n3:T≠l)(n4:p≠l)(n5:L≠l)(n6:C≠l):IsFm (upd H l o) T p L C f:=
 ⟨by rw[ah n3];exact c.T,by show(upd H l o) p=_;rw[ah n4];exact c.p,by rw[ah n5];exact c.L,by rw[ah n6];exact c.C,c.ok⟩
variable{H1:Hp}{ts:List Addr}
theorem FsAt.more{H':Hp}{t p C:Addr}{fs:List Frm}(x:FsAt H1 H l ts fs)(s:Same H H')(y:IsFm H' t p L C f)(n1:t≠l)(n2:p≠l)(n3:L≠l)(n4:C≠l)(h1:H1 t=none)(h2:H1 L=none)(h3:H1 C=none)(ne:L≠C):FsAt H1 (upd H' l o) l (ts++[t]) (fs++[f]):=by
 have xl:=x.len;refine⟨by rw[OU,OU,xl];rfl,λi u k e1 e2=>?_⟩;rcases Qo i ts.length with hi | hi
 . rw[O9 hi]at e1;rw[O9 (by omega)]at e2;obtain⟨p,L,C,a,m1,m2,m3,m4,r⟩:=x.at_ i u k e1 e2;exact⟨p,L,C,(a.same s).put m1 m2 m3 m4,m1,m2,m3,m4,r⟩
 . rw[O8 hi]at e1;rw[O8 (by omega),← xl]at e2
   cases h:i-ts.length with
   | zero=>
    rw[h]at e1 e2;cases e1;cases e2;exact⟨p,L,C,y.put n1 n2 n3 n4,n1,n2,n3,n4,h1,h2,h3,ne⟩
   | succ k=>rw[h]at e1;simp at e1
variable{K:Frag}{a:Addr}{fin:Addr->Hp->Prop}
theorem AY {k:Nat} {te:TE} {σ0:St} {xs:List V} (f:Nat->Frm) (hn:xs.length<=900) (hq:SqL K H1 a xs)
  (he:∀ i x H Q,xs[i]? =some x->Same H1 H->(∀ T p L C H',Same H H'->H T=none->H L=none->H C=none->L≠C->IsFm H' T p L C (f i)->Q (.ref T) H')->te (σ0.set k (some x)) H Q)
  (hd:∀ l ts H,H1 l=none->Same H1 H->H l=some (.lst (ts.map V.ref))->FsAt H1 H l ts ((List.range xs.length).map f)->fin l H):
  CompR (Itl K a) (gName k) tTrue te fin σ0 H1:=by
 refine gX (xs:=xs) (λl i σ H=>(σ=σ0\/∃ cv,σ=σ0.set k cv)/\Same H1 H/\∃ ts:List Addr,H l=some (.lst (ts.map V.ref))/\FsAt H1 H l ts ((List.range i).map f)) (λl hl=>⟨.inl rfl,(OL H1).laid hl,[],by rw[ag];rfl,rfl,λi t f e=>by simp at e⟩) (λl i σ H _ _ p=>p.2.1.seq hq) ?_ (λl σ H hl ⟨_,s1,ts,el,x⟩=>hd l ts H hl s1 el x);rintro l i y σ H hl hy ⟨hσ,s1,ts,el,x⟩;have hi:i<xs.length:=(OK.mp hy).1;rw[aS]
 have e:σ.set k (some y)=σ0.set k (some y):=by
  rcases hσ with rfl | ⟨cv,rfl⟩
  . rfl
  . exact Qy ..
 rw[e,cI,O6 rfl];refine he i y H _ hy s1 λT p L C H3 s3 hT hL hC ne fm=>?_;have el3:=s3 _ _ el;have no:∀{z},H z=none->z≠l:=λhz e=>by rw[e,el]at hz;cases hz
 have np:p≠l:=λe=>by have h2:=fm.p;unfold IsFl at h2;rw[e,el3]at h2;cases h2
 have xl:=x.len;rw[OF,PY]at xl;refine⟨_,el3,by rw[OF];exact aE (by omega),.inr ⟨_,rfl⟩,(s1.trans s3).own hl,ts++[T],by rw[ag];simp,?_⟩;rw[PP,PB];exact x.more s3 fm (no hT) np (no hL) (no hC) (s1.free hT) (s1.free hL) (s1.free hC) ne
variable{Q:VK}
theorem CF{fs:List Frm}(el:H l=some (.lst (ts.map V.ref)))(xl:ts.length=fs.length)(x:∀(i:Nat) t f,ts[i]? =some t->fs[i]? =some f->∃ p L C,IsFm H t p L C f)(ne:0<fs.length)(h:∀(i:Nat) T f,ts[i]? =some T->fs[i]? =some f->Lst fs f->Q (.ref T) H):kMinD K [.ref l] H Q:=by
 let d0:Frm:=((0,0,0),[],[]);have gd:∀(i:Nat) f,fs[i]? =some f->fs.getD i d0=f:=λi f e=>by rw[List.getD,e];rfl
 have at1:∀(i:Nat) f,fs[i]? =some f->∃ t,ts[i]? =some t:=λi f e=>⟨_,OG (by have:=(OK.mp e).1;omega)⟩;refine⟨ts,fs.map pF,λi j=>ltF (fs.getD i d0) (fs.getD j d0),el,by rw[OF];exact xl,by omega,λi t D e1 e2=>?_,λi j D E e1 e2=>?_,λt et=>?_⟩
 . rw[OH]at e2;obtain⟨f,ef,rfl⟩:=P9.mp e2;obtain⟨p,L,C,fm⟩:=x i t f e1 ef;exact⟨fm.dv,GM fm.ok⟩
 . rw[OH]at e1 e2;obtain⟨f,ef,rfl⟩:=P9.mp e1;obtain⟨k,ek,rfl⟩:=P9.mp e2;obtain⟨t,ht⟩:=at1 i f ef;obtain⟨u,hu⟩:=at1 j k ek;obtain⟨_,_,_,fm⟩:=x i t f ht ef;obtain⟨_,_,_,fk⟩:=x j u k hu ek;show LexD LtB (pF f) (pF k) (ltF (fs.getD i d0) (fs.getD j d0));rw[gd i f ef,gd j k ek];exact GN fm.ok fk.ok
 . obtain⟨b1,b2⟩:=Dv (L:=fs) (bt:=λi j=>ltF (fs.getD i d0) (fs.getD j d0)) (d:=d0) (λi j _ _=>rfl) ne;rw[xl]at et;have ef:fs[argBest (λi j=>ltF (fs.getD i d0) (fs.getD j d0)) (fs.length-1)]? =some _:=OG b1;rw[gd _ _ ef]at b2;exact h _ t _ et ef b2
theorem GO{fs:List Frm}(el:H l=some (.lst (ts.map V.ref)))(x:FsAt H1 H l ts fs)(ne:0<fs.length)(h:∀ T p L C f,IsFm H T p L C f->Lst fs f->H1 T=none->H1 L=none->H1 C=none->L≠C->Q (.ref T) H):kMinD K [.ref l] H Q:=by
 refine CF el x.len (λi t f e1 e2=>?_) ne λi T f e1 e2 le=>?_
 . obtain⟨p,L,C,fm,_⟩:=x.at_ i t f e1 e2;exact⟨p,L,C,fm⟩
 . obtain⟨p,L,C,fm,_,_,_,_,f1,f2,f3,ne⟩:=x.at_ _ T _ e1 e2;exact h T p L C _ fm le f1 f2 f3 ne
def fmsP(p:Pd):List Frm:=(mvs p.g p.rows).map λm=>(p.mv m.1 m.2).frm
variable{p:Pd}
theorem r8(g0:0<=p.g){t:Frm}:t∈fmsP p↔p.Orb t:=by
 unfold fmsP;rw[OP];constructor
 . rintro⟨m,hm,rfl⟩;exact⟨m.1,m.2,uS g0 hm,rfl⟩
 . rintro⟨m,ss,M,rfl⟩;exact⟨(m,ss),(rY g0).mpr ⟨M.m0,M.m8,M.x,M.r⟩,rfl⟩
variable{g:Int}{rows:List RR}
theorem Aq(g0:0<=g):0 < (mvs g rows).length:=by
 have:((0:Int),plnL g)∈mvs g rows:=(rY g0).mpr ⟨by decide,by decide,yN g0,.inl rfl⟩;exact SF this
theorem wc(g1:1<=g)(g4:g<=4):(mvs g rows).length<=800:=by
 have el:=uR (rows:=rows) g1 g4
 have ln:∀ n:Nat,(((List.range n).map λ(n:Nat)=>(n:Int)).flatMap λm=>(exL g rows).map λss=>(m,ss)).length=n*(exL g rows).length:=λn=>by
  induction n with
  | zero=>simp
  | succ n ih=>rw[nM,OU,ih,OF,Rx]
 unfold mvs;rw[ln];omega
def gh(K:Frag)(c:RCl RK)(d:RCl PzK):Sp:=λvs H Q E=>∃(P L G:Addr) (h w g:Int) (rows:List RR) (cl:List Int),vs=[.ref P]/\IsPz H c d P L G h w g rows cl/\(4<g->∀ C,Glb K "TooMany" C->E (.ref C) none H)/\
 (g<=4->∀(T p L C:Addr) (f:Frm) (H':Hp),Same H H'->H T=none->H L=none->H C=none->L≠C->IsFm H' T p L C f->Lst (fmsP ⟨h,w,g,rows,cl⟩) f->Q (.ref T) H')
variable{c:RCl RK}{d:RCl PzK}{vs:List V}{E:XK}
theorem DH(h:gh K c d vs H Q E):vs.length=1:=by
 obtain⟨_,_,_,_,_,_,_,_,rfl,_⟩:=h;rfl
def qi(K:Frag)(c:RCl RK)(d:RCl PzK)(E:XK):TS:=
 by exists ":gHL~Wbij=ya0clq'HbaD&--0 zb,'Dbija0ch#1 BL'Ebij=ya2a1cc"
theorem DI(h:gh K c d vs H Q E):qi K c d E {nx:=λ_ H'=>Q .non H',rt:=Q} (start ["puzzle"] vs) H:=by
 obtain⟨P,L,G,h,w,g,rows,cl,rfl,X,bad,good⟩:=h;have g1:=X.R.F.g0;show qi K c d E _ [some (.ref P)] H;unfold qi;symm;refine⟨P,L,G,h,w,g,rows,cl,rfl,X,λg4=>?_,bad⟩;symm;refine⟨P,L,G,h,w,g,rows,cl,rfl,X,g4,λl ts H1 s1 hl Y=>?_⟩;have yl:=Y.len;have ml:=wc (rows:=rows) g1 g4;refine⟨l,rfl,⟨_,Pc Y.top⟩,?_⟩;refine AY (xs:=ts.map V.ref) (λi=>(((mvs g rows)[i]?).map λm=>(Pd.mv ⟨h,w,g,rows,cl⟩ m.1 m.2).frm).getD ((0,0,0),[],[])) (by rw[OF];omega) (Pc Y.top) ?_ ?_
 . intro i x H2 Q2 hx s2 k2;obtain⟨t,ht,rfl⟩:=bq hx;have hi:=(OK.mp ht).1;have hm:(mvs g rows)[i]? =some ((mvs g rows)[i]'(by omega)):=OG (by omega);rw[hm]at k2;have M:=uS (p:=⟨h,w,g,rows,cl⟩) (by show 0<=g;omega) (ON hm);show tCall _ _ _ _ [none,some (.ref t),some (.ref P)] H2 Q2;symm;exact⟨P,L,G,l,t,h,w,g,rows,cl,_,rfl,X.same (s1.trans s2),(Y.at_ i t _ ht hm).same s2,M,λT p L2 C2 H3 s3 hT hL hC ne fm=>k2 T p L2 C2 H3 s3 hT hL hC ne fm⟩
 . intro M us H2 hM s2 eM x
   have ef:((List.range (ts.map V.ref).length).map λi=>(((mvs g rows)[i]?).map λm=>(Pd.mv ⟨h,w,g,rows,cl⟩ m.1 m.2).frm).getD ((0,0,0),[],[]))=fmsP ⟨h,w,g,rows,cl⟩:=by
    unfold fmsP;rw[OF,yl];refine PJ (by simp) λi h1 h2=>?_;have hi:i < (mvs g rows).length:=by simpa using h2
    simp[OG hi]
   rw[ef]at x;symm;refine GO eM x (by unfold fmsP;rw[OF];exact Aq (by show 0<=g;omega)) λT p L2 C2 f fm le f1 f2 f3 ne=>?_;exact good g4 T p L2 C2 f H2 (s1.trans s2) (s1.free f1) (s1.free f2) (s1.free f3) ne fm le
def bj(K:Frag)(c:RCl RK)(d:RCl PzK):Sp:=λvs H Q _=>∃(P L G P' L' G':Addr) (h w g h' w' g':Int) (rows rows':List RR) (cl cl':List Int) (way:Int),vs=[.ref P,.ref P',.int way]/\IsPz H c d P L G h w g rows cl/\IsPz H c d P' L' G' h' w' g' rows' cl'/\(way=0/\4<g\/way≠0/\(4<g\/4<g'))/\∀ H',Same H H'->Q (.bl true) H'
theorem sC(h:bj K c d vs H Q E):vs.length=3:=by
 obtain⟨_,_,_,_,_,_,_,_,_,_,_,_,_,_,_,_,_,rfl,_⟩:=h;rfl
def fi(K:Frag)(c:RCl RK)(d:RCl PzK)(a:EA):TS:=
 by exists ":gkd]h#3 g}fbmesb2df#0 ~Xbija0c'Ibija0a1c~H}g#4 k4h#3 l/q~Yba3ad~H'Cc/~Mq~Yba3ad~H~Ac~Mq~Yba3ad~H}hc"
theorem sD{a:EA}(R:gY K a "TooMany" a.TooMany (qZ a))(h:bj K c d vs H Q E):fi K c d a {nx:=λ_ H'=>Q .non H',rt:=Q} (start ["_law_one","_law_other_here","_law_way","_law_caught","error"] vs) H:=by
 obtain⟨P,L,G,P',L',G',h,w,g,h',w',g',rows,rows',cl,cl',way,rfl,X,X',bad,k⟩:=h;show fi K c d a _ [some (.ref P),some (.ref P'),some (.int way),none,none] H;unfold fi;rw[az,dH];symm;refine⟨λc d H'=>c=.ref a.TooMany/\Same H H',?_,?_⟩
 . symm;obtain⟨w0,g5⟩ | ⟨w0,g5⟩:=bad
   . rw[O3 w0];exact iteT ⟨P,L,G,h,w,g,rows,cl,rfl,X,λ_ C hC=>⟨by rw[Glb.eq hC R.g],OL H⟩,λg4=>absurd g4 (by omega)⟩
   . rw[OW w0];exact iteF ⟨P,L,G,P',L',G',h,w,g,h',w',g',rows,rows',cl,cl',rfl,X,X',λ_ C hC=>⟨by rw[Glb.eq hC R.g],OL H⟩,λg4 g4'=>by omega⟩
 . rintro C H2 ⟨e1,s0⟩;cases e1;refine⟨R.ex,λx hx=>?_⟩;have s1:Same H (upd H2 x (.ext (XO x a.TooMany))):=s0.laid hx;have ex:(upd H2 x (.ext (XO x a.TooMany))) x=some (.ext (XO x a.TooMany)):=ag;generalize upd H2 x (.ext (XO x a.TooMany))=H3 at*;have Z:=R.xis;have no:∀{H':Hp} {y:Addr} {Q':VK},H' x=some (.ext (XO x a.TooMany))->y∈qZ a->Q' (.bl false) H'->kIsX K [.ref x,.ref y] H' Q':=λhx' hy q=>DT Z hx' (R.no _ hy) q;symm;refine DT Z ex Dg ?_;refine⟨_,rfl,iteT ?_⟩;refine no ex (by simp) ⟨_,rfl,iteT ?_⟩;exact no ex (by simp) ⟨_,rfl,k H3 s1⟩
def AZ:List (Int × Int × Int)->(St->Hp->(List V->Hp->Prop)->Prop)
 | []=>tNil
 | p::r=>tCons (tTup (tCons (tC (.int p.1)) (tCons (tC (.int p.2.1)) (tCons (tC (.int p.2.2)) tNil)))) (AZ r)
theorem y8{σ:St}:∀(ps:List (Int × Int × Int)) (H:Hp) (Q:List V->Hp->Prop),(∀(as:List Addr) (H':Hp),Same H H'->as.length=ps.length->(∀(j:Nat) (a:Addr) (p:Int × Int × Int),as[j]? =some a->ps[j]? =some p->H' a=some (.tup [.int p.1,.int p.2.1,.int p.2.2]))->Q (as.map V.ref) H')->AZ ps σ H Q
 | [],H,Q,h=>h [] H (OL H) rfl λj a p e _=>by simp at e
 | p::r,H,Q,h=>by
  unfold AZ;symm;refine⟨lnR rfl,λt ht=>?_⟩;obtain⟨H1,z9,s1,et⟩:=aX (.tup [V.int p.1,V.int p.2.1,V.int p.2.2]) ht;rw[z9];refine y8 r H1 _ λas H2 s2 hl ha=>?_;refine h (t::as) H2 (s1.trans s2) (by simp[hl]) λj a q e1 e2=>?_
  match j,e1,e2 with
  | 0,e1,e2=>
   simp at e1 e2;subst e1 e2;exact s2 _ _ et
  | j+1,e1,e2=>exact ha j a q (by simpa using e1) (by simpa using e2)
def gf69:List (Int × Int × Int):=[(4,4,4),(3,4,3),(2,6,6),(4,3,2),(6,2,1),(3,5,5)]
theorem EY:∀ p∈gf69,1<=p.1/\p.1<=6/\1<=p.2.1/\p.2.1<=6/\p.1*p.2.1<=16/\1<=p.2.2/\p.2.2<=6:=by decide
def bL(K:Frag)(c:RCl RK)(d:RCl PzK):Sp:=λvs H Q _=>∃(a:Addr) (ns:List Int),vs=[.ref a]/\SqL K H a (ns.map V.int)/\ns.length<=63/\(∀ k,k≠.Rule->c.ok k=true)/\d.ok .Puzzle=true/\∀ H',Same H H'->Q (.bl true) H'
theorem rf(h:bL K c d vs H Q E):vs.length=1:=by
 obtain⟨_,_,rfl,_⟩:=h;rfl
def cA(K:Frag)(c:RCl RK)(d:RCl PzK):TS:=
 by exists ":l/esbAjE~o~pbij5c4esbAjE~E~Fbij5c3"
def fR(K:Frag)(c:RCl RK)(d:RCl PzK):TS:=
 by exists ":gJTadf#2 ch#7 gk,~wbija5ch#8 gomeXb86ldVGpgH~ZbI~*en8df#1 H~ZbI~*en8df#2 }ibij"
def cB(K:Frag)(c:RCl RK)(d:RCl PzK):TS:=
 by exists ":gk,~Gbija5ch#6 }jbij"
def fS(K:Frag)(c:RCl RK)(d:RCl PzK):TS:=
 by exists ":gkR~t~u~vbij=Sa1a3a4ch#5 }kbij"
def fU(K:Frag)(c:RCl RK)(d:RCl PzK):TS:=
 by exists ":g^#4 &---0 'Jba2c~mb#2 Ph#1 Ph#2 ~nBeQ2exeU,Oba3aerdf#41 1cdf#7 df#2 }lbij"
def fV(K:Frag)(c:RCl RK)(d:RCl PzK):TS:=
 by exists ":g^#3 &--210 Taerdf#1 ex,Oba0adf#60 cdf#3 ch#1 B,'Kba3a2a,Oba4aerdf#57 1cc}mbij"
def cC(K:Frag)(c:RCl RK)(d:RCl PzK):TS:=
 by exists ":gk,'Lba0a1adf#41 ch#2 }nbij"
def dU(K:Frag)(c:RCl RK)(d:RCl PzK):TS:=
 by exists ":gkenvawadf#4 adf#4 adf#4 cawadf#3 adf#4 adf#3 cawadf#2 adf#6 adf#6 cawadf#4 adf#3 adf#2 cawadf#6 adf#2 adf#1 cawadf#3 adf#5 adf#5 ccex,Oba0adf#40 cdf#6 h#1 }obij"
theorem wU{p q:Addr}{xs:List Int}(hp:H p=some (.lst (xs.map V.int)))(hq:H q=some (.lst (xs.map V.int)))(h:Q (.bl true) H):cEq K (.ref p) (.ref q) H Q:=
 yE (D:=.list (xs.map PyData.int)) (.lst (Pc hp) (.ints xs)) (.lst (Pc hq) (.ints xs)) (i8 xs) (xf xs) h
theorem CG{p q:Addr}{ts:List Str}(ok:∀ r∈ts,PyData.strOk r=true)(hp:H p=some (.lst (ts.map V.str)))(hq:H q=some (.lst (ts.map V.str)))(h:Q (.bl true) H):cEq K (.ref p) (.ref q) H Q:=by
 have a1:PyData.canLayAll0 (ts.map PyData.str)=true:=pB λd hd=>by
  obtain⟨x,hx,rfl⟩:=OP.mp hd;rw[PyData.canLay0];exact ok x hx
 have a2:PyData.depthAll (ts.map PyData.str)<=0:=lJ λd hd=>by obtain⟨x,_,rfl⟩:=OP.mp hd;exact OQ _
 refine yE (D:=.list (ts.map PyData.str)) (.lst (Pc hp) (.strs _)) (.lst (Pc hq) (.strs _)) ?_ ?_ h
 . simp[SeqAt.shaped,PyData.canLay0,a1,PyData.depth];omega
 . rw[PyData.eqv,kX PyData.str qO];simp
variable{P G Cl:Addr}{h w:Int}{cl:List Int}{v0 v1 v2 v6:Option V}
theorem zM{H0:Hp}{Ll:Addr}{v7 v8:Option V}(s0:Same H0 H)(X:IsPz H c d P L G h w g rows cl)(eL:H Ll=some (.lst ((rows.map RR.txt).map V.str)))(eC:H Cl=some (.lst (cl.map V.int)))(q:∀ H',Same H0 H'->Q (.bl true) H'):
  cA K c d {nx:=λ_ H'=>Q .non H',rt:=Q} [v0,v1,v2,some (.ref Ll),some (.ref Cl),some (.ref P),v6,v7,v8] H:=by
 obtain⟨dx,p0,rs,h1,h2,h3⟩:=X.ex;unfold cA;symm;refine methE (k:=.Puzzle) rfl X.ok h1 (by rfl) ?_;symm;refine⟨P,L,G,h,w,g,rows,cl,rfl,X,λl hl=>?_⟩;obtain⟨H1,z9,s1,e1⟩:=aX (.lst (cl.map V.int)) hl;rw[z9];symm;refine wU e1 (s1 _ _ eC) ?_;refine⟨_,rfl,iteT ?_⟩;refine methE (k:=.Puzzle) rfl X.ok (s1 _ _ h1) (by rfl) ?_;symm;refine⟨P,L,G,h,w,g,rows,cl,rfl,X.same s1,λl2 H2 s2 hl2 el2=>?_⟩;symm;refine CG (λt ht=>?_) el2 ((s1.trans s2) _ _ eL) (q H2 ((s0.trans s1).trans s2));obtain⟨r,hr,rfl⟩:=OP.mp ht;exact RR.sok X.R.F (X.R.ok r hr)
theorem zN{H0:Hp}{Ll:Addr}(s0:Same H0 H)(X:IsPz H c d P L G h w g rows cl)(eL:H Ll=some (.lst ((rows.map RR.txt).map V.str)))(eC:H Cl=some (.lst (cl.map V.int)))(q:∀ H',Same H0 H'->Q (.bl true) H'):
  cB K c d {nx:=λ_ H'=>Q .non H',rt:=Q} [v0,v1,v2,some (.ref Ll),some (.ref Cl),some (.ref P),none,none,none] H:=by
 unfold cB;generalize hV:fR K c d=V6 at*;symm;refine⟨P,L,G,h,w,g,rows,cl,rfl,X,λT p L1 C1 H1 s1 hT hL hC ne fm=>?_⟩;subst hV;unfold fR;generalize hV:cA K c d=V7 at*;symm;refine⟨2,rfl,by decide,by decide,?_⟩;refine cK (λi σ H'=>∃ v7 v8:Option V,σ=[v0,v1,v2,some (.ref Ll),some (.ref Cl),some (.ref P),some (.ref T),v7,v8]/\Same H1 H') ⟨none,none,rfl,OL _⟩ ?_ ?_
 . rintro i σ H2 hi ⟨v7,v8,rfl,s2⟩;rw[aS];symm;have s12:=s1.trans s2;refine⟨P,L,G,h,w,g,rows,cl,rfl,X.same s12,λT2 p2 L2 C2 H3 s3 hT2 hL2 hC2 ne2 fm2=>?_⟩
   try dsimp only
   rw[aN];symm;refine xL fm2 (fm.same (s2.trans s3)) ?_;rw[O3 rfl];refine⟨_,rfl,iteF ?_⟩;symm;refine ixT fm2.T (v:=V.ref L2) rfl ?_;refine⟨bA fm2.L,?_⟩;refine vt fm2.L ?_;have nT:T2≠L2:=λe=>by have:=fm2.L;rw[← e,fm2.T]at this;cases this
   have eC2:(upd H3 L2 (.lst [])) C2=some (.lst ((Pd.frm ⟨h,w,g,rows,cl⟩).2.2.map V.int)):=by rw[ah (Rk ne2)];exact fm2.C
   have eT2:(upd H3 L2 (.lst [])) T2=some (.tup [.ref p2,.ref L2,.ref C2]):=by rw[ah nT];exact fm2.T
   have s4:Same H2 (upd H3 L2 (.lst [])):=s3.own hL2;generalize upd H3 L2 (.lst [])=H4 at*;refine ixT eT2 (v:=V.ref C2) rfl ?_;refine⟨bA eC2,?_⟩;refine vt eC2 ?_;exact⟨_,_,rfl,s2.trans (s4.own hC2)⟩
 . rintro σ H2 ⟨v7,v8,rfl,s2⟩;subst hV;have s12:=s1.trans s2;exact zM (s0.trans s12) (X.same s12) (s12 _ _ eL) (s12 _ _ eC) q
variable{ns:List Int}
theorem zO{H0:Hp}{p:Addr}(s0:Same H0 H)(hS:SqL K H a (ns.map V.int))(hn:ns.length<=63)(hk:∀ k,k≠.Rule->c.ok k=true)(ok:d.ok .Puzzle=true)(ep:IsFl H p h w g)(F:FlOk h w g)(q:∀ H',Same H0 H'->Q (.bl true) H'):
  cC K c d {nx:=λ_ H'=>Q .non H',rt:=Q} [some (.ref a),some (.ref p),none,none,none,none,none,none,none] H:=by
 obtain⟨h0,h1,w0,w1,m16,g0,g1⟩:=id F;have mpos:0<=h*w:=Qt (by omega) (by omega);unfold cC;generalize hV:fV K c d=V2 at*;symm;refine⟨a,p,ns,41,h,w,g,rfl,hS,hn,by decide,by decide,ep,F,λf H2 xs s2 hf ef hl hx=>?_⟩;subst hV;unfold fV;generalize hV:fU K c d=V3 at*;symm;refine⟨a,ns,60,rfl,s2.seq hS,hn,by decide,by decide,?_⟩;symm;have c0:=Pj (lawAt ns 60) (show(3:Int)≠0 by decide);have c1:=Pa (lawAt ns 60) (show(0:Int)<3 by decide);refine⟨by decide,_,rfl,by omega,by omega,?_⟩;refine wQ (h:=h) (w:=w) (g:=g) F (by omega) hk ?_ ?_
 . intro i H3 Q3 hi s3 k3;show tCall _ _ _ _ [none,some (.int (0+(i:Int))),some (.ref f),some (.ref p),some (.ref a)] H3 Q3;symm;refine⟨a,ns,_,rfl,(s2.trans s3).seq hS,hn,by omega,by omega,?_⟩;symm;exact⟨p,f,h,w,g,_,xs,rfl,⟨s3 _ _ (s2 _ _ ep),F,s3 _ _ ef,hl,λx hm=>by have:=hx x hm;omega⟩,k3⟩
 . intro Ll rows H3 hLl s3 eLl OC R;have s13:=s2.trans s3;have hx6:∀ x∈xs,0<=x/\x<=g:=λx hm=>by have:=hx x hm;omega
   subst hV;unfold fU;generalize hV:fS K c d=V4 at*;symm;have ef3:=s3 _ _ ef;refine⟨f,rfl,⟨_,Pc ef3⟩,?_⟩;refine uk (xs:=xs.map V.int) (λ_=>true) (λi=>.int (xs.getD i 0*(lawAt ns (41+(i:Int))/7%2))) (by rw[OF];omega) (by decide) (Pc ef3) ?_ ?_ ?_
   . intro i x H1 R hi s1 k1;exact k1 _ (OL _)
   . intro i x H4 Q4 hi hb s4 k4;obtain⟨z,hz,rfl⟩:=cp hi;have q1:=k4 _ (OL H4);rw[jU hz]at q1;have hlt:=(OK.mp hz).1;have hzb:=hx6 z (ON hz);show tOp cMul _ _ [none,some (.int (i:Int)),some (.int z),some (.ref a)] H4 Q4;symm;refine⟨a,ns,_,rfl,(s13.trans s4).seq hS,hn,by omega,by omega,?_⟩;symm;exact⟨⟨by decide,by decide⟩,by decide,.inl ⟨by omega,by omega⟩,q1⟩
   . intro Cl H4 hCl s4 eCl
     have e2:((List.range (xs.map V.int).length).filter λ_=>true).map (λi=>V.int (xs.getD i 0*(lawAt ns (41+(i:Int))/7%2)))=((List.range xs.length).map λi=>xs.getD i 0*(lawAt ns (41+(i:Int))/7%2)).map V.int:=by
      rw[aU,OF,O4];rfl
     rw[e2]at eCl;have s14:=s13.trans s4
     have C:CluesOk h w g ((List.range xs.length).map λi=>xs.getD i 0*(lawAt ns (41+(i:Int))/7%2)):=⟨by rw[OF,PY];exact hl,λy hy=>by
      obtain⟨i,hi,rfl⟩:=OP.mp hy;have hlt:=O5.mp hi;have hb:=hx6 _ (Pt hlt);have eg:xs.getD i 0=xs[i]:=by rw[List.getD,OG hlt];rfl
      rw[eg];have h2:lawAt ns (41+(i:Int))/7%2=0\/lawAt ns (41+(i:Int))/7%2=1:=by omega
      rcases h2 with e | e <;> rw[e] <;> omega⟩
     generalize ((List.range xs.length).map λi=>xs.getD i 0*(lawAt ns (41+(i:Int))/7%2))=cl at*;subst hV;unfold fS;generalize hV:cB K c d=V5 at*;symm;refine qS ok (s14 _ _ ep) (s4 _ _ eLl) eCl R C λP L G H5 s5 _ _ _ pz=>?_;subst hV;exact zN ((s0.trans s14).trans s5) pz ((s4.trans s5) _ _ eLl) (s5 _ _ eCl) q
theorem rh(h:bL K c d vs H Q E):dU K c d {nx:=λ_ H'=>Q .non H',rt:=Q} (start ["_law_script","_law_floor","_law_filling_here","_law_lines","_law_clues","_law_puzzle","_law_due","_law_turn","_law_found"] vs) H:=by
 obtain⟨a,ns,rfl,hS,hn,hk,ok,q⟩:=h;show dU K c d _ [some (.ref a),none,none,none,none,none,none,none,none] H;unfold dU;generalize hV:cC K c d=V1 at*;rw[az,dH,jz,fX];refine y8 gf69 H _ λas H1 s1 hl ha=>?_;have hl6:as.length=6:=hl;refine⟨by rw[OF];exact bd (by omega),λU hU=>?_⟩;obtain⟨H2,z9,s2,eU⟩:=aX (.lst (as.map V.ref)) hU;rw[z9];have s12:=s1.trans s2;symm;refine⟨a,ns,40,rfl,s12.seq hS,hn,by decide,by decide,?_⟩;symm;refine⟨by decide,?_⟩;generalize lawAt ns 40=y at*;have j0:=Pj y (show(6:Int)≠0 by decide);have j1:=Pa y (show(0:Int)<6 by decide);have ej:y%6=(((y%6).toNat:Nat):Int):=by omega
 have hj:(y%6).toNat<gf69.length:=by show _<6;omega
 rw[ej];generalize (y%6).toNat=j at*;have ea:as[j]? =some (as[j]'(by omega)):=OG (by omega);have ep:gf69[j]? =some gf69[j]:=OG hj;have et:=ha j _ _ ea ep;have ok2:=EY _ (Pt hj);generalize gf69[j]=pr at*;refine ixL eU (v:=V.ref (as[j]'(by omega))) (dr (by rw[OH,ea];rfl)) ?_;subst hV;exact zO s12 (s12.seq hS) hn hk ok (s2 _ _ et) ⟨ok2.1,ok2.2.1,ok2.2.2.1,ok2.2.2.2.1,ok2.2.2.2.2.1,ok2.2.2.2.2.2.1,ok2.2.2.2.2.2.2⟩ q
abbrev sd(_:EA):List Addr:=[]
def CH(K:Frag)(c:RCl RK)(d:RCl PzK):Sp:=λvs H Q _=>∃(a:Addr) (ns:List Int),vs=[.ref a]/\SqL K H a (ns.map V.int)/\ns.length<=63/\(∀ k,k≠.Rule->c.ok k=true)/\d.ok .Puzzle=true/\∀ H',Q (.bl true) H'
def wd(K:Frag):Sp:=λvs H Q _=>∃(a:Addr) (ns:List Int),vs=[.ref a]/\SqL K H a (ns.map V.int)/\ns.length<=63/\∀ H',Q (.bl true) H'
def mn(K:Frag)(c:RCl RK)(d:RCl PzK):TS:=
 by exists ":l/esbAjE~o~pbij5c4esbesb,~Xbija7c|ce'M|bd]"
def qj(K:Frag)(c:RCl RK)(d:RCl PzK):TS:=
 by exists ":gH~ZbI~*en|ddf#2 }pbij"
def qk(K:Frag)(c:RCl RK)(d:RCl PzK):TS:=
 by exists ":gHFbI~ien|ddf#1 adtu=c}qbij"
def ql(K:Frag)(c:RCl RK)(d:RCl PzK):TS:=
 by exists ":gomeXb|d|cldVGp}rbij"
def mq(K:Frag)(c:RCl RK)(d:RCl PzK):TS:=
 by exists ":gk,~Xbija5ch#13 }sbij"
def mr(K:Frag)(c:RCl RK)(d:RCl PzK):TS:=
 by exists ":gkq'HbaD&---- zb9~mb#3 Ph#1 Ph#2 Ph#3 ~nB3ch#12 }tbij"
def mw(K:Frag)(c:RCl RK)(d:RCl PzK):TS:=
 by exists ":goW~jmesb|avcme'M|bd]~jmeXb|avcWMCq~ga|bad~h'fcmeXb|ben|adf#0 ldVGp}ubij"
def qm(K:Frag)(c:RCl RK)(d:RCl PzK):TS:=
 by exists ":gk,'Ibija5a7ch#11 }vbij"
def qo(K:Frag)(c:RCl RK)(d:RCl PzK):TS:=
 by exists ":gkYZD&----8 zb9~mb#3 Ph#1 Ph#2 Ph#3 ~nmesb34wa1a2c+*df#1 h#10 }wbij"
def mB(K:Frag)(c:RCl RK)(d:RCl PzK):TS:=
 by exists ":gk,}xbija5ch#9 }ybij"
def rj(K:Frag)(c:RCl RK)(d:RCl PzK):TS:=
 by exists ":goWmeXb,~wbija5c,~Gbija5cmeXb,~wbija7c8ldVGp}zbij"
def rl(K:Frag)(c:RCl RK)(d:RCl PzK):TS:=
 by exists ":gk,~Gbija7ch#8 }Abij"
def oI(K:Frag)(c:RCl RK)(d:RCl PzK):TS:=
 by exists ":gk,}Bbija0a5ch#7 }Cbij"
def rm(K:Frag)(c:RCl RK)(d:RCl PzK):TS:=
 by exists ":gome>en1df#2 df#4 gkR~t~u~vbij=Sawadf#1 adf#1 adf#1 cavcavadf#0 cch#6 l/,~+bija5a5adf#0 c/,~+bija5a6adf#1 c,~+bija6a5adf#1 cp}Dbij"
def rp(K:Frag)(c:RCl RK)(d:RCl PzK):TS:=
 by exists ":goMC,}Ebija0cldVGp}Fbij"
def oJ(K:Frag)(c:RCl RK)(d:RCl PzK):TS:=
 by exists ":gkR~t~u~vbij=Sa1a3a4ch#5 }Gbij"
def rq(K:Frag)(c:RCl RK)(d:RCl PzK):TS:=
 by exists ":g^#4 &---0 'Jba2c~mb#2 Ph#1 Ph#2 ~nBeQ2exeU,Oba3aerdf#20 1cdf#7 df#2 }Hbij"
def rA(K:Frag)(c:RCl RK)(d:RCl PzK):TS:=
 by exists ":g^#3 &--210 Taex,Oba0adf#3 cdf#3 ch#1 B,'Kba3a2a,Oba4aerdf#4 1cc}Ibij"
def rB(K:Frag)(c:RCl RK)(d:RCl PzK):TS:=
 by exists ":gk,'Lba0a1adf#10 ch#2 }Jbij"
def y9(K:Frag)(c:RCl RK)(d:RCl PzK):TS:=
 by exists ":gk,}Kba0ch#1 }Lbij"
theorem D7(X:IsPz H c d P L G h w g rows cl):Pd.Ok ⟨h,w,g,rows,cl⟩:=⟨X.R.F,X.R.ok,X.C.len,X.C.ok⟩
variable{q:Pd}
theorem EZ(O:p.Ok)(P:q.Ok){f k:Frm}(a:Lst (fmsP p) f)(b:Lst (fmsP q) k):decide (k=f)=(alk p q).isSome:=by
 have gp:0<=p.g:=by have:=O.F.g0;omega
 have gq:0<=q.g:=by have:=P.F.g0;omega
 rw[Pw,Pp,EQ gp];constructor
 . intro e;exact Pd.orb_one O P ((r8 gp).mp a.1) (e ▸ (r8 gq).mp b.1)
 . intro o;exact Lst.uniq b a λt=>by rw[r8 gq,r8 gp];exact(Pd.orb_eq O P o).symm
variable{m:Int × List Int}
theorem IsM1.dv{t:Addr}(x:IsM1 H l t m):DV K H (.ref t) (.tuple [.int m.1,dLI m.2]):=by
 obtain⟨s,_,a,b⟩:=x;exact .tup (SqT.of a) (.cons (.int _) (.cons (.lst (Pc b) (.ints _)) .nil))
theorem CI(m:Int × List Int):SeqAt.shaped (.tuple [.int m.1,dLI m.2])=true:=by
 simp[SeqAt.shaped,PyData.canLay0,PyData.canLayAll0,rP,PyData.depth,PyData.depthAll,oz]
theorem Gf(m:Int × List Int):PyData.eqv (.tuple [.int m.1,dLI m.2]) (.tuple [.int m.1,dLI m.2])=true:=by
 rw[PyData.eqv,PyData.eqvAll,PyData.eqvAll,PyData.eqvAll,ED,rQ];simp
theorem uY{i j k:Nat}{x y z:V}{σ:St}{q:St->Hp->Prop}(h:q (((σ.set i (some x)).set j (some y)).set k (some z)) H):gCons (gName i) (gCons (gName j) (gCons (gName k) gNil)) [x,y,z] σ H q:=⟨x,_,rfl,y,_,rfl,z,_,rfl,rfl,h⟩
def hitP(p:Pd)(t:Frm)(m:Int × List Int):Bool:=decide ((p.mv m.1 m.2).frm=t)
structure Due(H:Hp)(l:Addr)(us:List Addr)(ms:List (Int × List Int)):Prop where
 len:us.length=ms.length
 at_:∀(i:Nat) u m,us[i]? =some u->ms[i]? =some m->u≠l/\IsM1 H l u m
variable{us:List Addr}{ms:List (Int × List Int)}
theorem Due.same{H':Hp}(x:Due H l us ms)(s:Same H H'):Due H' l us ms:=⟨x.len,λi u m a b=>⟨(x.at_ i u m a b).1,(x.at_ i u m a b).2.same s⟩⟩
theorem Due.more{u:Addr}(x:Due H l us ms)(n:u≠l)(y:IsM1 H l u m):Due (upd H l o) l (us++[u]) (ms++[m]):=by
 have xl:=x.len
 have put:∀{u m},u≠l->IsM1 H l u m->IsM1 (upd H l o) l u m:=λ{u m} n y=>by
  obtain⟨a,na,e1,e2⟩:=y;exact⟨a,na,by rw[ah n];exact e1,by rw[ah na];exact e2⟩
 refine⟨by rw[OU,OU,xl];rfl,λi w k e1 e2=>?_⟩;rcases Qo i us.length with hi | hi
 . rw[O9 hi]at e1;rw[O9 (by omega)]at e2;obtain⟨n1,y1⟩:=x.at_ i w k e1 e2;exact⟨n1,put n1 y1⟩
 . rw[O8 hi]at e1;rw[O8 (by omega),← xl]at e2
   cases h:i-us.length with
   | zero=>
    rw[h]at e1 e2;cases e1;cases e2;exact⟨n,put n y⟩
   | succ k=>rw[h]at e1;simp at e1
theorem DJ {R T p C:Addr} {q:Frm} {P:Pd} (Y:IsFs H1 R ts ms P) (fm:IsFm H1 T p L C q) (ml:ms.length<=800)
  (hd:∀ l us H,H1 l=none->Same H1 H->H l=some (.lst (us.map V.ref))->Due H l us (ms.filter (hitP P q))->fin l H):
  CompR (Itl K R) (gTup K 3 (gCons (gName 1) (gCons (gName 2) (gCons (gName 3) gNil)))) (tTest (tOp (cEq K) (tVar 3) (tVar 4))) (tTup (tCons (tVar 1) (tCons (tVar 2) tNil))) fin [none,none,none,none,some (.ref T)] H1:=by
 have yl:=Y.len;refine gX (xs:=ts.map V.ref) (λl i σ H=>(∃ a b c,σ=[none,a,b,c,some (.ref T)])/\Same H1 H/\∃ us:List Addr,H l=some (.lst (us.map V.ref))/\Due H l us ((ms.take i).filter (hitP P q))) (λl hl=>⟨⟨_,_,_,rfl⟩,(OL H1).laid hl,[],by rw[ag];rfl,rfl,λi t f e=>by simp at e⟩) (λl i σ H _ _ z=>Pc (z.2.1 _ _ Y.top)) ?_ (λl σ H hl ⟨_,s1,us,el,x⟩=>hd l us H hl s1 el (by rw[OF,yl,Rn]at x;exact x));rintro l i y σ H hl hy ⟨⟨a,b,c,rfl⟩,s1,us,el,x⟩;obtain⟨t,ht,rfl⟩:=bq hy;have hi:=(OK.mp ht).1;have hm:ms[i]? =some (ms[i]'(by omega)):=OG (by omega);obtain⟨S,T2,p2,L2,C2,et,eS,fm2,_⟩:=(Y.at_ i t _ ht hm).ex;generalize hmm:ms[i]'(by omega)=m at*;have nS:S≠l:=λe=>by rw[e,hl]at eS;cases eS
 refine ur (s1 _ _ et) rfl (uY ?_);show tTest _ [none,some (.int m.1),some (.ref S),some (.ref T2),some (.ref T)] H _;symm;refine AU (fm2.same s1) (fm.same s1) ⟨_,rfl,?_⟩;have xl:=x.len;have fl:((ms.take i).filter (hitP P q)).length<=800:=O7 (Qe _ _) (O7 (RV _ _) (by omega));by_cases e:(P.mv m.1 m.2).frm=q
 . rw[O3 e];refine iteT ?_;symm;refine⟨lnR rfl,λu hu=>?_⟩;obtain⟨H2,z9,s2,eu⟩:=aX (.tup [.int m.1,.ref S]) hu;rw[z9];have nu:u≠l:=λe=>by rw[e,el]at hu;cases hu
   refine⟨_,s2 _ _ el,by rw[OF];exact aE (by omega),⟨_,_,_,rfl⟩,(s1.trans s2).own hl,us++[u],by rw[ag];simp,?_⟩;have z:=(x.same s2).more (o:=.lst (us.map V.ref++[V.ref u])) nu (m:=m) ⟨S,nS,eu,(s1.trans s2) _ _ eS⟩;rw[Ri,hm,Ps];have h1:([m]:List (Int × List Int)).filter (hitP P q)=[m]:=by rw[Pz,show hitP P q m=true from O3 e];rfl
   show Due _ _ _ (_++[m].filter (hitP P q));rw[h1];exact z
 . rw[OW e];refine iteF ⟨⟨_,_,_,rfl⟩,s1,us,el,?_⟩;rw[Ri,hm,Ps];have h1:([m]:List (Int × List Int)).filter (hitP P q)=[]:=by rw[Pz,show hitP P q m=false from OW e];rfl
   show Due _ _ _ (_++[m].filter (hitP P q));rw[h1,Rr];exact x
theorem CJ {R:Addr} {P:Pd} (Y:IsFs H1 R ts ms P) (ml:ms.length<=800)
  (hd:∀(l:Addr) (us:List Addr) (H:Hp),H1 l=none->Same H1 H->H l=some (.lst (us.map V.ref))->us.length=ms.length->(∀(i:Nat) u m,us[i]? =some u->ms[i]? =some m->∃ p L C,IsFm H1 u p L C (P.mv m.1 m.2).frm)->fin l H):
  CompR (Itl K R) (gTup K 3 (gCons (gName 1) (gCons (gName 2) (gCons (gName 3) gNil)))) tTrue (tVar 3) fin [none,none,none,none] H1:=by
 have yl:=Y.len;refine gX (xs:=ts.map V.ref) (λl i σ H=>(∃ a b c,σ=[none,a,b,c])/\Same H1 H/\∃ us:List Addr,H l=some (.lst (us.map V.ref))/\us.length=i/\∀(j:Nat) u m,us[j]? =some u->ms[j]? =some m->∃ p L C,IsFm H1 u p L C (P.mv m.1 m.2).frm) (λl hl=>⟨⟨_,_,_,rfl⟩,(OL H1).laid hl,[],by rw[ag];rfl,rfl,λi t f e=>by simp at e⟩) (λl i σ H _ _ z=>Pc (z.2.1 _ _ Y.top)) ?_ (λl σ H hl ⟨_,s1,us,el,ul,x⟩=>hd l us H hl s1 el (by rw[ul,OF,yl]) x);rintro l i y σ H hl hy ⟨⟨a,b,c,rfl⟩,s1,us,el,ul,x⟩;obtain⟨t,ht,rfl⟩:=bq hy;have hi:=(OK.mp ht).1;have hm:ms[i]? =some (ms[i]'(by omega)):=OG (by omega);obtain⟨S,T2,p2,L2,C2,et,eS,fm2,_⟩:=(Y.at_ i t _ ht hm).ex;generalize hmm:ms[i]'(by omega)=m at*;refine ur (s1 _ _ et) rfl (uY ?_);rw[cI,O6 rfl];show tVar 3 [none,some (.int m.1),some (.ref S),some (.ref T2)] H _;symm;refine⟨_,el,by rw[OF];exact aE (by omega),⟨_,_,_,rfl⟩,s1.own hl,us++[T2],by rw[ag];simp,by rw[OU,ul];rfl,λj u k e1 e2=>?_⟩;rcases Qo j us.length with hj | hj
 . rw[O9 hj]at e1;exact x j u k e1 e2
 . rw[O8 hj]at e1
   cases h:j-us.length with
   | zero=>
    rw[h]at e1;cases e1;have:j=i:=by omega
    rw[this,hm]at e2;cases e2;exact⟨p2,L2,C2,fm2⟩
   | succ k=>rw[h]at e1;simp at e1
theorem E3(h:f∈fmsP p):f.2.1.length=p.rows.length:=by
 unfold fmsP at h;obtain⟨m,_,rfl⟩:=OP.mp h;show(srS ((p.rows.map (mvR p.h p.w m.1 m.2)).map fT)).length=_;rw[(ik _).length_eq,OF,OF]
structure B69(H:Hp)(c:RCl RK)(d:RCl PzK)(P L G P' L' G' Cl:Addr)(p q:Pd):Prop where
 X:IsPz H c d P L G p.h p.w p.g p.rows p.cl
 Y:IsPz H c d P' L' G' q.h q.w q.g q.rows q.cl
 g4:p.g<=4
 g5:q.g<=4
 C:H Cl=some (.lst (p.cl.map V.int))
variable{P' L' G':Addr}
theorem B69.same{H':Hp}(B:B69 H c d P L G P' L' G' Cl p q)(s:Same H H'):B69 H' c d P L G P' L' G' Cl p q:=⟨B.X.same s,B.Y.same s,B.g4,B.g5,s _ _ B.C⟩
variable{fd:V}{v3:Option V}
theorem A1{T pT LT CT:Addr}{v8 v9 v10 v13:Option V}(B:B69 H c d P L G P' L' G' Cl p q)(fm:IsFm H T pT LT CT f)(le:Lst (fmsP p) f)(hf:(!decide (fd=.non))=(alk p q).isSome)(k:∀ H',Q (.bl true) H'):
  mn K c d {nx:=λ_ H'=>Q .non H',rt:=Q} [v0,v1,v2,v3,some (.ref Cl),some (.ref P),v6,some (.ref P'),v8,v9,v10,some fd,some (.ref T),v13] H:=by
 obtain⟨dx,p0,rs,h1,h2,h3⟩:=B.X.ex;unfold mn;symm;refine methE (k:=.Puzzle) rfl B.X.ok h1 (by rfl) ?_;symm;refine⟨P,L,G,p.h,p.w,p.g,p.rows,p.cl,rfl,B.X,λl hl=>?_⟩;obtain⟨H1,z9,s1,e1⟩:=aX (.lst (p.cl.map V.int)) hl;rw[z9];symm;refine wU e1 (s1 _ _ B.C) ?_;refine⟨_,rfl,iteT ?_⟩;refine⟨P',L',G',q.h,q.w,q.g,q.rows,q.cl,rfl,B.Y.same s1,λg5=>absurd g5 (by have:=B.g5;omega),λ_ T3 p3 L3 C3 f3 H3 s3 _ _ _ _ fm3 le3=>?_⟩;symm;refine AU fm3 (fm.same (s1.trans s3)) ?_;rw[gL,hf,EZ (D7 B.X) (D7 B.Y) le le3];rw[O3 rfl];exact k _
theorem A2{T pT LT CT:Addr}{v8 v9 v10:Option V}(B:B69 H c d P L G P' L' G' Cl p q)(fm:IsFm H T pT LT CT f)(le:Lst (fmsP p) f)(hf:(!decide (fd=.non))=(alk p q).isSome)(k:∀ H',Q (.bl true) H'):
  mq K c d {nx:=λ_ H'=>Q .non H',rt:=Q} [v0,v1,v2,v3,some (.ref Cl),some (.ref P),v6,some (.ref P'),v8,v9,v10,some fd,some (.ref T),none] H:=by
 unfold mq;generalize hV:ql K c d=V16 at*;symm;refine⟨P,L,G,p.h,p.w,p.g,p.rows,p.cl,rfl,B.X,λg5=>absurd g5 (by have:=B.g4;omega),λ_ T2 p2 L2 C2 f2 H1 s1 hT2 hL2 hC2 ne fm2 le2=>?_⟩;obtain rfl:f2=f:=Lst.uniq le2 le λ_=>Iff.rfl;have fl:=E3 le.1;have rn:=B.X.R.n;subst hV;unfold ql;generalize hV:qk K c d=V17 at*;rw[az,aN];symm;refine xL fm2 (fm.same s1) ?_;rw[O3 rfl];refine⟨_,rfl,iteF ?_⟩;subst hV;unfold qk;generalize hV:qj K c d=V18 at*;symm;refine ixT fm2.T (v:=V.ref L2) rfl ?_;refine⟨bA fm2.L,?_⟩;rw[kT fm2.L];refine⟨by rw[OF,OF,fl];exact aE (by omega),?_⟩;have nT:T2≠L2:=λe=>by have:=fm2.L;rw[← e,fm2.T]at this;cases this
 have s2:Same H (upd H1 L2 (.lst ((f2.2.1.map tx).map V.str++[V.str (tx [])]))):=s1.own hL2;have eT:(upd H1 L2 (.lst ((f2.2.1.map tx).map V.str++[V.str (tx [])]))) T2=some (.tup [.ref p2,.ref L2,.ref C2]):=by rw[ah nT];exact fm2.T
 have eC:(upd H1 L2 (.lst ((f2.2.1.map tx).map V.str++[V.str (tx [])]))) C2=some (.lst (f2.2.2.map V.int)):=by rw[ah (Rk ne)];exact fm2.C
 generalize upd H1 L2 (.lst ((f2.2.1.map tx).map V.str++[V.str (tx [])]))=H2 at*;subst hV;unfold qj;generalize hV:mn K c d=V19 at*;symm;refine ixT eT (v:=V.ref C2) rfl ?_;refine⟨bA eC,?_⟩;refine vt eC ?_;have s3:Same H (upd H2 C2 (.lst [])):=s2.own hC2;generalize upd H2 C2 (.lst [])=H3 at*;subst hV;exact A1 (B.same s3) (fm.same s3) le hf k
theorem uZ{R:Addr}{v8 v10:Option V}(B:B69 H c d P L G P' L' G' Cl p q)(Y:IsFs H R ts (mvs p.g p.rows) p)(hf:(!decide (fd=.non))=(alk p q).isSome)(k:∀ H',Q (.bl true) H'):
  mr K c d {nx:=λ_ H'=>Q .non H',rt:=Q} [v0,v1,v2,v3,some (.ref Cl),some (.ref P),v6,some (.ref P'),v8,some (.ref R),v10,some fd,none,none] H:=by
 have g1:=B.X.R.F.g0;unfold mr;generalize hV:mq K c d=V15 at*;symm;refine⟨⟨_,Pc Y.top⟩,?_⟩;refine CJ Y (wc g1 B.g4) λl us H1 hl s1 el ul at1=>?_;symm;refine CF (fs:=fmsP p) el (by rw[ul];unfold fmsP;rw[OF]) (λi t f e1 e2=>?_) (by unfold fmsP;rw[OF];exact Aq (by omega)) λi T f e1 e2 le=>?_
 . unfold fmsP at e2;rw[OH]at e2;obtain⟨m,em,rfl⟩:=P9.mp e2;obtain⟨p2,L2,C2,fm⟩:=at1 i t m e1 em;exact⟨p2,L2,C2,fm.same s1⟩
 . unfold fmsP at e2;rw[OH]at e2;obtain⟨m,em,rfl⟩:=P9.mp e2;obtain⟨p2,L2,C2,fm⟩:=at1 i T m e1 em;subst hV;exact A2 (B.same s1) (fm.same s1) le hf k
theorem qp{E:Addr}{ds:List PyData}(hl:DV K H (.ref l) (.list ds))(sh:SeqAt.shaped (.list ds)=true)(e:H E=some (.lst [])):(∀{Q:VK},Q (.bl ds.isEmpty) H->cEq K (.ref l) (.ref E) H Q)/\∀{Q:VK},Q (.bl (!ds.isEmpty)) H->cNe K (.ref l) (.ref E) H Q:=by
 have dE:DV K H (.ref E) (.list []):=.lst (Pc e) .nil
 have ev:PyData.eqv (.list ds) (.list [])=ds.isEmpty:=by
  cases ds with
  | nil=>rw[PyData.eqv,PyData.eqvAll];rfl
  | cons a r=>rw[PyData.eqv,PyData.eqvAll] <;> simp
 constructor
 . intro Q h;show rEqD K (.ref l) (.ref E) H Q;exact⟨_,_,hl,dE,sh,by decide,by rw[ev];exact h⟩
 . intro Q h;show rNeD K (.ref l) (.ref E) H Q;exact⟨_,_,hl,dE,sh,by decide,by rw[ev];exact h⟩
theorem u6 {R D1:Addr} {v8:Option V} (B:B69 H c d P L G P' L' G' Cl p q) (Y:IsFs H R ts (mvs p.g p.rows) p)
  (dz:(alk p q=none/\H D1=some (.lst [])/\fd=.non)\/∃ m u t l l',alk p q=some m/\H D1=some (.lst [.ref u])/\IsM1 H l u m/\fd=.ref t/\IsM1 H l' t m) (k:∀ H',Q (.bl true) H'):
  mw K c d {nx:=λ_ H'=>Q .non H',rt:=Q} [v0,v1,v2,v3,some (.ref Cl),some (.ref P),v6,some (.ref P'),v8,some (.ref R),some (.ref D1),some fd,none,none] H:=by
 unfold mw;generalize hV:mr K c d=V14 at*;rw[az,aN];symm;refine⟨bd (by decide),λE1 hE1=>?_⟩;obtain⟨H1,z9,s1,e1⟩:=aX (.lst []) hE1;rw[z9];obtain⟨ea,eD,rfl⟩ | ⟨m,u,t,l,l',ea,eD,mu,rfl,mt⟩:=dz
 . have eD1:=s1 _ _ eD;refine(qp (ds:=[]) (.lst (Pc eD1) .nil) (by decide) e1).1 ?_;refine⟨_,rfl,iteT ?_⟩;rw[O3 rfl];refine iteF ⟨bd (by decide),λE2 hE2=>?_⟩;obtain⟨H2,z9,s2,e2⟩:=aX (.lst []) hE2;rw[z9];refine(qp (ds:=[]) (.lst (Pc (s2 _ _ eD1)) .nil) (by decide) e2).2 ?_;refine⟨_,rfl,iteF ?_⟩;subst hV;exact uZ (B.same (s1.trans s2)) (Y.same (s1.trans s2)) (by rw[ea];decide) k
 . have eD1:=s1 _ _ eD
   have sh:SeqAt.shaped (.list [.tuple [.int m.1,dLI m.2]])=true:=by
    simp[SeqAt.shaped,PyData.canLay0,PyData.canLayAll0,rP,PyData.depth,PyData.depthAll,oz]
   refine(qp (.lst (Pc eD1) (.cons (mu.same s1).dv .nil)) sh e1).1 ?_;refine⟨_,rfl,iteF ⟨bd (by decide),λE2 hE2=>?_⟩⟩;obtain⟨H2,z9,s2,e2⟩:=aX (.lst []) hE2;rw[z9];have s12:=s1.trans s2;refine(qp (.lst (Pc (s2 _ _ eD1)) (.cons (mu.same s12).dv .nil)) sh e2).2 ?_;refine⟨_,rfl,iteT ?_⟩;obtain⟨S,_,et,eS⟩:=mt.same s12;refine BR et ⟨_,rfl,iteF ?_⟩;refine ixL (s2 _ _ eD1) (v:=V.ref u) (dr (j:=0) rfl) ?_;refine Dm (mt.same s12).dv (mu.same s12).dv (CI m) (Gf m) ?_;refine⟨_,rfl,iteF ?_⟩;subst hV;exact uZ (B.same s12) (Y.same s12) (by rw[ea,OW (λe=>by cases e)];rfl) k
theorem A3{Tg pg Lg Cg:Addr}(B:B69 H c d P L G P' L' G' Cl p q)(fg:IsFm H Tg pg Lg Cg q.frm)(k:∀ H',Q (.bl true) H'):
  mB K c d {nx:=λ_ H'=>Q .non H',rt:=Q} [v0,v1,v2,v3,some (.ref Cl),some (.ref P),v6,some (.ref P'),some (.ref Tg),none,none,none,none,none] H:=by
 have g1:=B.X.R.F.g0;have ml:=wc (rows:=p.rows) g1 B.g4;unfold mB;generalize hV:qo K c d=V11 at*;symm;refine⟨P,L,G,p.h,p.w,p.g,p.rows,p.cl,rfl,B.X,B.g4,λR ts H1 s1 hR Y=>?_⟩;subst hV;unfold qo;generalize hV:qm K c d=V12 at*;symm;refine⟨⟨_,Pc Y.top⟩,?_⟩;refine DJ Y (fg.same s1) ml λl us H2 hl s2 el du=>?_;symm;refine ly el λD1 hD1=>?_;have ec:cutV (us.map V.ref) none (some ((1:Nat):Int))=(us.take 1).map V.ref:=by rw[yG,Q5]
 have ec':cutV (us.map V.ref) none (some 1)=(us.take 1).map V.ref:=ec;rw[ec'];obtain⟨H3,z9,s3,e3⟩:=aX (.lst ((us.take 1).map V.ref)) hD1;rw[z9];have s13:=(s1.trans s2).trans s3;have B3:=B.same s13;have Y3:IsFs H3 R ts (mvs p.g p.rows) p:=Y.same (s2.trans s3);have du3:=du.same s3;have ul:=du.len;have ak:alk p q=((mvs p.g p.rows).filter (hitP p q.frm)).head? :=by rw[List.head?_filter];rfl
 subst hV;unfold qm;generalize hV:mw K c d=V13 at*;symm;refine⟨P,L,G,P',L',G',p.h,p.w,p.g,q.h,q.w,q.g,p.rows,q.rows,p.cl,q.cl,rfl,B3.X,B3.Y,λbad=>absurd bad (by have:=B.g4;have:=B.g5;omega),λ_ _=>⟨λan H4 s4=>?_,λm an l2 t H4 s4 mt=>?_⟩⟩
 . subst hV;have an:alk p q=none:=an;refine u6 (B3.same s4) (Y3.same s4) (.inl ⟨an,?_,rfl⟩) k;rw[ak,List.head?_eq_none_iff]at an;rw[an]at ul;have:us=[]:=Ss.mp ul;rw[this]at e3;exact s4 _ _ e3
 . subst hV;have an:alk p q=some m:=an;have an2:=an;rw[ak,List.head?_eq_some_iff]at an2;obtain⟨r,er⟩:=an2;rw[er]at ul du3
   cases us with
   | nil=>simp at ul
   | cons u us=>
    exact u6 (B3.same s4) (Y3.same s4) (.inr ⟨m,u,t,l,l2,an,s4 _ _ e3,((du3.at_ 0 u m rfl rfl).2).same s4,rfl,mt⟩) k
theorem CK(hS:SqL K H a (ns.map V.int))(hn:ns.length<=63)(X:IsPz H c d P L G p.h p.w p.g p.rows p.cl)(g4:p.g<=4)(eC:H Cl=some (.lst (p.cl.map V.int)))(k:∀ H',Q (.bl true) H'):
  oI K c d {nx:=λ_ H'=>Q .non H',rt:=Q} [some (.ref a),v1,v2,v3,some (.ref Cl),some (.ref P),none,none,none,none,none,none,none,none] H:=by
 unfold oI;generalize hV:rl K c d=V8 at*;symm;refine⟨a,P,L,G,ns,p.h,p.w,p.g,p.rows,p.cl,rfl,hS,hn,X,g4,λP' L' G' h' w' g' rows' cl' H1 s1 X' g5=>?_⟩;have B1:B69 H1 c d P L G P' L' G' Cl p ⟨h',w',g',rows',cl'⟩:=⟨X.same s1,X',g4,g5,s1 _ _ eC⟩;subst hV;unfold rl;generalize hV:rj K c d=V9 at*;symm;refine⟨P',L',G',h',w',g',rows',cl',rfl,X',λTg pg Lg Cg H2 s2 _ _ _ _ fg=>?_⟩;have B2:=B1.same s2;subst hV;unfold rj;generalize hV:mB K c d=V10 at*
 try dsimp only
 rw[az,aN];symm;refine⟨P,L,G,p.h,p.w,p.g,p.rows,p.cl,rfl,B2.X,λT1 p1 L1 C1 H3 s3 _ _ _ _ f1=>?_⟩;refine⟨P,L,G,p.h,p.w,p.g,p.rows,p.cl,rfl,(B2.same s3).X,λT2 p2 L2 C2 H4 s4 _ _ _ _ f2=>?_⟩;symm;refine xL (f1.same s4) f2 ?_;rw[O3 rfl];refine⟨_,rfl,iteF ?_⟩;have B4:=B2.same (s3.trans s4);refine⟨P',L',G',h',w',g',rows',cl',rfl,B4.Y,λT5 p5 L5 C5 H5 s5 _ _ _ _ f5=>?_⟩;symm;refine xL f5 (fg.same ((s3.trans s4).trans s5)) ?_;rw[O3 rfl];refine⟨_,rfl,iteF ?_⟩;subst hV;exact A3 (B4.same s5) (fg.same ((s3.trans s4).trans s5)) k
theorem CL{f Ll:Addr}(hS:SqL K H a (ns.map V.int))(hn:ns.length<=63)(hk:∀ k,k≠.Rule->c.ok k=true)(ok:d.ok .Puzzle=true)(hf:IsFl H f h w g)(R:c6 c h w g rows)(C:CluesOk h w g cl)(eL:H Ll=some (.lst ((rows.map RR.txt).map V.str)))(eC:H Cl=some (.lst (cl.map V.int)))(k:∀ H',Q (.bl true) H'):
  oJ K c d {nx:=λ_ H'=>Q .non H',rt:=Q} [some (.ref a),some (.ref f),v2,some (.ref Ll),some (.ref Cl),none,none,none,none,none,none,none,none,none] H:=by
 unfold oJ;generalize hV:rp K c d=V5 at*;symm;refine qS ok hf eL eC R C λP L G H1 s1 _ _ _ X=>?_;subst hV;unfold rp;generalize hV:rm K c d=V6 at*;rw[az,aN];symm;refine⟨a,ns,rfl,s1.seq hS,hn,hk,ok,λH2 s2=>?_⟩;refine⟨_,rfl,iteF ?_⟩;have s12:=s1.trans s2;have X2:=X.same s2;have hf2:=s12 _ _ hf;subst hV;unfold rm;generalize hV:oI K c d=V7 at*;rw[az,aN];symm;refine ixT hf2 (v:=V.int g) rfl ?_;symm;by_cases c1:4<g
 . rw[O3 c1];refine iteT ?_;refine⟨lnR rfl,λsf hsf=>⟨bd (by decide),λsl hsl=>⟨lnR rfl,λsc hsc=>?_⟩⟩⟩;have s3:Same H2 (upd H2 sf (.tup [.int 1,.int 1,.int 1])):=(OL H2).laid hsf;have e3:IsFl (upd H2 sf (.tup [.int 1,.int 1,.int 1])) sf 1 1 1:=ag;generalize upd H2 sf (.tup [.int 1,.int 1,.int 1])=H3 at*;have s4:Same H3 (upd H3 sl (.lst [])):=(OL H3).laid hsl;have e4:(upd H3 sl (.lst [])) sl=some (.lst ((([]:List RR).map RR.txt).map V.str)):=ag;generalize upd H3 sl (.lst [])=H4 at*;have s5:Same H4 (upd H4 sc (.lst [V.int 0])):=(OL H4).laid hsc;have e5:(upd H4 sc (.lst [V.int 0])) sc=some (.lst (([0]:List Int).map V.int)):=ag;generalize upd H4 sc (.lst [V.int 0])=H5 at*;have s35:=(s3.trans s4).trans s5;refine qS ok ((s4.trans s5) _ _ e3) (s5 _ _ e4) e5 (rows:=[]) ⟨⟨by decide,by decide,by decide,by decide,by decide,by decide,by decide⟩,Py _,λr hr=>(nomatch hr),λr hr=>(nomatch hr)⟩ ⟨rfl,by decide⟩ λP' L' G' H6 s6 _ _ _ X'=>?_;have X6:=X2.same (s35.trans s6);symm;refine⟨P,L,G,P,L,G,h,w,g,h,w,g,rows,rows,cl,cl,0,rfl,X6,X6,.inl ⟨rfl,c1⟩,λH7 s7=>?_⟩;refine⟨_,rfl,iteT ?_⟩;refine⟨P,L,G,P',L',G',h,w,g,1,1,1,rows,[],cl,[0],1,rfl,X6.same s7,X'.same s7,.inr ⟨by decide,.inl c1⟩,λH8 s8=>?_⟩;refine⟨_,rfl,iteT ?_⟩;exact⟨P',L',G',P,L,G,1,1,1,h,w,g,[],rows,[0],cl,1,rfl,X'.same (s7.trans s8),X6.same (s7.trans s8),.inr ⟨by decide,.inr c1⟩,λH9 s9=>k H9⟩
 . rw[OW c1];refine iteF ?_;subst hV;exact CK (p:=⟨h,w,g,rows,cl⟩) (s12.seq hS) hn X2 (by show g<=4;omega) (s12 _ _ eC) k
theorem Gg(h:CH K c d vs H Q E):y9 K c d {nx:=λ_ H'=>Q .non H',rt:=Q} (start ["_law_script","_law_floor","_law_filling_here","_law_lines","_law_clues","_law_one","_law_small","_law_other_here","_law_goal","_law_forms_here","_law_due","_law_found","_law_least_one","_law_told"] vs) H:=by
 obtain⟨a,ns,rfl,hS,hn,hk,ok,k⟩:=h;show y9 K c d _ [some (.ref a),none,none,none,none,none,none,none,none,none,none,none,none,none] H;unfold y9;generalize hV:rB K c d=V1 at*;symm;refine⟨a,ns,rfl,hS,hn,λp h w g H1 s1 hp ep F m9 g5=>?_⟩;obtain⟨h0,h1,w0,w1,m16,g0,g1⟩:=id F;have mpos:0<=h*w:=Qt (by omega) (by omega);subst hV;unfold rB;generalize hV:rA K c d=V2 at*;symm;refine⟨a,p,ns,10,h,w,g,rfl,s1.seq hS,hn,by decide,by decide,ep,F,λf H2 xs s2 hf ef hl hx=>?_⟩;have s12:=s1.trans s2;subst hV;unfold rA;generalize hV:rq K c d=V3 at*;symm;refine⟨a,ns,3,rfl,s12.seq hS,hn,by decide,by decide,?_⟩;symm;have c0:=Pj (lawAt ns 3) (show(3:Int)≠0 by decide);have c1:=Pa (lawAt ns 3) (show(0:Int)<3 by decide);refine⟨by decide,_,rfl,by omega,by omega,?_⟩;refine wQ (h:=h) (w:=w) (g:=g) F (by omega) hk ?_ ?_
 . intro i H3 Q3 hi s3 k3;show tCall _ _ _ _ [none,some (.int (0+(i:Int))),some (.ref f),some (.ref p),some (.ref a)] H3 Q3;symm;refine⟨a,ns,_,rfl,(s12.trans s3).seq hS,hn,by omega,by omega,?_⟩;symm;exact⟨p,f,h,w,g,_,xs,rfl,⟨s3 _ _ (s2 _ _ ep),F,s3 _ _ ef,hl,λx hm=>by have:=hx x hm;omega⟩,k3⟩
 . intro Ll rows H3 hLl s3 eLl OC R;have s13:=s12.trans s3;have hx6:∀ x∈xs,0<=x/\x<=g:=λx hm=>by have:=hx x hm;omega
   subst hV;unfold rq;generalize hV:oJ K c d=V4 at*;symm;have ef3:=s3 _ _ ef;refine⟨f,rfl,⟨_,Pc ef3⟩,?_⟩;refine uk (xs:=xs.map V.int) (λ_=>true) (λi=>.int (xs.getD i 0*(lawAt ns (20+(i:Int))/7%2))) (by rw[OF];omega) (by decide) (Pc ef3) ?_ ?_ ?_
   . intro i x H1 R hi s1 k1;exact k1 _ (OL _)
   . intro i x H4 Q4 hi hb s4 k4;obtain⟨z,hz,rfl⟩:=cp hi;have q1:=k4 _ (OL H4);rw[jU hz]at q1;have hlt:=(OK.mp hz).1;have hzb:=hx6 z (ON hz);show tOp cMul _ _ [none,some (.int (i:Int)),some (.int z),some (.ref a)] H4 Q4;symm;refine⟨a,ns,_,rfl,(s13.trans s4).seq hS,hn,by omega,by omega,?_⟩;symm;exact⟨⟨by decide,by decide⟩,by decide,.inl ⟨by omega,by omega⟩,q1⟩
   . intro Cl H4 hCl s4 eCl
     have e2:((List.range (xs.map V.int).length).filter λ_=>true).map (λi=>V.int (xs.getD i 0*(lawAt ns (20+(i:Int))/7%2)))=((List.range xs.length).map λi=>xs.getD i 0*(lawAt ns (20+(i:Int))/7%2)).map V.int:=by
      rw[aU,OF,O4];rfl
     rw[e2]at eCl;have s14:=s13.trans s4;subst hV;refine CL (s14.seq hS) hn hk ok (((s2.trans s3).trans s4) _ _ ep) R ⟨by rw[OF,PY];exact hl,λy hy=>?_⟩ (s4 _ _ eLl) eCl k;obtain⟨i,hi,rfl⟩:=OP.mp hy;have hlt:=O5.mp hi;have hb:=hx6 _ (Pt hlt);have eg:xs.getD i 0=xs[i]:=by rw[List.getD,OG hlt];rfl
     rw[eg];have h2:lawAt ns (20+(i:Int))/7%2=0\/lawAt ns (20+(i:Int))/7%2=1:=by omega
     rcases h2 with e | e <;> rw[e] <;> omega
section
variable{M:Model}{A:Around}{E:Value->Shared->Prop}{s:Shared}
theorem CM {base:Heap} {env:Env} {outer:List Env} {L x:Addr} {c a0 fl:Value} {Q:Unit->Shared->Prop} (hA:A.frames=some (env::outer)) (hf:env.frame=some L)
  (g1:base.StaysIn s.heap) (g2:base.get? x=none) (g3:s.heap.FunFrames base (env::outer)) (g4:s.heap.TracedAtW base x c a0 fl)
  (k:∀ h',Heap.FlyingW base outer x c a0 h'->s.heap.UpToSlots h'->Q () {s with heap:=h'}):wpAny M A (leaving env (.ref x)) Q E s:=by
 by_cases q:(fl==rawInt L)=true
 . have q':fl=rawInt L:=eq_of_beq q;subst q';unfold leaving;refine OO (wpAny_noteFrame_againW hf g4 (wpAny_landsW (L:=L) ⟨g1,g2,g3,g4⟩ λh' F up=>?_));exact k h' ⟨F.1,F.2.1,F.2.2.1.2.2,F.2.2.2⟩ up
 . obtain⟨ox,us,T,oT,ws,e1,⟨e2,e3⟩,e4,e5,e6,e7,e8,e9,e10⟩:=g4;subst e2;have sz3:3<ws.size:=(Rj.mp e10).1;have oth:∀ b,b≠T->(s.heap.update T (Obj.mapFields (·.setIfInBounds 3 Value.none))).get? b=s.heap.get? b:=λb hb=>PH _ _ λz=>hb z.symm
   have nT:∀ b o,s.heap.get? b=some o->(∀ vs,o.data≠.fields vs)->b≠T:=λb o hb d z=>by
    subst z;rw[e8]at hb;cases hb;exact d ws e9
   unfold leaving noteFrame;simp only[hf];refine OO (OO (S5 e1 e4 e5 ?_));rw[O6 (by simp)];refine OO (S5 e8 e9 e10 ?_);rw[O0 q];refine OO (wpAny_setField e8 e9 sz3 ?_);refine wpAny_newEntryW hA (g3.of_keeps λb o hb d=>⟨o,(oth b (nT b o hb d)).trans hb,rfl⟩) hf ((oth x λz=>e7 z.symm).trans e1) (λb o hb=>(oth b λz=>?_).trans (g1 b o hb)) g2 e4 (Rj.mp e5).1 e3 λh' W=>?_
   . rw[z,e6]at hb;cases hb
   . obtain⟨w1,w2,w3,w4⟩:=W;exact k h' ⟨w1,g2,w2.2.2,w3⟩ λb o hb d=>w4 b o ((oth b (nT b o hb d)).trans hb) d
end
variable{env:Env}
theorem E4 {P:Program} {w:World} {outer:List Env} {H₀ H':Hp} {s₀ s':Shared} {x T' C L:Addr} {h':Heap} {fx ex:List Addr}
  (hos:s'.os=s₀.os) (hbare:AllBare s'.gens) (hL:env.frame=some L) (nL:s₀.heap.get? L=none)
  (U:Un (frs (env::outer)) fx H₀ H' s₀.heap s'.heap) (hfx:∀ b∈fx,s₀.heap.get? b=none) (frH:∀ b∈frs (env::outer),H' b=none) (ok:HOk P w H' s'.heap)
  (exn:∀ b∈ex,s₀.heap.get? b=none/\H' b=none)
  (keepAll:∀ b o,s'.heap.get? b=some o->b∉frs (env::outer)->b∉ex->h'.get? b=some o)
  (slots:∀ b o,s'.heap.get? b=some o->b∈frs (env::outer)->∃ sl,h'.get? b=some {o with slots:=sl})
  (nx:s₀.heap.get? x=none) (fx':H' x=none) (nT:s₀.heap.get? T'=none) (fT:H' T'=none) (tr:Tr h' x T' C .none):Fly P w outer H₀ s₀ x T' C H' {s' with heap:=h'}:=by
 have sub:∀ b,b∈frs outer->b∈frs (env::outer):=λb hb=>by
  unfold frs at hb ⊢;rw[Pu,hL];exact OT _ hb
 have isL:∀ b,b∈frs (env::outer)->b=L\/b∈frs outer:=λb hb=>by
  unfold frs at hb ⊢;rw[Pu,hL]at hb;exact OM.mp hb
 have nfx:∀ b o,s₀.heap.get? b=some o->b∉fx:=λb o e z=>by rw[hfx b z]at e;cases e
 have nex:∀ b o,s₀.heap.get? b=some o->b∉ex:=λb o e z=>by rw[(exn b z).1]at e;cases e
 have there:∀ b o,s₀.heap.get? b=some o->∃ o',h'.get? b=some o':=λb o e=>by
  obtain⟨o1,e1⟩:=U.there b o e (nfx b o e);by_cases hb:b∈frs (env::outer)
  . obtain⟨sl,e2⟩:=slots b o1 e1 hb;exact⟨_,e2⟩
  . exact⟨o1,keepAll b o1 e1 hb (nex b o e)⟩
 refine⟨hos,hbare,⟨λb o e n hb _=>?_,λb o e n hb _=>?_,λb o e n _=>U.free b o e n (nfx b o e),λb o e _=>there b o e,U.tups,U.frzs,U.tbls⟩,?_,fx',fT,nx,nT,tr⟩
 . have nb:b∉frs (env::outer):=λz=>by
    rcases isL b z with z | z
    . rw[z,nL]at e;cases e
    . exact hb z
   exact keepAll b o (U.keep b o e n nb (nfx b o e)) nb (nex b o e)
 . obtain⟨sl,e1⟩:=U.slot b o e n (sub b hb) (nfx b o e);obtain⟨sl2,e2⟩:=slots b _ e1 (sub b hb);exact⟨sl2,e2⟩
 . intro a o e;refine(ok a o e).stay (λb u hb q=>?_) (λ_ q=>q) λ_ _ q=>q
   have hb':H' b≠none:=by
    rcases hb with rfl | hb
    . rw[e];simp
    . rw[hb];simp
   exact keepAll b u q (λz=>hb' (frH b z)) λz=>hb' (exn b z).2
theorem CN{h h1 base:Heap}{as:List Addr}:∀{l:List Env},h.FunFrames base l->(∀ b∈frs l,b∈as/\∀ o,h.get? b=some o->b∈frs l->∃ sl,h1.get? b=some {o with slots:=sl}/\∀ vs,o.data≠.fields vs)->h1.FunFrames (PySem.W.hideAll h as) l:=by
 intro l
 induction l with
 | nil=>intro _ _;trivial
 | cons env r ih=>
  rintro⟨hk,⟨L,o,hf,_,ho,hd⟩,hr⟩ hin;have hL:L∈frs (env::r):=by unfold frs;rw[Pu,hf];exact OV
  have hsub:∀ b∈frs r,b∈frs (env::r):=λb hb=>by unfold frs at hb ⊢;rw[Pu,hf];exact OT _ hb
  obtain⟨sl,e1,d1⟩:=(hin L hL).2 o ho hL;exact⟨hk,⟨L,_,hf,PQ as (hin L hL).1,e1,d1⟩,ih hr λb hb=>⟨(hin b (hsub b hb)).1,λo e _=>(hin b (hsub b hb)).2 o e (hsub b hb)⟩⟩
theorem CO{scope:Scope}{cl:List (Str × Addr)}{C:Addr}:(ue scope cl C env).frame=env.frame:=rfl
theorem A4{e:Value}{env':Env}(h:env'.frame=env.frame):noteFrame e env'=noteFrame e env:=by
 unfold noteFrame PySem.frameOf;rw[h]
section
variable{P:Program}{w:World}{K:Frag}{mg:Str->Option Value}{base:Heap}{N:List Str}{qual:Str}{scope:Scope}{f:Addr}{cd:Value}{A:Around}{outer:List Env}{s₀:Shared}{H₀:Hp}{E:XK}
theorem Gh{E':XK}{Nb:List Str}{sc:Scope}{cl:List (Str × Addr)}{s2:Shared}{H2:Hp}{fp:List Addr}(himp:∀ c d H,E' c d H->E c d H):
  j3 (CX1 P w) (blkCx (cx1 P w K mg base N qual scope f cd A outer s₀ H₀ E) Nb sc cl s2 H2 fp) E':=by
 rintro Ox σ H s e s' I ⟨x,T,C,H',rfl,F,q⟩ ⟨pins2,σ2,I2,f2⟩;have fra:(A.deeper (envOfC qual scope s₀.heap.objs.size f cd)).frames=some (envOfC qual scope s₀.heap.objs.size f cd::outer):=I2.ok.frames;have hfr:(envOfC qual scope s₀.heap.objs.size f cd).frame=some s₀.heap.objs.size:=rfl;obtain⟨m,⟨ob,es,ep,lo,ld,lr⟩,_⟩:=I.loc;have lfree:H (s2.heap.objs.size+1)=none:=I.free;have lo:s.heap.get? (s2.heap.objs.size+1)=some ob:=lo;have Ub:Un (frs (envOfC qual scope s₀.heap.objs.size f cd::outer)) fp H2 H s2.heap s.heap:=I.base;have fr2:∀ b∈frs (envOfC qual scope s₀.heap.objs.size f cd::outer),∃ o,s2.heap.get? b=some o/\∀ vs,o.data≠.fields vs:=λb hb=>(I2.stack.mem hb).2;have fr1:∀ b∈frs (envOfC qual scope s₀.heap.objs.size f cd::outer),∃ o,s.heap.get? b=some o/\∀ vs,o.data≠.fields vs:=λb hb=>(I.stack.mem hb).2;have stk:∀ b∈frs (envOfC qual scope s₀.heap.objs.size f cd::outer),H b=none:=I.stkFree;have ff:s'.heap.FunFrames base (envOfC qual scope s₀.heap.objs.size f cd::outer):=rR I.stack (λb hb=>⟨hb,stk b hb⟩) F.un;have sz2:s₀.heap.objs.size<=s2.heap.objs.size:=I2.sz
 have hfx:∀ b∈fp,s₀.heap.get? b=none:=λb hb=>by
  rcases(f2 b hb).2.2.2.1 with z | z
  . exact absurd (show b∈([]:List Addr) from z) (by simp)
  . exact Qp z
 have U0:Un (frs (envOfC qual scope s₀.heap.objs.size f cd::outer)) fp H₀ H s₀.heap s.heap:=
  (Un.mono (show Un (frs outer) [] H₀ H2 s₀.heap s2.heap from I2.base) (λb hb=>by unfold frs at hb ⊢;rw[Pu,hfr];exact OT _ hb) λb z=>absurd z (by simp)).trans Ub
 have U:Un (frs (envOfC qual scope s₀.heap.objs.size f cd::outer)) fp H₀ H' s₀.heap s'.heap:=U0.trans (F.un.mono (λ_ hb=>hb) λb z=>absurd z (by simp))
 have new0:∀ b,s.heap.get? b=none->s₀.heap.get? b=none:=λb hb=>by
  cases z:s₀.heap.get? b with
  | none=>rfl
  | some o=>
   obtain⟨o1,e1⟩:=U0.there b o z λy=>by rw[hfx b y]at z;cases z
   rw[hb]at e1;cases e1
 have frH:∀ b∈frs (envOfC qual scope s₀.heap.objs.size f cd::outer),H' b=none:=λb hb=>by
  obtain⟨o,e1,_⟩:=fr1 b hb;exact F.un.free b o e1 (stk b hb) (by simp)
 have lnf:(s2.heap.objs.size+1)∉frs (envOfC qual scope s₀.heap.objs.size f cd::outer):=λz=>by
  obtain⟨o,e1,_⟩:=fr2 _ z;exact absurd (OZ e1) (Nat.not_lt.mpr (Qz _))
 have lo':s'.heap.get? (s2.heap.objs.size+1)=some ob:=F.un.keep _ _ lo lfree lnf (by simp);have lnd:∀ vs,ob.data≠.fields vs:=λvs z=>by rw[ld]at z;cases z
 have exn:∀ b∈[x,T,s2.heap.objs.size+1],s₀.heap.get? b=none/\H' b=none:=λb hb=>by
  simp only[OM,Pn,Qg]at hb;rcases hb with rfl | rfl | rfl
  . exact⟨new0 _ F.nx,F.fx⟩
  . exact⟨new0 _ F.nT,F.fT⟩
  . exact⟨Qp (O7 sz2 (Qz _)),F.un.free _ _ lo lfree (by simp)⟩
 obtain⟨oe,vs,oT,ts,a0,he,hc,h0,hd,h1,hTx,hT,hdT,h3⟩:=F.tr
 have fl:Heap.FlyingW (PySem.W.hideAll s'.heap (frs (envOfC qual scope s₀.heap.objs.size f cd::outer)++[x,T,s2.heap.objs.size+1])) (envOfC qual scope s₀.heap.objs.size f cd::outer) x (.ref C) a0 s'.heap:=
  ⟨λb o e=>QT _ e,PQ _ (by simp),mW ff λb hb=>Qq _ hb,oe,vs,T,oT,ts,he,⟨hc,h0⟩,hd,h1,PQ _ (by simp),hTx,hT,hdT,h3⟩
 show wpAny (model P w) (A.deeper (envOfC qual scope s₀.heap.objs.size f cd)) (noteFrame (.ref x) (ue sc cl (s2.heap.objs.size+1) (envOfC qual scope s₀.heap.objs.size f cd))) _ _ s';rw[A4 CO];refine wpAny_looks_onW fra hfr fl λh4 held up4=>?_;obtain⟨sl4,l4⟩:=up4 _ _ lo' lnd;refine⟨m,⟨_,es,ep,l4,ld,lr⟩,λh' sb cenv _=>?_⟩;obtain⟨k1,k2,k3,oe',vs',T',oT',ts',b1,b2,b3,b4,b5,b6,b7,b8,b9⟩:=held
 have nLx:x≠s2.heap.objs.size+1:=λz=>by
  rw[z,l4]at b1;cases b1;exact lnd _ b3
 have nLT:T'≠s2.heap.objs.size+1:=λz=>by
  rw[z,l4]at b7;cases b7;exact lnd _ b8
 have c1:h'.get? x=some oe':=(sb.2 x nLx).trans b1;have c7:h'.get? T'=some oT':=(sb.2 T' nLT).trans b7;have sz3:3<ts'.size:=(Rj.mp b9).1;have oth:∀(v:Value) b,b≠T'->(h'.update T' (Obj.mapFields (·.setIfInBounds 3 v))).get? b=h'.get? b:=λv b hb=>PH _ _ λz=>hb z.symm
 have fin:∀ v:Value,(cx1 P w K mg base N qual scope f cd A outer s₀ H₀ E).xe (.ref x) {s' with heap:=h'.update T' (Obj.mapFields (·.setIfInBounds 3 v))}:=λv=>by
  have t7:(h'.update T' (Obj.mapFields (·.setIfInBounds 3 v))).get? T'=some (Obj.mapFields (·.setIfInBounds 3 v) oT'):=Q6 _ c7 (Obj.isFreed_of_fields (Obj.data_mapFields b8 _));have t1:(h'.update T' (Obj.mapFields (·.setIfInBounds 3 v))).get? x=some oe':=(oth v x λz=>b6 z.symm).trans c1;have hid:∀ b o,(PySem.W.hideAll s'.heap (frs (envOfC qual scope s₀.heap.objs.size f cd::outer)++[x,T,s2.heap.objs.size+1])).get? b=some o->b≠T'/\b≠s2.heap.objs.size+1:=λb o e=>⟨(λz=>by rw[z,b5]at e;cases e),(λz=>by rw[z,PQ _ (by simp)]at e;cases e)⟩
  have slot5:∀ b o,s'.heap.get? b=some o->b∈frs (envOfC qual scope s₀.heap.objs.size f cd::outer)->∃ sl,(h'.update T' (Obj.mapFields (·.setIfInBounds 3 v))).get? b=some {o with slots:=sl}/\∀ vs,o.data≠.fields vs:=λb o e hb=>by
   obtain⟨o1,e1,d1⟩:=fr1 b hb;obtain⟨sl1,e2⟩:=F.un.slot b o1 e1 (stk b hb) hb (by simp);rw[e]at e2;cases e2;obtain⟨sl,e4⟩:=up4 b _ e d1;refine⟨sl,?_,d1⟩;rw[oth v b λz=>by rw[z,b7]at e4;cases e4;exact d1 _ b8,sb.2 b λz=>lnf (z ▸ hb)];exact e4
  show wpAny (model P w) (A.deeper (envOfC qual scope s₀.heap.objs.size f cd)) (leaving (envOfC qual scope s₀.heap.objs.size f cd) (.ref x)) _ _ _;refine CM (base:=PySem.W.hideAll s'.heap (frs (envOfC qual scope s₀.heap.objs.size f cd::outer)++[x,T,s2.heap.objs.size+1])) (c:=.ref C) (a0:=a0) (fl:=v) fra hfr (λb o e=>?_) k2 (CN ff λb hb=>⟨Qq _ hb,slot5 b⟩) ⟨oe',vs',T',_,_,t1,b2,b3,b4,b5,b6,t7,Obj.data_mapFields b8 _,by simp[sz3]⟩ λh6 fl6 up6=>?_
  . rw[oth v b (hid b o e).1,sb.2 b (hid b o e).2];exact k1 b o e
  . obtain⟨g1,g2,g3,oe6,vs6,T6,oT6,ts6,d1,d2,d3,d4,d5,d6,d7,d8,d9⟩:=fl6
    have slot6:∀ b o,s'.heap.get? b=some o->b∈frs (envOfC qual scope s₀.heap.objs.size f cd::outer)->∃ sl,h6.get? b=some {o with slots:=sl}:=λb o e hb=>by
     obtain⟨sl,e5,d5⟩:=slot5 b o e hb;obtain⟨sl6,e6⟩:=up6 b _ e5 d5;exact⟨sl6,e6⟩
    have T6s:∀ o,s'.heap.get? T6=some o->T6∈[x,T,s2.heap.objs.size+1]:=λo e=>by
     by_cases z:T6∈frs (envOfC qual scope s₀.heap.objs.size f cd::outer)++[x,T,s2.heap.objs.size+1]
     . rcases OY.mp z with z | z
       . obtain⟨sl,e5,d5⟩:=slot5 T6 o e z;obtain⟨sl6,e6⟩:=slot6 T6 o e z;rw[d7]at e6;cases e6;exact absurd d8 (d5 _)
       . exact z
     . rw[Qb _ e z]at d5;cases d5
    refine⟨x,T6,C,H',rfl,E4 (s':=s') (env:=envOfC qual scope s₀.heap.objs.size f cd) (fx:=fp) (ex:=[x,T,s2.heap.objs.size+1]) (F.os.trans (I.os.trans I2.os)) F.bare hfr (Qp (OQ _)) U hfx frH F.hok exn
     (λb o e hb hx=>g1 b o (Qb _ e λz=>(OY.mp z).elim hb hx)) slot6 (new0 _ F.nx) F.fx ?_ ?_ ⟨oe6,vs6,oT6,ts6,a0,d1,d2.1,d2.2,d3,d4,d6,d7,d8,d9⟩,himp _ _ _ q⟩
    . cases z:s'.heap.get? T6 with
      | some o=>exact(exn _ (T6s o z)).1
      | none=>
       cases y:s₀.heap.get? T6 with
       | none=>rfl
       | some o=>
        obtain⟨o1,e1⟩:=U.there T6 o y λu=>by rw[hfx _ u]at y;cases y
        rw[z]at e1;cases e1
    . cases z:H' T6 with
      | none=>rfl
      | some o=>
       obtain⟨u,e1⟩:=(F.hok T6 o z).ob;rw[(exn _ (T6s u e1)).2]at z;cases z
 unfold PySem.passOn;refine OO (S5 (s:={s' with heap:=h'}) c1 b3 b4 ?_);rw[O0 (by simp)];refine OO ?_;unfold setFlight;refine OO (S5 (s:={s' with heap:=h'}) c1 b3 b4 ?_);rw[O6 (by simp)];exact wpAny_setField (s:={s' with heap:=h'}) c7 b8 sz3 (wpAny_throw (fin _))
end
section
variable{P:Program}{w:World}{K:Frag}{mg:Str->Option Value}{base:Heap}{k:Nat}{x qual y:Str}{st:Stmt}{f:Addr}{fd:FuncData}{sp:Sp}
theorem xM{a0:Str}(T:FnOk P w K mg base (CX1 P w) k f fd [a0] sp)(F:Fun K x qual st f fd)(hm:mg y=some (.ref f))(h:∀(kV doc pm:Value) (an:Option Addr) (Oy ct u0:Value),bindArgs (fnOf x qual (be st) (aV st) (ai st) .none kV doc pm an Oy ct) ⟨[u0],[]⟩=pure (([a0]:List Str).zip [u0]):=by intros;rfl):bf P w K mg base k y [a0] sp:=⟨f,fd,T,hm,F.kp,gb F h⟩
theorem se{a0 a1:Str}(T:FnOk P w K mg base (CX1 P w) k f fd [a0,a1] sp)(F:Fun K x qual st f fd)(hm:mg y=some (.ref f))(h:∀(kV doc pm:Value) (an:Option Addr) (Oy ct u0 u1:Value),bindArgs (fnOf x qual (be st) (aV st) (ai st) .none kV doc pm an Oy ct) ⟨[u0,u1],[]⟩=pure (([a0,a1]:List Str).zip [u0,u1]):=by intros;rfl):bf P w K mg base k y [a0,a1] sp:=⟨f,fd,T,hm,F.kp,DX F h⟩
end
variable{P:Program}{w:World}{K:Frag}{mg:Str->Option Value}{base:Heap}
structure ErrMx(mg:Str->Option Value)(a:EA):Prop where
 ClueError:mg "ClueError"=some (.ref a.ClueError)
 NoFloor:mg "NoFloor"=some (.ref a.NoFloor)
 NoRule:mg "NoRule"=some (.ref a.NoRule)
 NoPuzzle:mg "NoPuzzle"=some (.ref a.NoPuzzle)
 TooMany:mg "TooMany"=some (.ref a.TooMany)
 NoMove:mg "NoMove"=some (.ref a.NoMove)
def top(i:Nat):Stmt:=PySem.Challenge.pw_cluemaker_k69_whole_alike.main.body.getD i (.Pass ⟨0,0,0,0⟩)
def mtop(i j:Nat):Stmt:=match top i with
 | .ClassDef _ _ _ body _ _ _ _ _ _ _=>body.getD j (.Pass ⟨0,0,0,0⟩)
 | s=>s
section
variable{X:Cx}{a b e:Expr}{ta tb te:TE}{pos pos' p:Pos}{x:Str}{es:List Expr}{t:TA}{ps:List Str}{sp:Sp}{k n:Nat}
theorem kcal(C:Cal X.prog X.w X.K X.mg X.base k x ps sp)(hr:Room n X.A)(ha:PA X (e::es) t)(hk:k<=n:=by decide)(hg:Gl X x:=by exact rfl)(hdb:(x==("__debug__":Str))=false:=by decide)(he:starEach (e::es) X.env=(false,eval e X.env)::starEach es X.env:=by rfl)(hpl:(backTo pos (starEach es X.env)).any (·.1)=false:=by rfl):PE X (.Call (.Name x p) (e::es) [] pos) (tCall sp [] E0 t):=Fv C hr hk hg ha hdb he hpl
theorem kix(hu:X.A.units+64<cLine)(ha:PE X a ta)(hb:PE X b tb)(hs:zZ b:=by exact λ_ _=>rfl):PE X (.Subscript a b pos) (tOp cIx ta tb):=xK (Ft hu) ha hb hs
theorem kset(i:Nat)(hN:X.N.Nodup)(he:PE X e te)(hi:X.N[i]? =some x:=by exact rfl)(hx:Loc X.env.scope x:=by exact Or.inl rfl)(hs:swapsWith e (some (.Name x pos')) pos.line X.env=pure false:=by rfl)(hf:X.fn x=true\/X.env.scope.names.lookup x=some .local:=by first | exact .inl rfl | exact .inr rfl | assumption):PS X (.Assign [.Name x pos'] e pos) (tAsg te (gName i)):=cY hN hi hx he hs hf
end
local macro_rules | `(tactic| walk_at "l")=>`(tactic| (intro vs H Q E h; (repeat obtain ⟨_,h⟩:=h); subst_vars; rfl))
variable{f:Addr}{fd:FuncData}
theorem okk{x qual:Str}{st:Stmt}{f:Addr}{fd:FuncData}{N ps:List Str}{k:Nat}{sp:Sp}{t:TS}(F:Fun K x qual st f fd)(S:am N ps (ai st))(rk:∀{vs H Q E},sp vs H Q E->t {nx:=λ_ H'=>Q .non H',rt:=Q} (start N vs) H)(hb:∀{Oy:Value} {A:Around} {outer:List Env} {s:Shared} {H:Hp} {E:XK},Room k (A.deeper (envOfC qual (ai st) s.heap.objs.size f Oy))->(A.deeper (envOfC qual (ai st) s.heap.objs.size f Oy)).units+64<cLine->N.Nodup->PSs (cxOf CX0 P w K mg base N qual (ai st) f Oy A outer s H E).nox (aV st) t)(len:∀{vs H Q E},sp vs H Q E->vs.length=ps.length:=by walk_at "l"):FnOk P w K mg base CX0 (k+1) f fd ps sp:=F.ok S (λ_ _ _ _ h=>len h) λOy A outer s H vs Q E hr h=>⟨t,hb hr hr.units S.nd,rk h⟩
local macro_rules | `(tactic| ac_rfl)=>`(tactic| exact ⟨rfl,rfl,rfl,by decide+kernel,rfl,by decide+kernel,by decide+kernel⟩)
abbrev qq:Stmt:=top 12
theorem GV:am ["value"] ["value"] (ai qq):=by ac_rfl
theorem zP(B:Bt2 mg)(F:Fun K "is_whole" "is_whole" qq f fd):FnOk P w K mg base CX0 1 f fd ["value"] (bx K):=okk F GV zD λhr hu nd=>(af (aj (gR (ay gU rfl B.isinstance_ bp (aa (pv 0) (aa (kN (v:=.ty "int") rfl B.int_ x9 rfl) ac))) (mO (xN (ay gU rfl B.isinstance_ bp (aa (pv 0) (aa (kN (v:=.ty "bool") rfl B.bool_ En rfl) ac))))))))
abbrev nU:Stmt:=top 15
theorem GW:am ["floor"] ["floor"] (ai nU):=by ac_rfl
theorem xu(B:Bt2 mg)(F:Fun K "many_cells" "many_cells" nU f fd):FnOk P w K mg base CX0 1 f fd ["floor"] (ba K):=okk F GW wZ λhr hu nd=>(af (aj (ao cP (kix hu (pv 0) ae) (kix hu (pv 0) ae))))
abbrev rC:Stmt:=top 16
theorem GX:am ["floor","cell","wide"] ["floor","cell"] (ai rC):=by ac_rfl
theorem A5(B:Bt2 mg)(F:Fun K "spot_of" "spot_of" rC f fd):FnOk P w K mg base CX0 1 f fd ["floor","cell"] (j9 K):=okk F GX AJ λhr hu nd=>(ad (kset 2 nd (kix hu (pv 0) ae))
   (af (aj (aO (aa (ao dt (pv 1) (pv 2)) (aa (ao aF (pv 1) (pv 2)) ac))))))
abbrev kE:Stmt:=mtop 18 0
theorem GY:am ["self","floor","words","cells","amount","mark"] ["self","floor","words","cells","amount","mark"] (ai kE):=by ac_rfl
theorem t0(B:Bt2 mg){c:RCl RK}(IU:FldK K c "amount")(Ji:FldK K c "cells")(Lh:FldK K c "floor")(JQ:FldK K c "mark")(Ix:FldK K c "words")(F:Fun K "__init__" "Rule.__init__" kE f fd):FnOk P w K mg base CX0 1 f fd ["self","floor","words","cells","amount","mark"] (aq K c):=okk F GY tF λhr hu nd=>(ad (jV (pv 0) (pv 1) Lh)
   (ad (jV (pv 0) (bb sP rfl B.tuple_ pU (aa (pv 2) ac)) Ix)
   (ad (jV (pv 0) (bb sP rfl B.tuple_ pU (aa (pv 3) ac)) Ji)
   (ad (jV (pv 0) (pv 4) IU)
   (af (jV (pv 0) (pv 5) JQ))))))
abbrev oW:Stmt:=mtop 18 1
theorem GZ:am ["self"] ["self"] (ai oW):=by ac_rfl
theorem za(B:Bt2 mg){c:RCl RK}(Ix:FldK K c "words")(F:Fun K "name" "Rule.name" oW f fd):FnOk P w K mg base CX0 1 f fd ["self"] (mY K c):=okk F GZ yt λhr hu nd=>(af (aj (kix hu (fM (pv 0) Ix) ae)))
abbrev nV:Stmt:=mtop 18 2
theorem G0:am ["self"] ["self"] (ai nV):=by ac_rfl
theorem xv(B:Bt2 mg){c:RCl RK}(Ji:FldK K c "cells")(F:Fun K "spots" "Rule.spots" nV f fd):FnOk P w K mg base CX0 1 f fd ["self"] (lO K c):=okk F G0 w5 λhr hu nd=>(af (aj (bb j5 rfl B.list_ gA (aa (fM (pv 0) Ji) ac))))
abbrev l0:Stmt:=mtop 18 3
theorem G1:am ["self"] ["self"] (ai l0):=by ac_rfl
theorem we(B:Bt2 mg){c:RCl RK}(IU:FldK K c "amount")(F:Fun K "number" "Rule.number" l0 f fd):FnOk P w K mg base CX0 1 f fd ["self"] (kY K c):=okk F G1 vy λhr hu nd=>(af (aj (fM (pv 0) IU)))
abbrev oX:Stmt:=mtop 18 4
theorem G3:am ["self"] ["self"] (ai oX):=by ac_rfl
theorem zc(B:Bt2 mg){c:RCl RK}(JQ:FldK K c "mark")(F:Fun K "sign" "Rule.sign" oX f fd):FnOk P w K mg base CX0 1 f fd ["self"] (m5 K c):=okk F G3 yu λhr hu nd=>(af (aj (fM (pv 0) JQ)))
abbrev oY:Stmt:=mtop 18 5
theorem G4:am ["self"] ["self"] (ai oY):=by ac_rfl
theorem zd(B:Bt2 mg){c:RCl RK}(Ix:FldK K c "words")(F:Fun K "line" "Rule.line" oY f fd):FnOk P w K mg base CX0 1 f fd ["self"] (m7 K c):=okk F G4 yw λhr hu nd=>(af (aj (cw Qa Q7 Q8 oE aH (aa (fM (pv 0) Ix) ac))))
abbrev lf:Stmt:=mtop 18 6
theorem G5:am ["self"] ["self"] (ai lf):=by ac_rfl
theorem u7(B:Bt2 mg){c:RCl RK}(F:Fun K "reckons" "Rule.reckons" lf f fd):FnOk P w K mg base CX0 1 f fd ["self"] (kf K c):=okk F G5 uw λhr hu nd=>(af (aj jq))
abbrev l5:Stmt:=mtop 20 0
theorem G6:am ["self"] ["self"] (ai l5):=by ac_rfl
theorem wf(B:Bt2 mg){c:RCl RK}(F:Fun K "reckons" "Sum.reckons" l5 f fd):FnOk P w K mg base CX0 1 f fd ["self"] (la K c):=okk F G6 vR λhr hu nd=>(af (aj jq))
abbrev jO:Stmt:=mtop 21 0
theorem sq5:am ["self"] ["self"] (ai jO):=by ac_rfl
theorem sF(B:Bt2 mg){c:RCl RK}(F:Fun K "reckons" "Rising.reckons" jO f fd):FnOk P w K mg base CX0 1 f fd ["self"] (iZ K c):=okk F sq5 sx λhr hu nd=>(af (aj jq))
abbrev lg:Stmt:=mtop 22 0
theorem G7:am ["self"] ["self"] (ai lg):=by ac_rfl
theorem u8(B:Bt2 mg){c:RCl RK}(F:Fun K "reckons" "Seen.reckons" lg f fd):FnOk P w K mg base CX0 1 f fd ["self"] (kB K c):=okk F G7 uK λhr hu nd=>(af (aj jq))
abbrev rD:Stmt:=top 34
theorem G8:am ["name","amount","mark","cells","words"] ["name","amount","mark","cells"] (ai rD):=by ac_rfl
theorem A6(B:Bt2 mg)(Iy:GTup K mg "OF_ALL_CELLS" cy)(IF:GTup K mg "WITH_NUMBER" cT)(IV:GTup K mg "WITH_SIGN" cZ)(F:Fun K "line_by" "line_by" rD f fd):FnOk P w K mg base CX0 1 f fd ["name","amount","mark","cells"] (gc K):=okk F G8 AS λhr hu nd=>(ad (kset 4 nd (aM (aa (pv 0) ac)))
   (ad (aA (qQ IF (pv 0) rfl) (af (bu (cw Pg P4 P5 fW (pv 4) (aa (bb cL rfl B.str_ gW (aa (pv 1) ac)) ac)))) au)
   (ad (aA (qQ IV (pv 0) rfl) (af (bu (cw Pg P4 P5 fW (pv 4) (aa (bb cL rfl B.str_ gW (aa (pv 2) ac)) ac)))) au)
   (ad (aA (Ae Iy (pv 0) rfl) (af (bu (cw Pg QK QL mj (pv 4) (aa (aY (ix:=[none,none]) [".0","cell"] (aG rfl (by decide+kernel) rfl rfl rfl) rfl (aI (pv 3)) (λcl s H fp=>(ax (i:=1) (show([".0","cell"]:List Str).Nodup by decide+kernel) rfl (Or.inl rfl))) (λcl s H fp=>aW) (λcl s H fp=>(bb cL rfl B.str_ gW (aa (pv 1) ac)))) ac)))) au)
   (af (aj (cw Qa Q7 Q8 oE aH (aa (pv 4) ac))))))))
abbrev oZ:Stmt:=top 35
theorem G9:am ["word"] ["word"] (ai oZ):=by ac_rfl
theorem ze(B:Bt2 mg){t_FIGURES:Tok}(L4:mg "FIGURES"=some (.str (tx [48,49,50,51,52,53,54,55,56,57]) t_FIGURES)){t_MOST_FIGURES:Tok}(Kb:mg "MOST_FIGURES"=some (.int 9 t_MOST_FIGURES))(F:Fun K "number_in" "number_in" oZ f fd):FnOk P w K mg base CX0 1 f fd ["word"] (gZ K):=okk F G9 yx λhr hu nd=>(ad (aA (Sj (jr (ap (aK hu) (pv 0) aH (av _)) (jr (ap gj (ay bh rfl B.len_ bG (aa (pv 0) ac)) (br rfl Kb ⟨t_MOST_FIGURES,rfl⟩) (av _)) (jZ (Sj (ph (ap (aK hu) (kix hu (pv 0) ae) aH (av _)) (mE (ap (gk hu) (pv 0) aH (av _))))))))) (af (aj lG)) au)
   (ad (aA (dC (bM (ay (qL rfl) rfl B.all_ yd (aa (aY (ix:=[none,none]) [".0","figure"] (aG rfl (by decide+kernel) rfl rfl rfl) rfl (FC (pv 0)) (λcl s H fp=>(ax (i:=1) (show([".0","figure"]:List Str).Nodup by decide+kernel) rfl (Or.inl rfl))) (λcl s H fp=>aW) (λcl s H fp=>(cu (qI hu) (pv 1) (br rfl L4 ⟨t_FIGURES,rfl⟩) (by with_unfolding_all rfl)))) ac)))) (af (aj lG)) au)
   (af (aj (bb uv rfl B.int_ x9 (aa (pv 0) ac))))))
abbrev lh:Stmt:=mtop 48 1
theorem Ha:am ["self"] ["self"] (ai lh):=by ac_rfl
theorem u9(B:Bt2 mg){c:RCl RK}{d:RCl PzK}(II:FldK K d "floor")(F:Fun K "place" "Puzzle.place" lh f fd):FnOk P w K mg base CX0 1 f fd ["self"] (km K c d):=okk F Ha uA λhr hu nd=>(af (aj (fM (pv 0) II)))
abbrev lj:Stmt:=mtop 48 3
theorem Hb:am ["self"] ["self"] (ai lj):=by ac_rfl
theorem va(B:Bt2 mg){c:RCl RK}{d:RCl PzK}(Jj:FldK K d "given")(F:Fun K "clues" "Puzzle.clues" lj f fd):FnOk P w K mg base CX0 1 f fd ["self"] (ko K c d):=okk F Hb uB λhr hu nd=>(af (aj (bb j5 rfl B.list_ gA (aa (fM (pv 0) Jj) ac))))
abbrev ll:Stmt:=mtop 48 4
theorem Hc:am ["self"] ["self"] (ai ll):=by ac_rfl
theorem vc(B:Bt2 mg){c:RCl RK}{d:RCl PzK}(IJ:FldK K d "laws")(F:Fun K "rules" "Puzzle.rules" ll f fd):FnOk P w K mg base CX0 1 f fd ["self"] (kr K c d):=okk F Hc uC λhr hu nd=>(af (aj (bb j5 rfl B.list_ gA (aa (fM (pv 0) IJ) ac))))
abbrev lm:Stmt:=top 53
theorem Hd:am ["floor"] ["floor"] (ai lm):=by ac_rfl
theorem vd(B:Bt2 mg)(F:Fun K "turned_floor" "turned_floor" lm f fd):FnOk P w K mg base CX0 1 f fd ["floor"] (bT K):=okk F Hd uI λhr hu nd=>(af (aj (aO (aa (kix hu (pv 0) ae) (aa (kix hu (pv 0) ae) (aa (kix hu (pv 0) ae) ac))))))
abbrev l6:Stmt:=top 54
theorem He:am ["floor","spot"] ["floor","spot"] (ai l6):=by ac_rfl
theorem wg(B:Bt2 mg)(F:Fun K "turned_spot" "turned_spot" l6 f fd):FnOk P w K mg base CX0 1 f fd ["floor","spot"] (fO K):=okk F He vI λhr hu nd=>(af (aj (aO (aa (kix hu (pv 1) ae) (aa (ao kQ (ao kQ (kix hu (pv 0) ae) ae) (kix hu (pv 1) ae)) ac)))))
abbrev kF:Stmt:=top 55
theorem Hf:am ["floor","spot"] ["floor","spot"] (ai kF):=by ac_rfl
theorem t4(B:Bt2 mg)(F:Fun K "mirrored_spot" "mirrored_spot" kF f fd):FnOk P w K mg base CX0 1 f fd ["floor","spot"] (db K):=okk F Hf tL λhr hu nd=>(af (aj (aO (aa (kix hu (pv 1) ae) (aa (ao kQ (ao kQ (kix hu (pv 0) ae) ae) (kix hu (pv 1) ae)) ac)))))
abbrev i3:Stmt:=top 59
theorem sq3:am ["floor"] ["floor"] (ai i3):=by ac_rfl
theorem rE(B:Bt2 mg)(F:Fun K "unchanged_signs" "unchanged_signs" i3 f fd):FnOk P w K mg base CX0 1 f fd ["floor"] (aP K):=okk F sq3 qU λhr hu nd=>(af (aj (lA rfl rfl rfl B.list_ B.range_ (aa ae (aa (ao aB (kix hu (pv 0) ae) ae) ac)))))
abbrev o4:Stmt:=top 62
theorem Hg:am ["sign","signs"] ["sign","signs"] (ai o4):=by ac_rfl
theorem zf(B:Bt2 mg)(F:Fun K "exchanged" "exchanged" o4 f fd):FnOk P w K mg base CX0 1 f fd ["sign","signs"] (dc K):=okk F Hg yF λhr hu nd=>(af (aj (xO (ap (aK hu) (pv 0) ae (av _)) ae (kix hu (pv 1) (ao kQ (pv 0) ae)))))
abbrev o5:Stmt:=top 68
theorem Hh:am ["fillings","signs","found","filling"] ["fillings","signs"] (ai o5):=by ac_rfl
theorem zg(B:Bt2 mg)(F:Fun K "with_each" "with_each" o5 f fd):FnOk P w K mg base CX0 1 f fd ["fillings","signs"] (ip K):=okk F Hh yS λhr hu nd=>(ad (kset 2 nd (aM ac))
   (ad (cq P1 rfl (aI (pv 0)) (ax (i:=3) nd rfl (Or.inr rfl))
   (af (bu (cw Pg QK QL mj (pv 2) (aa (aY (ix:=[none,none,some 3]) [".0","sign","filling"] (aG rfl (by decide+kernel) rfl rfl rfl) rfl (aI (pv 1)) (λcl s H fp=>(ax (i:=1) (show([".0","sign","filling"]:List Str).Nodup by decide+kernel) rfl (Or.inl rfl))) (λcl s H fp=>aW) (λcl s H fp=>(ao aB (pv 2) (aM (aa (pv 1) ac))))) ac)))))
   (af (aj (pv 2)))))
abbrev rF:Stmt:=top 82
theorem Hi:am ["_law_script","_law_k","_law_mixed"] ["_law_script","_law_k"] (ai rF):=by ac_rfl
theorem A7(B:Bt2 mg)(F:Fun K "_law_at" "_law_at" rF f fd):FnOk P w K mg base CX0 1 f fd ["_law_script","_law_k"] (aJ K):=okk F Hi AK λhr hu nd=>(ad (aA (ap x8 (pv 1) (ay j4 rfl B.len_ bG (aa (pv 0) ac)) (av _)) (af (aj (xK vn (pv 0) (pv 1) (λ_ _=>rfl)))) au)
   (ad (kset 2 nd (ao aB (ao cP ae (pv 1)) ae))
   (ad (aA (ap gj (ay j4 rfl B.len_ bG (aa (pv 0) ac)) ae (av _)) (af (kset 2 nd (ao aB (pv 2) (ao cP (ao aF (xK vn (pv 0) (ao aF (pv 1) (ay j4 rfl B.len_ bG (aa (pv 0) ac))) (λ_ _=>rfl)) ae) (ao aB (pv 1) ae))))) au)
   (af (aj (ao aB (ao aF (ao cP (pv 2) (pv 2)) ae) (ao aF (pv 2) ae)))))))
abbrev l7:Stmt:=top 83
theorem Hj:am ["_law_cell","_law_many","_law_number","_law_found","_law_k"] ["_law_cell","_law_many"] (ai l7):=by ac_rfl
theorem wj(B:Bt2 mg)(F:Fun K "_law_stream" "_law_stream" l7 f fd):FnOk P w K mg base CX0 1 f fd ["_law_cell","_law_many"] (fN K):=okk F Hj vE λhr hu nd=>(ad (kset 2 nd (ao aB (ao aF (pv 0) ae) ae))
   (ad (kset 3 nd (aM ac))
   (ad (cq P1 rfl (bF rfl B.range_ (aa (pv 1) ac)) (ax (i:=4) nd rfl (Or.inl rfl))
   (ad (kset 2 nd (ao aF (ao aB (ao aB (ao cP (pv 2) (pv 2)) (ao cP ae (pv 2))) (pv 4)) ae))
   (af (bu (cw Pg P4 P5 fW (pv 3) (aa (pv 2) ac))))))
   (af (aj (pv 3))))))
abbrev nX:Stmt:=top 84
theorem Hk:am ["_law_xs","_law_many","_law_left","_law_order_here","_law_k"] ["_law_xs","_law_many"] (ai nX):=by ac_rfl
theorem xw(B:Bt2 mg)(F:Fun K "_law_order" "_law_order" nX f fd):FnOk P w K mg base CX0 1 f fd ["_law_xs","_law_many"] (gu K):=okk F Hk xb λhr hu nd=>(ad (kset 2 nd (sM rfl rfl rfl B.list_ B.range_ (aa (pv 1) ac)))
   (ad (kset 3 nd (aM ac))
   (ad (cq P1 rfl (bF rfl B.range_ (aa (pv 1) ac)) (ax (i:=4) nd rfl (Or.inl rfl))
   (af (bu (cw Pg P4 P5 fW (pv 3) (aa (cw Pg SW SX wK (pv 2) (aa (ao aF (kix hu (pv 0) (pv 4)) (ay bh rfl B.len_ bG (aa (pv 2) ac))) ac)) ac)))))
   (af (aj (pv 3))))))
abbrev o6:Stmt:=top 85
theorem Hl:am ["_law_order_here","_law_filling_here","_law_rising","_law_kept_here","_law_sign","_law_some"] ["_law_order_here","_law_filling_here","_law_rising"] (ai o6):=by ac_rfl
theorem zh(B:Bt2 mg)(F:Fun K "_law_kept" "_law_kept" o6 f fd):FnOk P w K mg base CX0 1 f fd ["_law_order_here","_law_filling_here","_law_rising"] (hJ K):=okk F Hl yC λhr hu nd=>(ad (cY (i:=3) nd rfl (Or.inr rfl) (aM ac))
   (ad (cq P1 rfl (ww rfl B.range_ (aa ae (aa ae ac))) (ax (i:=4) nd rfl (Or.inr rfl))
   (ad (jR (k:=5) nd rfl (Or.inl rfl) rfl (ix:=[none,none,some 1,some 4]) [".0","_law_cell","_law_filling_here","_law_sign"] (aG rfl (by decide+kernel) rfl rfl rfl) rfl (aI (pv 0)) (λcl s H fp=>(ax (i:=1) (show([".0","_law_cell","_law_filling_here","_law_sign"]:List Str).Nodup by decide+kernel) rfl (Or.inl rfl))) (λcl s H fp=>(kP (ap (aK hu) (kix hu (pv 2) (pv 1)) (pv 3) (av _)))) (λcl s H fp=>(pv 1)))
   (af (cY (i:=3) nd rfl (Or.inr rfl) (ao aB (pv 3) (cD ju (pv 5) dn (dq ae)))))))
   (ad (aA (bM (pv 2)) (af (aj (pv 3))) au)
   (af (aj (aY (ix:=[none,none,some 3]) [".0","_law_cell","_law_kept_here"] (aG rfl (by decide+kernel) rfl rfl rfl) rfl (aI (pv 0)) (λcl s H fp=>(ax (i:=1) (show([".0","_law_cell","_law_kept_here"]:List Str).Nodup by decide+kernel) rfl (Or.inl rfl))) (λcl s H fp=>(kP (ap (qI hu) (pv 1) (pv 2) (by with_unfolding_all rfl)))) (λcl s H fp=>(pv 1))))))))
abbrev o7:Stmt:=top 86
theorem Hm:am ["_law_filling_here","_law_cells","_law_greatest","_law_many","_law_cell"] ["_law_filling_here","_law_cells"] (ai o7):=by ac_rfl
theorem zj(B:Bt2 mg)(F:Fun K "_law_seen" "_law_seen" o7 f fd):FnOk P w K mg base CX0 1 f fd ["_law_filling_here","_law_cells"] (h9 K):=okk F Hm yD λhr hu nd=>(ad (kset 2 nd ae)
   (ad (kset 3 nd ae)
   (ad (cq P1 rfl (aI (pv 1)) (ax (i:=4) nd rfl (Or.inl rfl))
   (af (aA (ap gj (kix hu (pv 0) (pv 4)) (pv 2) (av _)) (ad (kset 2 nd (kix hu (pv 0) (pv 4)))
   (af (kset 3 nd (ao aB (pv 3) ae)))) au)))
   (af (aj (pv 3))))))
abbrev kG:Stmt:=top 89
theorem sq8:am ["_law_cell","_law_many","_law_left","_law_found","_law_k"] ["_law_cell","_law_many"] (ai kG):=by ac_rfl
theorem t5(B:Bt2 mg)(F:Fun K "_law_exchange" "_law_exchange" kG f fd):FnOk P w K mg base CX0 1 f fd ["_law_cell","_law_many"] (de K):=okk F sq8 tO λhr hu nd=>(ad (kset 2 nd (lA rfl rfl rfl B.list_ B.range_ (aa ae (aa (ao aB (pv 1) ae) ac))))
   (ad (kset 3 nd (aM ac))
   (ad (cq P1 rfl (bF rfl B.range_ (aa (pv 1) ac)) (ax (i:=4) nd rfl (Or.inl rfl))
   (af (bu (cw Pg P4 P5 fW (pv 3) (aa (cw Pg SW SX wK (pv 2) (aa (ao aF (ao dt (pv 0) (ao aB (ao cP ae (pv 4)) ae)) (ay bh rfl B.len_ bG (aa (pv 2) ac))) ac)) ac)))))
   (af (aj (pv 3))))))
abbrev qr:Stmt:=top 91
theorem sq62:am ["_law_line_here","_law_turned","_law_words","_law_front","_law_cells"] ["_law_line_here","_law_turned"] (ai qr):=by ac_rfl
theorem zQ(B:Bt2 mg)(F:Fun K "_law_row" "_law_row" qr f fd):FnOk P w K mg base CX0 1 f fd ["_law_line_here","_law_turned"] (bV K):=by
 refine F.ok sq62 (λvs H Q E h=>xm h) (λOy A outer s H vs Q E hr h=>?_);have hu:=hr.units;have nd:=sq62.nd;refine⟨jx K,?_,xn h⟩;refine ad ?_ ?_
 . exact(kset 2 nd (cw Qa RA RB qK (pv 0) (aa aH ac)))
 . refine ad ?_ ?_
   . refine cY (i:=3) ?n ?a ?b ?e ?c ?d
     case n=>exact nd
     case a=>exact rfl
     case b=>exact(Or.inl rfl)
     case d=>first | exact .inl rfl | exact .inr rfl
     case c=>rfl
     case e=>
      refine C0 (PK (Rm _ 63) hu) ?o ?i ?f ?m
      case m=>exact⟨rfl,rfl,rfl,rfl⟩
      case i=>exact(kix hu (pv 2) ae)
      case f=>exact ae
      case o=>
       refine Em ?p ?r1 ?r2 ?r3 ?r4
       case r1=>exact rfl
       case r2=>exact rfl
       case r3=>exact List.cons_ne_nil _ _
       case r4=>exact SU rfl
       case p=>
        refine sZ aH ae ?_;refine sZ aH ae ?_;refine sZ aH ae ?_;exact El
   . refine ad ?_ ?_
     . exact(aA (ap (aK hu) (pv 3) ae (av _)) (af (aj (pv 0))) au)
     . refine ad ?_ ?_
       . exact(kset 4 nd (ay mT rfl B.sorted_ lH (aa (aY (ix:=[none,none]) [".0","_law_word"] (aG rfl (by decide+kernel) rfl rfl rfl) rfl (aI (cD ju (pv 2) (dq (pv 3)) dn)) (λcl s H fp=>(ax (i:=1) (show([".0","_law_word"]:List Str).Nodup by decide+kernel) rfl (Or.inl rfl))) (λcl s H fp=>aW) (λcl s H fp=>(bb uv rfl B.int_ x9 (aa (pv 1) ac)))) ac)))
       . refine ad ?_ ?_
         . exact(aA (bM (pv 1)) (af (kset 4 nd (AI rfl rfl rfl B.list_ B.reversed_ (pv 4)))) au)
         . refine af ?_
           . refine aj ?_
             . exact(cw Qa Q7 Q8 oE aH (aa (ao aB (cD ju (pv 2) dn (dq (pv 3))) (aY (ix:=[none,none]) [".0","_law_cell"] (aG rfl (by decide+kernel) rfl rfl rfl) rfl (aI (pv 4)) (λcl s H fp=>(ax (i:=1) (show([".0","_law_cell"]:List Str).Nodup by decide+kernel) rfl (Or.inl rfl))) (λcl s H fp=>aW) (λcl s H fp=>(bb cL rfl B.str_ gW (aa (pv 1) ac))))) ac))
abbrev jP:Stmt:=top 13
theorem sq6:am ["value","most"] ["value","most"] (ai jP):=by ac_rfl
theorem sG(B:Bt2 mg)(Ii:Cal P w K mg base 1 "is_whole" ["value"] (bx K))(F:Fun K "is_from_one_to" "is_from_one_to" jP f fd):FnOk P w K mg base CX0 2 f fd ["value","most"] (bv K):=okk F sq6 sk λhr hu nd=>(af (aj (gR (kcal Ii hr (aa (pv 0) ac)) (gR (cu ug ae (pv 0) (av _)) (mO (cu ug (pv 0) (pv 1) (av _)))))))
abbrev kH:Stmt:=top 36
theorem Hn:am ["word","least","most","number"] ["word","least","most"] (ai kH):=by ac_rfl
theorem t6(B:Bt2 mg)(KZ:Cal P w K mg base 1 "number_in" ["word"] (gZ K))(F:Fun K "number_within" "number_within" kH f fd):FnOk P w K mg base CX0 2 f fd ["word","least","most"] (bB K):=okk F Hn tG λhr hu nd=>(ad (kset 3 nd (kcal KZ hr (aa (pv 0) ac)))
   (ad (aA (Sj (jr (ap Bh (pv 3) lG (av _)) (jr (ap x8 (pv 3) (pv 1) (av _)) (jZ (ap gj (pv 3) (pv 2) (av _)))))) (af bN) au)
   (af (aj (pv 3)))))
abbrev nY:Stmt:=top 46
theorem Ho:am ["floor","filling","least"] ["floor","filling","least"] (ai nY):=by ac_rfl
theorem xx(B:Bt2 mg)(Ii:Cal P w K mg base 1 "is_whole" ["value"] (bx K))(HX:Cal P w K mg base 1 "many_cells" ["floor"] (ba K))(F:Fun K "is_filling" "is_filling" nY f fd):FnOk P w K mg base CX0 2 f fd ["floor","filling","least"] (gt K):=okk F Ho xa λhr hu nd=>(ad (aA (Sj (jr (dC (bM (ay gU rfl B.isinstance_ bp (aa (pv 1) (aa (kN (v:=.ty "list") rfl B.list_ gA rfl) ac))))) (jZ (ap (gk hu) (ay bh rfl B.len_ bG (aa (pv 1) ac)) (kcal HX hr (aa (pv 0) ac)) (av _))))) (af (aj jq)) au)
   (af (aj (ay (qL rfl) rfl B.all_ yd (aa (aY (ix:=[none,none,some 0,some 2]) [".0","sign","floor","least"] (aG rfl (by decide+kernel) rfl rfl rfl) rfl (aI (pv 1)) (λcl s H fp=>(ax (i:=1) (show([".0","sign","floor","least"]:List Str).Nodup by decide+kernel) rfl (Or.inl rfl))) (λcl s H fp=>aW) (λcl s H fp=>(gR (kcal Ii hr (aa (pv 1) ac)) (gR (cu ug (pv 3) (pv 1) (av _)) (mO (cu ug (pv 1) (kix hu (pv 2) ae) (av _))))))) ac)))))
abbrev lq:Stmt:=mtop 48 2
theorem Hq:am ["self"] ["self"] (ai lq):=by ac_rfl
theorem vf(B:Bt2 mg){c:RCl RK}{d:RCl PzK}(IJ:FldK K d "laws")(NQ:MCal P w K mg base c c.ok 1 "line" ["self"] (pH K c))(F:Fun K "lines" "Puzzle.lines" lq f fd):FnOk P w K mg base CX0 2 f fd ["self"] (kx K c d):=okk F Hq uD λhr hu nd=>(af (aj (aY (ix:=[none,none]) [".0","rule"] (aG rfl (by decide+kernel) rfl rfl rfl) rfl (aI (fM (pv 0) IJ)) (λcl s H fp=>(ax (i:=1) (show([".0","rule"]:List Str).Nodup by decide+kernel) rfl (Or.inl rfl))) (λcl s H fp=>aW) (λcl s H fp=>(aC NQ hr (by decide) (pv 1))))))
abbrev jQ:Stmt:=top 52
theorem sq7:am ["move"] ["move"] (ai jQ):=by ac_rfl
theorem sH(B:Bt2 mg)(Ii:Cal P w K mg base 1 "is_whole" ["value"] (bx K)){t_MANY_MOVES:Tok}(IL:mg "MANY_MOVES"=some (.int 8 t_MANY_MOVES)){a:EA}(EM:ErrMx mg a)(R_TooMany:gY K a "TooMany" a.TooMany (qZ a))(R_NoMove:gY K a "NoMove" a.NoMove (sd a))(F:Fun K "refuse_no_move" "refuse_no_move" jQ f fd):FnOk P w K mg base (CX1 P w) 2 f fd ["move"] (bi K):=by
 refine F.ok1 sq7 (λvs H Q E h=>sr h) (λOy A outer s H vs Q E hr h=>?_);have hu:=hr.units;have nd:=sq7.nd;refine⟨fh K a E,?_,su R_NoMove h⟩;exact(af (aA (Sj (jr (dC (bM (kcal Ii hr (aa (pv 0) ac)))) (jr (ap x8 (pv 0) ae (av _)) (jZ (ap By (pv 0) (br rfl IL ⟨t_MANY_MOVES,rfl⟩) (av _)))))) (af (p8 R_NoMove.xc rfl EM.NoMove (aa aH ac))) au))
abbrev og:Stmt:=top 57
theorem Hr:am ["floor","move","cell","now","spot","turn"] ["floor","move","cell"] (ai og):=by ac_rfl
theorem xz(B:Bt2 mg)(JS:Cal P w K mg base 1 "mirrored_spot" ["floor","spot"] (db K))(L6:Cal P w K mg base 1 "spot_of" ["floor","cell"] (j9 K))(Iz:Cal P w K mg base 1 "turned_floor" ["floor"] (bT K))(Ko:Cal P w K mg base 1 "turned_spot" ["floor","spot"] (fO K)){t_MANY_TURNS:Tok}(IB:mg "MANY_TURNS"=some (.int 4 t_MANY_TURNS))(F:Fun K "moved_cell" "moved_cell" og f fd):FnOk P w K mg base CX0 2 f fd ["floor","move","cell"] (gw K):=okk F Hr xh λhr hu nd=>(ad (kset 3 nd (pv 0))
   (ad (kset 4 nd (kcal L6 hr (aa (pv 0) (aa (pv 2) ac))))
   (ad (aA (ap By (pv 1) (br rfl IB ⟨t_MANY_TURNS,rfl⟩) (av _)) (af (kset 4 nd (kcal JS hr (aa (pv 0) (aa (pv 4) ac))))) au)
   (ad (cq P1 rfl (bF rfl B.range_ (aa (ao aF (pv 1) (br rfl IB ⟨t_MANY_TURNS,rfl⟩)) ac)) (ax (i:=5) nd rfl (Or.inl rfl))
   (ad (kset 4 nd (kcal Ko hr (aa (pv 3) (aa (pv 4) ac))))
   (af (kset 3 nd (kcal Iz hr (aa (pv 3) ac))))))
   (af (aj (ao aB (ao cP (kix hu (pv 4) ae) (kix hu (pv 3) ae)) (kix hu (pv 4) ae))))))))
abbrev l8:Stmt:=top 60
theorem Hs:am ["floor","signs"] ["floor","signs"] (ai l8):=by ac_rfl
theorem wk(B:Bt2 mg)(Ii:Cal P w K mg base 1 "is_whole" ["value"] (bx K))(HR:Cal P w K mg base 1 "unchanged_signs" ["floor"] (aP K))(F:Fun K "is_exchange" "is_exchange" l8 f fd):FnOk P w K mg base CX0 2 f fd ["floor","signs"] (cg K):=okk F Hs vO λhr hu nd=>(ad (aA (Sj (jr (dC (bM (ay gU rfl B.isinstance_ bp (aa (pv 1) (aa (kN (v:=.ty "list") rfl B.list_ gA rfl) ac))))) (jZ (dC (bM (ay (qL rfl) rfl B.all_ yd (aa (aY (ix:=[none,none]) [".0","sign"] (aG rfl (by decide+kernel) rfl rfl rfl) rfl (aI (pv 1)) (λcl s H fp=>(ax (i:=1) (show([".0","sign"]:List Str).Nodup by decide+kernel) rfl (Or.inl rfl))) (λcl s H fp=>aW) (λcl s H fp=>(kcal Ii hr (aa (pv 1) ac)))) ac))))))) (af (aj jq)) au)
   (af (aj (cu (aK hu) (ay mT rfl B.sorted_ lH (aa (pv 1) ac)) (kcal HR hr (aa (pv 0) ac)) (av _)))))
abbrev oh:Stmt:=top 64
theorem Ht:am ["rule","cells","signs"] ["rule","cells","signs"] (ai oh):=by ac_rfl
theorem xC(B:Bt2 mg){c:RCl RK}(IK:Cal P w K mg base 1 "exchanged" ["sign","signs"] (dc K))(JR:Cal P w K mg base 1 "line_by" ["name","amount","mark","cells"] (gc K))(Le:MCal P w K mg base c c.ok 1 "name" ["self"] (mJ K c))(Kc:MCal P w K mg base c c.ok 1 "number" ["self"] (jW K c))(Lf:MCal P w K mg base c c.ok 1 "sign" ["self"] (mK K c))(Kd:MCal P w K mg base c c.ok 1 "spots" ["self"] (jA K c))(F:Fun K "moved_line" "moved_line" oh f fd):FnOk P w K mg base CX0 2 f fd ["rule","cells","signs"] (gy K c):=okk F Ht xi λhr hu nd=>(af (aj (kcal JR hr (aa (aC Le hr (by decide) (pv 0)) (aa (aC Kc hr (by decide) (pv 0)) (aa (kcal IK hr (aa (aC Lf hr (by decide) (pv 0)) (aa (pv 2) ac))) (aa (aY (ix:=[none,none,some 1]) [".0","cell","cells"] (aG rfl (by decide+kernel) rfl rfl rfl) rfl (aI (aC Kd hr (by decide) (pv 0))) (λcl s H fp=>(ax (i:=1) (show([".0","cell","cells"]:List Str).Nodup by decide+kernel) rfl (Or.inl rfl))) (λcl s H fp=>aW) (λcl s H fp=>(kix hu (pv 2) (pv 1)))) ac)))))))
abbrev kI:Stmt:=top 65
theorem Hu:am ["puzzle"] ["puzzle"] (ai kI):=by ac_rfl
theorem t8(B:Bt2 mg){c:RCl RK}{d:RCl PzK}(L7:MCal P w K mg base c c.ok 1 "reckons" ["self"] (fY K c))(IW:MCal P w K mg base d d.ok 1 "rules" ["self"] (g9 K c d))(F:Fun K "has_reckoning" "has_reckoning" kI f fd):FnOk P w K mg base CX0 2 f fd ["puzzle"] (bD K c d):=okk F Hu tS λhr hu nd=>(af (aj (ay (BF rfl) rfl B.any_ Fx (aa (aY (ix:=[none,none]) [".0","rule"] (aG rfl (by decide+kernel) rfl rfl rfl) rfl (aI (aC IW hr (by decide) (pv 0))) (λcl s H fp=>(ax (i:=1) (show([".0","rule"]:List Str).Nodup by decide+kernel) rfl (Or.inl rfl))) (λcl s H fp=>aW) (λcl s H fp=>(aC L7 hr (by decide) (pv 1)))) ac))))
abbrev kJ:Stmt:=top 69
theorem Hv:am ["signs_by_cell","fillings","signs"] ["signs_by_cell"] (ai kJ):=by ac_rfl
theorem t9(B:Bt2 mg)(K0:Cal P w K mg base 1 "with_each" ["fillings","signs"] (ip K))(F:Fun K "every_filling" "every_filling" kJ f fd):FnOk P w K mg base CX0 2 f fd ["signs_by_cell"] (dg K):=okk F Hv tX λhr hu nd=>(ad (kset 1 nd (aM (aa (aM ac) ac)))
   (ad (cq P1 rfl (aI (pv 0)) (ax (i:=2) nd rfl (Or.inl rfl))
   (af (kset 1 nd (kcal K0 hr (aa (pv 1) (aa (pv 2) ac))))))
   (af (aj (pv 1)))))
abbrev o8:Stmt:=top 73
theorem Hw:am ["rule","name","cells"] ["rule"] (ai o8):=by ac_rfl
theorem zk(B:Bt2 mg){c:RCl RK}(JR:Cal P w K mg base 1 "line_by" ["name","amount","mark","cells"] (gc K))(Le:MCal P w K mg base c c.ok 1 "name" ["self"] (mJ K c))(Kc:MCal P w K mg base c c.ok 1 "number" ["self"] (jW K c))(Lf:MCal P w K mg base c c.ok 1 "sign" ["self"] (mK K c))(Kd:MCal P w K mg base c c.ok 1 "spots" ["self"] (jA K c))(Ke:GTup K mg "IN_ANY_ORDER" gO)(F:Fun K "form_line" "form_line" o8 f fd):FnOk P w K mg base CX0 2 f fd ["rule"] (il K c):=okk F Hw yP λhr hu nd=>(ad (kset 1 nd (aC Le hr (by decide) (pv 0)))
   (ad (kset 2 nd (xO (qQ Ke (pv 1) rfl) (ay mT rfl B.sorted_ lH (aa (aC Kd hr (by decide) (pv 0)) ac)) (aC Kd hr (by decide) (pv 0))))
   (af (aj (kcal JR hr (aa (pv 1) (aa (aC Kc hr (by decide) (pv 0)) (aa (aC Lf hr (by decide) (pv 0)) (aa (pv 2) ac)))))))))
abbrev gI:Stmt:=top 75
theorem sq0:am ["puzzle"] ["puzzle"] (ai gI):=by ac_rfl
theorem qt(B:Bt2 mg){c:RCl RK}{d:RCl PzK}{t_MOST_SIGNS_alike:Tok}(Jd:mg "MOST_SIGNS_alike"=some (.int 4 t_MOST_SIGNS_alike))(Ia:MCal P w K mg base d d.ok 1 "place" ["self"] (bo K c d)){a:EA}(EM:ErrMx mg a)(R_TooMany:gY K a "TooMany" a.TooMany (qZ a))(R_NoMove:gY K a "NoMove" a.NoMove (sd a))(F:Fun K "refuse_many_signs" "refuse_many_signs" gI f fd):FnOk P w K mg base (CX1 P w) 2 f fd ["puzzle"] (aT K c d):=by
 refine F.ok1 sq0 (λvs H Q E h=>qe h) (λOy A outer s H vs Q E hr h=>?_);have hu:=hr.units;have nd:=sq0.nd;refine⟨cJ K c d a E,?_,qf R_TooMany h⟩;exact(af (aA (ap gj (kix hu (aC Ia hr (by decide) (pv 0)) ae) (br rfl Jd ⟨t_MOST_SIGNS_alike,rfl⟩) (av _)) (af (p8 R_TooMany.xc rfl EM.TooMany (aa aH ac))) au))
abbrev o9:Stmt:=top 87
theorem Hx:am ["_law_floor","_law_filling_here","_law_cell","_law_many","_law_xs","_law_order_here","_law_some","_law_sign","_law_off","_law_way","_law_words"] ["_law_floor","_law_filling_here","_law_cell"] (ai o9):=by ac_rfl
theorem zm(B:Bt2 mg)(K1:Cal P w K mg base 1 "_law_kept" ["_law_order_here","_law_filling_here","_law_rising"] (hJ K))(KA:Cal P w K mg base 1 "_law_order" ["_law_xs","_law_many"] (gu K))(K2:Cal P w K mg base 1 "_law_seen" ["_law_filling_here","_law_cells"] (h9 K))(Kq:Cal P w K mg base 1 "_law_stream" ["_law_cell","_law_many"] (fN K))(F:Fun K "_law_line" "_law_line" o9 f fd):FnOk P w K mg base CX0 2 f fd ["_law_floor","_law_filling_here","_law_cell"] (ck K):=okk F Hx vY λhr hu nd=>(ad (kset 3 nd (ao cP (kix hu (pv 0) ae) (kix hu (pv 0) ae)))
   (ad (kset 4 nd (kcal Kq hr (aa (ao dt (pv 2) ae) (aa (ao aB (pv 3) ae) ac))))
   (ad (kset 5 nd (kcal KA hr (aa (pv 4) (aa (pv 3) ac))))
   (ad (kset 6 nd (cD ju (pv 5) dn (dq (ao aB ae (ao aF (kix hu (pv 4) (pv 3)) (pv 3))))))
   (ad (cY (i:=7) nd rfl (Or.inr rfl) (ao aB ae (ao aF (kix hu (pv 4) (ao aB (pv 3) ae)) (kix hu (pv 0) ae))))
   (ad (kset 8 nd (kix hu (aM (aa ae (aa ae (aa ae (aa ae ac))))) (ao aF (kix hu (pv 4) (ao aB (pv 3) ae)) ae)))
   (ad (kset 9 nd (ao aF (pv 2) ae))
   (ad (aA (ap gj (pv 9) ae (av _)) (af (aj (ao aB (ao aB (kix hu (aM (aa aH (aa aH (aa aH ac)))) (ao kQ (pv 9) ae)) aH) (bb cL rfl B.str_ gW (aa (pv 7) ac))))) au)
   (ad (aA (Sj (ph (ap (qI hu) (pv 9) (aO (aa ae (aa ae ac))) (by with_unfolding_all rfl)) (mE (ap (aK hu) (pv 8) ae (av _))))) (af (kset 6 nd (cD ju (kcal K1 hr (aa (pv 5) (aa (pv 1) (aa (cu (aK hu) (pv 9) ae (av _)) ac)))) dn (dq (ay bh rfl B.len_ bG (aa (pv 6) ac)))))) au)
   (ad (kset 10 nd (aM (aa aH ac)))
   (ad (aA (ap (aK hu) (pv 9) ae (av _)) (af (kset 10 nd (aM (aa aH (aa (bb cL rfl B.str_ gW (aa (ao aB (ay (BI rfl) rfl B.sum_ FD (aa (aY (ix:=[none,none,some 1]) [".0","_law_one","_law_filling_here"] (aG rfl (by decide+kernel) rfl rfl rfl) rfl (aI (pv 6)) (λcl s H fp=>(ax (i:=1) (show([".0","_law_one","_law_filling_here"]:List Str).Nodup by decide+kernel) rfl (Or.inl rfl))) (λcl s H fp=>aW) (λcl s H fp=>(kix hu (pv 2) (pv 1)))) ac)) (pv 8)) ac)) ac))))) au)
   (ad (aA (ap (aK hu) (pv 9) ae (av _)) (af (kset 10 nd (aM (aa aH ac)))) au)
   (ad (aA (ap (aK hu) (pv 9) ae (av _)) (af (kset 10 nd (aM (aa aH (aa (bb cL rfl B.str_ gW (aa (ao aB (kcal K2 hr (aa (pv 1) (aa (pv 6) ac))) (pv 8)) ac)) ac))))) au)
   (ad (aA (ap (aK hu) (pv 9) ae (av _)) (af (kset 10 nd (aM (aa aH (aa (bb cL rfl B.str_ gW (aa (ao aB (ay bh rfl B.len_ bG (aa (aY (ix:=[none,none,some 1,some 7]) [".0","_law_one","_law_filling_here","_law_sign"] (aG rfl (by decide+kernel) rfl rfl rfl) rfl (aI (pv 6)) (λcl s H fp=>(ax (i:=1) (show([".0","_law_one","_law_filling_here","_law_sign"]:List Str).Nodup by decide+kernel) rfl (Or.inl rfl))) (λcl s H fp=>(kP (ap (aK hu) (kix hu (pv 2) (pv 1)) (pv 3) (av _)))) (λcl s H fp=>(pv 1))) ac)) (pv 8)) ac)) (aa (bb cL rfl B.str_ gW (aa (pv 7) ac)) ac)))))) au)
   (af (aj (cw Qa Q7 Q8 oE aH (aa (ao aB (pv 10) (aY (ix:=[none,none]) [".0","_law_one"] (aG rfl (by decide+kernel) rfl rfl rfl) rfl (aI (pv 6)) (λcl s H fp=>(ax (i:=1) (show([".0","_law_one"]:List Str).Nodup by decide+kernel) rfl (Or.inl rfl))) (λcl s H fp=>aW) (λcl s H fp=>(bb cL rfl B.str_ gW (aa (pv 1) ac))))) ac))))))))))))))))))
abbrev lu:Stmt:=top 88
theorem Hy:am ["_law_script","_law_floor","_law_at_here"] ["_law_script","_law_floor","_law_at_here"] (ai lu):=by ac_rfl
theorem vg(B:Bt2 mg)(HS:Cal P w K mg base 1 "_law_at" ["_law_script","_law_k"] (aJ K))(F:Fun K "_law_filling" "_law_filling" lu f fd):FnOk P w K mg base CX0 2 f fd ["_law_script","_law_floor","_law_at_here"] (bw K):=okk F Hy sB λhr hu nd=>(af (aj (aY (ix:=[none,none,some 2,some 1,some 0]) [".0","_law_k","_law_at_here","_law_floor","_law_script"] (aG rfl (by decide+kernel) rfl rfl rfl) rfl (bF rfl B.range_ (aa (ao cP (kix hu (pv 1) ae) (kix hu (pv 1) ae)) ac)) (λcl s H fp=>(ax (i:=1) (show([".0","_law_k","_law_at_here","_law_floor","_law_script"]:List Str).Nodup by decide+kernel) rfl (Or.inl rfl))) (λcl s H fp=>aW) (λcl s H fp=>(ao aB ae (ao aF (kcal HS hr (aa (pv 4) (aa (ao aB (pv 2) (pv 1)) ac))) (kix hu (pv 3) ae)))))))
abbrev i4:Stmt:=top 90
theorem sq4:am ["_law_script","_law_sizes","_law_high","_law_wide","_law_signs"] ["_law_script"] (ai i4):=by ac_rfl
theorem rG(B:Bt2 mg)(HS:Cal P w K mg base 1 "_law_at" ["_law_script","_law_k"] (aJ K))(F:Fun K "_law_tiny_floor" "_law_tiny_floor" i4 f fd):FnOk P w K mg base CX0 2 f fd ["_law_script"] (bK K):=by
 refine F.ok sq4 (λvs H Q E h=>q5 h) (λOy A outer s H vs Q E hr h=>?_);have hu:=hr.units;have nd:=sq4.nd;refine⟨dO K,?_,ra h⟩;refine ad ?_ ?_
 . refine cY (i:=1) ?n ?a ?b ?e ?c ?d
   case n=>exact nd
   case a=>exact rfl
   case b=>exact(Or.inl rfl)
   case d=>first | exact .inl rfl | exact .inr rfl
   case c=>rfl
   case e=>
    refine aM ?_
    . refine aa ?_ ?_
      . exact(aO (aa ae (aa ae ac)))
      . refine aa ?_ ?_
        . exact(aO (aa ae (aa ae ac)))
        . refine aa ?_ ?_
          . exact(aO (aa ae (aa ae ac)))
          . refine aa ?_ ?_
            . exact(aO (aa ae (aa ae ac)))
            . refine aa ?_ ?_
              . exact(aO (aa ae (aa ae ac)))
              . refine aa ?_ ?_
                . exact(aO (aa ae (aa ae ac)))
                . refine aa ?_ ?_
                  . exact(aO (aa ae (aa ae ac)))
                  . refine aa ?_ ?_
                    . exact(aO (aa ae (aa ae ac)))
                    . exact(aa (aO (aa ae (aa ae ac))) (aa (aO (aa ae (aa ae ac))) (aa (aO (aa ae (aa ae ac))) (aa (aO (aa ae (aa ae ac))) ac))))
 . refine ad ?_ ?_
   . exact(xP (kix hu (pv 1) (ao aF (kcal HS hr (aa (pv 0) (aa ae ac))) ae)) (pi rfl (bO (ax (i:=2) nd rfl (Or.inl rfl)) (bO (ax (i:=3) nd rfl (Or.inl rfl)) mF))))
   . refine ad ?_ ?_
     . exact(kset 4 nd (ao aB ae (ao aF (kcal HS hr (aa (pv 0) (aa ae ac))) ae)))
     . refine ad ?_ ?_
       . exact(aA (ap (qI hu) (ao aF (kcal HS hr (aa (pv 0) (aa ae ac))) ae) (aO (aa ae (aa ae ac))) (by with_unfolding_all rfl)) (af (aj (aO (aa ae (aa ae (aa ae ac)))))) au)
       . refine ad ?_ ?_
         . exact(aA (ap (aK hu) (ao aF (kcal HS hr (aa (pv 0) (aa ae ac))) ae) ae (av _)) (af (kset 4 nd ae)) au)
         . refine af ?_
           . exact(aj (aO (aa (pv 2) (aa (pv 3) (aa (pv 4) ac)))))
abbrev qu:Stmt:=top 14
theorem Hz:am ["high","wide","signs"] ["high","wide","signs"] (ai qu):=by ac_rfl
theorem zR(B:Bt2 mg)(IC:Cal P w K mg base 2 "is_from_one_to" ["value","most"] (bv K)){t_MOST_CELLS:Tok}(KB:mg "MOST_CELLS"=some (.int 16 t_MOST_CELLS)){t_MOST_SIDE:Tok}(Kn:mg "MOST_SIDE"=some (.int 6 t_MOST_SIDE)){t_MOST_SIGNS_floors:Tok}(IY:mg "MOST_SIGNS_floors"=some (.int 6 t_MOST_SIGNS_floors))(F:Fun K "floor_of" "floor_of" qu f fd):FnOk P w K mg base CX0 3 f fd ["high","wide","signs"] (jo K):=okk F Hz zE λhr hu nd=>(ad (aA (dC (bM (kcal IC hr (aa (pv 0) (aa (br rfl Kn ⟨t_MOST_SIDE,rfl⟩) ac))))) (af bN) au)
   (ad (aA (dC (bM (kcal IC hr (aa (pv 1) (aa (br rfl Kn ⟨t_MOST_SIDE,rfl⟩) ac))))) (af bN) au)
   (ad (aA (ap gj (ao cP (pv 0) (pv 1)) (br rfl KB ⟨t_MOST_CELLS,rfl⟩) (av _)) (af bN) au)
   (ad (aA (dC (bM (kcal IC hr (aa (pv 2) (aa (br rfl IY ⟨t_MOST_SIGNS_floors,rfl⟩) ac))))) (af bN) au)
   (af (aj (aO (aa (pv 0) (aa (pv 1) (aa (pv 2) ac))))))))))
abbrev lw:Stmt:=top 37
theorem HA:am ["words","least","most"] ["words","least","most"] (ai lw):=by ac_rfl
theorem vh(B:Bt2 mg)(Iw:Cal P w K mg base 2 "number_within" ["word","least","most"] (bB K))(F:Fun K "first_within" "first_within" lw f fd):FnOk P w K mg base CX0 3 f fd ["words","least","most"] (bQ K):=okk F HA ux λhr hu nd=>(ad (aA (ap (aK hu) (pv 0) (aM ac) (av _)) (af bN) au)
   (af (aj (kcal Iw hr (aa (kix hu (pv 0) ae) (aa (pv 1) (aa (pv 2) ac)))))))
abbrev oi:Stmt:=top 38
theorem HB:am ["floor","words","cells"] ["floor","words"] (ai oi):=by ac_rfl
theorem xD(B:Bt2 mg)(HX:Cal P w K mg base 1 "many_cells" ["floor"] (ba K))(Iw:Cal P w K mg base 2 "number_within" ["word","least","most"] (bB K))(F:Fun K "told_cells" "told_cells" oi f fd):FnOk P w K mg base CX0 3 f fd ["floor","words"] (gl K):=okk F HB w6 λhr hu nd=>(ad (jR (k:=2) nd rfl (Or.inl rfl) rfl (ix:=[none,none,some 0]) [".0","word","floor"] (aG rfl (by decide+kernel) rfl rfl rfl) rfl (aI (pv 1)) (λcl s H fp=>(ax (i:=1) (show([".0","word","floor"]:List Str).Nodup by decide+kernel) rfl (Or.inl rfl))) (λcl s H fp=>aW) (λcl s H fp=>(kcal Iw hr (aa (pv 1) (aa ae (aa (ao kQ (kcal HX hr (aa (pv 2) ac)) ae) ac))))))
   (ad (aA (ap (aK hu) (pv 2) (aM ac) (av _)) (af bN) au)
   (ad (aA (ap (gk hu) (BW rfl rfl rfl B.len_ B.set_ (pv 2)) (ay bh rfl B.len_ bG (aa (pv 2) ac)) (av _)) (af bN) au)
   (af (aj (pv 2))))))
abbrev rH:Stmt:=top 40
theorem HC:am ["floor","words","cells","amount","mark","name"] ["floor","words","cells","amount","mark"] (ai rH):=by ac_rfl
theorem A8(B:Bt2 mg){c:RCl RK}(Nk:KCal P w K mg base 1 "Count" (c.A .Count) ["self","floor","words","cells","amount","mark"] (aq K c))(MA:KCal P w K mg base 1 "Joined" (c.A .Joined) ["self","floor","words","cells","amount","mark"] (aq K c))(Li:KCal P w K mg base 1 "NoSquare" (c.A .NoSquare) ["self","floor","words","cells","amount","mark"] (aq K c))(NR:KCal P w K mg base 1 "Ring" (c.A .Ring) ["self","floor","words","cells","amount","mark"] (aq K c))(MB:KCal P w K mg base 1 "Rising" (c.A .Rising) ["self","floor","words","cells","amount","mark"] (aq K c))(NS:KCal P w K mg base 1 "Seen" (c.A .Seen) ["self","floor","words","cells","amount","mark"] (aq K c))(K_Sum:KCal P w K mg base 1 "Sum" (c.A .Sum) ["self","floor","words","cells","amount","mark"] (aq K c))(MC:KCal P w K mg base 1 "Unlike" (c.A .Unlike) ["self","floor","words","cells","amount","mark"] (aq K c))(F:Fun K "rule_by" "rule_by" rH f fd):FnOk P w K mg base CX0 3 f fd ["floor","words","cells","amount","mark"] (ki K c):=okk F HC AN λhr hu nd=>(ad (kset 5 nd (kix hu (pv 1) ae))
   (ad (aA (ap (aK hu) (pv 5) aH (av _)) (af (aj (iN MC hr (by decide) rfl (aa (pv 0) (aa (pv 1) (aa (pv 2) (aa (pv 3) (aa (pv 4) ac)))))))) au)
   (ad (aA (ap (aK hu) (pv 5) aH (av _)) (af (aj (iN K_Sum hr (by decide) rfl (aa (pv 0) (aa (pv 1) (aa (pv 2) (aa (pv 3) (aa (pv 4) ac)))))))) au)
   (ad (aA (ap (aK hu) (pv 5) aH (av _)) (af (aj (iN MB hr (by decide) rfl (aa (pv 0) (aa (pv 1) (aa (pv 2) (aa (pv 3) (aa (pv 4) ac)))))))) au)
   (ad (aA (ap (aK hu) (pv 5) aH (av _)) (af (aj (iN NS hr (by decide) rfl (aa (pv 0) (aa (pv 1) (aa (pv 2) (aa (pv 3) (aa (pv 4) ac)))))))) au)
   (ad (aA (ap (aK hu) (pv 5) aH (av _)) (af (aj (iN Nk hr (by decide) rfl (aa (pv 0) (aa (pv 1) (aa (pv 2) (aa (pv 3) (aa (pv 4) ac)))))))) au)
   (ad (aA (ap (aK hu) (pv 5) aH (av _)) (af (aj (iN MA hr (by decide) rfl (aa (pv 0) (aa (pv 1) (aa (pv 2) (aa (pv 3) (aa (pv 4) ac)))))))) au)
   (ad (aA (ap (aK hu) (pv 5) aH (av _)) (af (aj (iN Li hr (by decide) rfl (aa (pv 0) (aa (pv 1) (aa (pv 2) (aa (pv 3) (aa (pv 4) ac)))))))) au)
   (ad (aA (ap (aK hu) (pv 5) aH (av _)) (af (aj (iN NR hr (by decide) rfl (aa (pv 0) (aa (pv 1) (aa (pv 2) (aa (pv 3) (aa (pv 4) ac)))))))) au)
   (af bN))))))))))
abbrev kK:Stmt:=top 47
theorem HD:am ["floor","clues"] ["floor","clues"] (ai kK):=by ac_rfl
theorem ua(B:Bt2 mg)(KC:Cal P w K mg base 2 "is_filling" ["floor","filling","least"] (gt K))(F:Fun K "checked_clues" "checked_clues" kK f fd):FnOk P w K mg base CX0 3 f fd ["floor","clues"] (c9 K):=okk F HD tI λhr hu nd=>(ad (aA (dC (bM (kcal KC hr (aa (pv 0) (aa (pv 1) (aa ae ac)))))) (af bN) au)
   (af (aj (bb j5 rfl B.list_ gA (aa (pv 1) ac)))))
abbrev l9:Stmt:=top 56
theorem sq32:am ["floor","move","now","turn"] ["floor","move"] (ai l9):=by ac_rfl
theorem wm(B:Bt2 mg)(Iu:bf P w K mg base 2 "refuse_no_move" ["move"] (bi K))(Iz:Cal P w K mg base 1 "turned_floor" ["floor"] (bT K)){t_MANY_TURNS:Tok}(IB:mg "MANY_TURNS"=some (.int 4 t_MANY_TURNS))(F:Fun K "moved_floor" "moved_floor" l9 f fd):FnOk P w K mg base (CX1 P w) 3 f fd ["floor","move"] (cU K):=by
 refine F.ok1 sq32 (λvs H Q E h=>vJ h) (λOy A outer s H vs Q E hr h=>?_);have hu:=hr.units;have nd:=sq32.nd;refine⟨iP K E,?_,vK h⟩
 exact(ad (bu (bg (cf λ_ _ _ z=>z) Iu hr (by decide) rfl (aa (pv 1) ac)))
   (ad (kset 2 nd (pv 0))
   (ad (cq Rg rfl (bF rfl B.range_ (aa (ao aF (pv 1) (br rfl IB ⟨t_MANY_TURNS,rfl⟩)) ac)) (ax (i:=3) nd rfl (Or.inl rfl))
   (af (kset 2 nd (kcal Iz hr (aa (pv 2) ac)))))
   (af (aj (pv 2))))))
abbrev md:Stmt:=top 58
theorem sq34:am ["floor","move"] ["floor","move"] (ai md):=by ac_rfl
theorem wo(B:Bt2 mg)(HX:Cal P w K mg base 1 "many_cells" ["floor"] (ba K))(KD:Cal P w K mg base 2 "moved_cell" ["floor","move","cell"] (gw K))(Iu:bf P w K mg base 2 "refuse_no_move" ["move"] (bi K))(F:Fun K "moved_cells" "moved_cells" md f fd):FnOk P w K mg base (CX1 P w) 3 f fd ["floor","move"] (bI K):=by
 refine F.ok1 sq34 (λvs H Q E h=>vL h) (λOy A outer s H vs Q E hr h=>?_);have hu:=hr.units;have nd:=sq34.nd;refine⟨iQ K E,?_,vM h⟩
 exact(ad (bu (bg (cf λ_ _ _ z=>z) Iu hr (by decide) rfl (aa (pv 1) ac)))
   (af (aj (aY (ix:=[none,none,some 0,some 1]) [".0","cell","floor","move"] (aG rfl (by decide+kernel) rfl rfl rfl) rfl (bF rfl B.range_ (aa (kcal HX hr (aa (pv 0) ac)) ac)) (λcl s H fp=>(ax (i:=1) (show([".0","cell","floor","move"]:List Str).Nodup by decide+kernel) rfl (Or.inl rfl))) (λcl s H fp=>aW) (λcl s H fp=>(kcal KD hr (aa (pv 2) (aa (pv 3) (aa (pv 1) ac)))))))))
abbrev me:Stmt:=top 61
theorem sq31:am ["floor","signs"] ["floor","signs"] (ai me):=by ac_rfl
theorem wp(B:Bt2 mg)(IG:Cal P w K mg base 2 "is_exchange" ["floor","signs"] (cg K))(HR:Cal P w K mg base 1 "unchanged_signs" ["floor"] (aP K)){a:EA}(EM:ErrMx mg a)(R_TooMany:gY K a "TooMany" a.TooMany (qZ a))(R_NoMove:gY K a "NoMove" a.NoMove (sd a))(F:Fun K "exchange_by" "exchange_by" me f fd):FnOk P w K mg base (CX1 P w) 3 f fd ["floor","signs"] (bJ K):=by
 refine F.ok1 sq31 (λvs H Q E h=>vP h) (λOy A outer s H vs Q E hr h=>?_);have hu:=hr.units;have nd:=sq31.nd;refine⟨iR K a E,?_,vQ R_NoMove h⟩
 exact(ad (aA (ap Bh (pv 1) lG (av _)) (af (aj (kcal HR hr (aa (pv 0) ac)))) au)
   (ad (aA (dC (bM (kcal IG hr (aa (pv 0) (aa (pv 1) ac))))) (af (p8 R_NoMove.xc rfl EM.NoMove (aa aH ac))) au)
   (af (aj (pv 1)))))
abbrev zn:Stmt:=top 74
theorem HE:am ["puzzle"] ["puzzle"] (ai zn):=by ac_rfl
theorem E5(B:Bt2 mg){c:RCl RK}{d:RCl PzK}(K3:Cal P w K mg base 2 "form_line" ["rule"] (il K c))(Ih:MCal P w K mg base d d.ok 1 "clues" ["self"] (bS K c d))(Ia:MCal P w K mg base d d.ok 1 "place" ["self"] (bo K c d))(IW:MCal P w K mg base d d.ok 1 "rules" ["self"] (g9 K c d))(F:Fun K "form" "form" zn f fd):FnOk P w K mg base CX0 3 f fd ["puzzle"] (cV K c d):=okk F HE EO λhr hu nd=>(af (aj (aO (aa (aC Ia hr (by decide) (pv 0)) (aa (ay qC rfl B.sorted_ lH (aa (aY (ix:=[none,none]) [".0","rule"] (aG rfl (by decide+kernel) rfl rfl rfl) rfl (aI (aC IW hr (by decide) (pv 0))) (λcl s H fp=>(ax (i:=1) (show([".0","rule"]:List Str).Nodup by decide+kernel) rfl (Or.inl rfl))) (λcl s H fp=>aW) (λcl s H fp=>(kcal K3 hr (aa (pv 1) ac)))) ac)) (aa (aC Ih hr (by decide) (pv 0)) ac))))))
abbrev pc:Stmt:=top 76
theorem HF:am ["puzzle","floor","signs"] ["puzzle"] (ai pc):=by ac_rfl
theorem zo(B:Bt2 mg){c:RCl RK}{d:RCl PzK}(JT:Cal P w K mg base 2 "every_filling" ["signs_by_cell"] (dg K))(Ik:Cal P w K mg base 2 "has_reckoning" ["puzzle"] (bD K c d))(IG:Cal P w K mg base 2 "is_exchange" ["floor","signs"] (cg K))(HR:Cal P w K mg base 1 "unchanged_signs" ["floor"] (aP K))(Ia:MCal P w K mg base d d.ok 1 "place" ["self"] (bo K c d))(F:Fun K "exchanges" "exchanges" pc f fd):FnOk P w K mg base CX0 3 f fd ["puzzle"] (fP K c d):=okk F HF yV λhr hu nd=>(ad (cY (i:=1) nd rfl (Or.inr rfl) (aC Ia hr (by decide) (pv 0)))
   (ad (kset 2 nd (kcal HR hr (aa (pv 1) ac)))
   (ad (aA (bM (kcal Ik hr (aa (pv 0) ac))) (af (aj (aM (aa (pv 2) ac)))) au)
   (af (aj (aY (ix:=[none,none,some 1]) [".0","order","floor"] (aG rfl (by decide+kernel) rfl rfl rfl) rfl (aI (kcal JT hr (aa (ao yc (aM (aa (pv 2) ac)) (ay bh rfl B.len_ bG (aa (pv 2) ac))) ac))) (λcl s H fp=>(ax (i:=1) (show([".0","order","floor"]:List Str).Nodup by decide+kernel) rfl (Or.inl rfl))) (λcl s H fp=>(kP (bM (kcal IG hr (aa (pv 2) (aa (pv 1) ac)))))) (λcl s H fp=>(pv 1))))))))
abbrev pd:Stmt:=top 92
theorem HG:am ["_law_puzzle"] ["_law_puzzle"] (ai pd):=by ac_rfl
theorem zp(B:Bt2 mg){c:RCl RK}{d:RCl PzK}(Jk:Cal P w K mg base 1 "_law_row" ["_law_line_here","_law_turned"] (bV K))(Ih:MCal P w K mg base d d.ok 1 "clues" ["self"] (bS K c d))(IH:MCal P w K mg base d d.ok 2 "lines" ["self"] (eQ K c d))(Ia:MCal P w K mg base d d.ok 1 "place" ["self"] (bo K c d))(F:Fun K "_law_form" "_law_form" pd f fd):FnOk P w K mg base CX0 3 f fd ["_law_puzzle"] (bz K c d):=okk F HG yX λhr hu nd=>(af (aj (aO (aa (aC Ia hr (by decide) (pv 0)) (aa (ay qC rfl B.sorted_ lH (aa (aY (ix:=[none,none]) [".0","_law_line_here"] (aG rfl (by decide+kernel) rfl rfl rfl) rfl (aI (aC IH hr (by decide) (pv 0))) (λcl s H fp=>(ax (i:=1) (show([".0","_law_line_here"]:List Str).Nodup by decide+kernel) rfl (Or.inl rfl))) (λcl s H fp=>aW) (λcl s H fp=>(kcal Jk hr (aa (pv 1) (aa jq ac))))) ac)) (aa (aC Ih hr (by decide) (pv 0)) ac))))))
abbrev oj:Stmt:=top 93
theorem HH:am ["_law_puzzle","_law_many","_law_found","_law_k","_law_longer","_law_one"] ["_law_puzzle"] (ai oj):=by ac_rfl
theorem xE(B:Bt2 mg){c:RCl RK}{d:RCl PzK}(IH:MCal P w K mg base d d.ok 2 "lines" ["self"] (eQ K c d))(Ia:MCal P w K mg base d d.ok 1 "place" ["self"] (bo K c d))(F:Fun K "_law_lists" "_law_lists" oj f fd):FnOk P w K mg base CX0 3 f fd ["_law_puzzle"] (cG K c d):=okk F HH xp λhr hu nd=>(ad (kset 1 nd (kix hu (aC Ia hr (by decide) (pv 0)) ae))
   (ad (aA (ap gj (ay bh rfl B.len_ bG (aa (aY (ix:=[none,none]) [".0","_law_line_here"] (aG rfl (by decide+kernel) rfl rfl rfl) rfl (aI (aC IH hr (by decide) (pv 0))) (λcl s H fp=>(ax (i:=1) (show([".0","_law_line_here"]:List Str).Nodup by decide+kernel) rfl (Or.inl rfl))) (λcl s H fp=>(kP (ap (qI hu) (kix hu (cw Qa RA RB qK (pv 1) (aa aH ac)) ae) (aO (aa aH (aa aH (aa aH ac)))) (by with_unfolding_all rfl)))) (λcl s H fp=>(pv 1))) ac)) ae (av _)) (af (aj (aM (aa (lA rfl rfl rfl B.list_ B.range_ (aa ae (aa (ao aB (pv 1) ae) ac))) ac)))) au)
   (ad (kset 2 nd (aM (aa (aM ac) ac)))
   (ad (cq P1 rfl (bF rfl B.range_ (aa (pv 1) ac)) (ax (i:=3) nd rfl (Or.inl rfl))
   (ad (kset 4 nd (aM ac))
   (ad (cq P1 rfl (aI (pv 2)) (ax (i:=5) nd rfl (Or.inr rfl))
   (af (bu (cw Pg QK QL mj (pv 4) (aa (aY (ix:=[none,none,some 5]) [".0","_law_sign","_law_one"] (aG rfl (by decide+kernel) rfl rfl rfl) rfl (ww rfl B.range_ (aa ae (aa (ao aB (pv 1) ae) ac))) (λcl s H fp=>(ax (i:=1) (show([".0","_law_sign","_law_one"]:List Str).Nodup by decide+kernel) rfl (Or.inl rfl))) (λcl s H fp=>(kP (ap (BA hu) (pv 1) (pv 2) (by with_unfolding_all rfl)))) (λcl s H fp=>(ao aB (pv 2) (aM (aa (pv 1) ac))))) ac)))))
   (af (kset 2 nd (pv 4))))))
   (af (aj (pv 2)))))))
abbrev qv:Stmt:=top 39
theorem HI:am ["floor","name","words"] ["floor","name","words"] (ai qv):=by ac_rfl
theorem zS(B:Bt2 mg)(HX:Cal P w K mg base 1 "many_cells" ["floor"] (ba K))(KF:Cal P w K mg base 3 "told_cells" ["floor","words"] (gl K))(Iy:GTup K mg "OF_ALL_CELLS" cy)(F:Fun K "cells_of" "cells_of" qv f fd):FnOk P w K mg base CX0 4 f fd ["floor","name","words"] (jn K):=okk F HI zC λhr hu nd=>(ad (aA (Ae Iy (pv 1) rfl) (af (aj (kcal KF hr (aa (pv 0) (aa (pv 2) ac))))) au)
   (ad (aA (ap (gk hu) (pv 2) (aM ac) (av _)) (af bN) au)
   (af (aj (sM rfl rfl rfl B.list_ B.range_ (aa (kcal HX hr (aa (pv 0) ac)) ac))))))
abbrev kL:Stmt:=top 44
theorem HJ:am ["floor"] ["floor"] (ai kL):=by ac_rfl
theorem ub(B:Bt2 mg)(Lj:Cal P w K mg base 3 "floor_of" ["high","wide","signs"] (jo K))(F:Fun K "checked_floor" "checked_floor" kL f fd):FnOk P w K mg base CX0 4 f fd ["floor"] (c8 K):=okk F HJ tH λhr hu nd=>(ad (aA (Sj (jr (dC (bM (ay gU rfl B.isinstance_ bp (aa (pv 0) (aa (kN (v:=.ty "tuple") rfl B.tuple_ pU rfl) ac))))) (jZ (ap (gk hu) (ay bh rfl B.len_ bG (aa (pv 0) ac)) ae (av _))))) (af bN) au)
   (af (aj (kcal Lj hr (aa (kix hu (pv 0) ae) (aa (kix hu (pv 0) ae) (aa (kix hu (pv 0) ae) ac)))))))
abbrev kM:Stmt:=top 63
theorem sq9:am ["floor","filling","move","signs","cells","exchange","found","cell","sign"] ["floor","filling","move","signs"] (ai kM):=by ac_rfl
theorem om(B:Bt2 mg)(Iq:bf P w K mg base 3 "exchange_by" ["floor","signs"] (bJ K))(IK:Cal P w K mg base 1 "exchanged" ["sign","signs"] (dc K))(HX:Cal P w K mg base 1 "many_cells" ["floor"] (ba K))(Ir:bf P w K mg base 3 "moved_cells" ["floor","move"] (bI K)){f:Addr}{fd:FuncData}(F:FunD K "moved_filling" "moved_filling" kM f fd [Value.none]):FnOk P w K mg base (CX1 P w) 4 f fd ["floor","filling","move","signs"] (bC K):=by
 refine F.ok1 sq9 (λvs H Q E h=>tM h) (λOy A outer s H vs Q E hr h=>?_);have hu:=hr.units;have nd:=sq9.nd;refine⟨fZ K E,?_,tN h⟩
 exact(ad (kset 4 nd (bg (cf λ_ _ _ z=>z) Ir hr (by decide) rfl (aa (pv 0) (aa (pv 2) ac))))
   (ad (kset 5 nd (bg (cf λ_ _ _ z=>z) Iq hr (by decide) rfl (aa (pv 0) (aa (pv 3) ac))))
   (ad (kset 6 nd (ao yc (aM (aa ae ac)) (kcal HX hr (aa (pv 0) ac))))
   (ad (cq Rg rfl (FB rfl B.zip_ (aa (pv 4) (aa (pv 1) ac))) (pi rfl (bO (ax (i:=7) nd rfl (Or.inl rfl)) (bO (ax (i:=8) nd rfl (Or.inl rfl)) mF)))
   (af (xP (kcal IK hr (aa (pv 8) (aa (pv 5) ac))) (Bc (pv 6) (pv 7) (DQ hu)))))
   (af (aj (pv 6)))))))
abbrev qw:Stmt:=top 77
theorem HK:am ["puzzle","found","move"] ["puzzle"] (ai qw):=by ac_rfl
theorem zT(B:Bt2 mg){c:RCl RK}{d:RCl PzK}(K4:Cal P w K mg base 3 "exchanges" ["puzzle"] (fP K c d)){t_MANY_MOVES:Tok}(IL:mg "MANY_MOVES"=some (.int 8 t_MANY_MOVES))(F:Fun K "moves_of" "moves_of" qw f fd):FnOk P w K mg base CX0 4 f fd ["puzzle"] (eY K c d):=okk F HK zH λhr hu nd=>(ad (kset 1 nd (aM ac))
   (ad (cq P1 rfl (bF rfl B.range_ (aa (br rfl IL ⟨t_MANY_MOVES,rfl⟩) ac)) (ax (i:=2) nd rfl (Or.inr rfl))
   (af (bu (cw Pg QK QL mj (pv 1) (aa (aY (ix:=[none,none,some 2]) [".0","signs","move"] (aG rfl (by decide+kernel) rfl rfl rfl) rfl (aI (kcal K4 hr (aa (pv 0) ac))) (λcl s H fp=>(ax (i:=1) (show([".0","signs","move"]:List Str).Nodup by decide+kernel) rfl (Or.inl rfl))) (λcl s H fp=>aW) (λcl s H fp=>(aO (aa (pv 2) (aa (pv 1) ac))))) ac)))))
   (af (aj (pv 1)))))
abbrev pf:Stmt:=top 41
theorem HL:am ["floor","line","words","name","rest","amount","mark"] ["floor","line"] (ai pf):=by ac_rfl
theorem zq(B:Bt2 mg){c:RCl RK}(Lk:Cal P w K mg base 4 "cells_of" ["floor","name","words"] (jn K))(Jl:Cal P w K mg base 3 "first_within" ["words","least","most"] (bQ K))(L8:Cal P w K mg base 3 "rule_by" ["floor","words","cells","amount","mark"] (ki K c)){t_MOST_NUMBER:Tok}(Kr:mg "MOST_NUMBER"=some (.int 99 t_MOST_NUMBER))(IF:GTup K mg "WITH_NUMBER" cT)(IV:GTup K mg "WITH_SIGN" cZ)(F:Fun K "read_rule" "read_rule" pf f fd):FnOk P w K mg base CX0 5 f fd ["floor","line"] (g7 K c):=okk F HL yA λhr hu nd=>(ad (aA (dC (bM (ay gU rfl B.isinstance_ bp (aa (pv 1) (aa (kN (v:=.ty "str") rfl B.str_ gW rfl) ac))))) (af bN) au)
   (ad (kset 2 nd (cw Qa RA RB qK (pv 1) (aa aH ac)))
   (ad (kset 3 nd (kix hu (pv 2) ae))
   (ad (kset 4 nd (cD ju (pv 2) (dq ae) dn))
   (ad (kset 5 nd ae)
   (ad (kset 6 nd ae)
   (ad (aA (qQ IF (pv 3) rfl) (ad (kset 5 nd (kcal Jl hr (aa (pv 4) (aa ae (aa (br rfl Kr ⟨t_MOST_NUMBER,rfl⟩) ac)))))
   (af (kset 4 nd (cD ju (pv 4) (dq ae) dn)))) au)
   (ad (aA (qQ IV (pv 3) rfl) (ad (kset 6 nd (kcal Jl hr (aa (pv 4) (aa ae (aa (kix hu (pv 0) ae) ac)))))
   (af (kset 4 nd (cD ju (pv 4) (dq ae) dn)))) au)
   (af (aj (kcal L8 hr (aa (pv 0) (aa (pv 2) (aa (kcal Lk hr (aa (pv 0) (aa (pv 3) (aa (pv 4) ac)))) (aa (pv 5) (aa (pv 6) ac))))))))))))))))
abbrev on:Stmt:=top 45
theorem HM:am ["floor","lines"] ["floor","lines"] (ai on):=by ac_rfl
theorem xF(B:Bt2 mg){c:RCl RK}(K5:Cal P w K mg base 5 "read_rule" ["floor","line"] (g7 K c)){t_MOST_RULES:Tok}(KG:mg "MOST_RULES"=some (.int 12 t_MOST_RULES))(F:Fun K "read_rules" "read_rules" on f fd):FnOk P w K mg base CX0 6 f fd ["floor","lines"] (gn K c):=okk F HM w9 λhr hu nd=>(ad (aA (ap gj (ay bh rfl B.len_ bG (aa (pv 1) ac)) (br rfl KG ⟨t_MOST_RULES,rfl⟩) (av _)) (af bN) au)
   (af (aj (aY (ix:=[none,none,some 0]) [".0","line","floor"] (aG rfl (by decide+kernel) rfl rfl rfl) rfl (aI (pv 1)) (λcl s H fp=>(ax (i:=1) (show([".0","line","floor"]:List Str).Nodup by decide+kernel) rfl (Or.inl rfl))) (λcl s H fp=>aW) (λcl s H fp=>(kcal K5 hr (aa (pv 2) (aa (pv 1) ac))))))))
abbrev i5:Stmt:=mtop 48 0
theorem sq1:am ["self","floor","lines","clues"] ["self","floor","lines","clues"] (ai i5):=by ac_rfl
theorem rJ(B:Bt2 mg){c:RCl RK}{d:RCl PzK}(JU:Cal P w K mg base 3 "checked_clues" ["floor","clues"] (c9 K))(JV:Cal P w K mg base 4 "checked_floor" ["floor"] (c8 K))(KH:Cal P w K mg base 6 "read_rules" ["floor","lines"] (gn K c))(II:FldK K d "floor")(Jj:FldK K d "given")(IJ:FldK K d "laws")(F:Fun K "__init__" "Puzzle.__init__" i5 f fd):FnOk P w K mg base CX0 7 f fd ["self","floor","lines","clues"] (aD K c d):=okk F sq1 qR λhr hu nd=>(ad (jV (pv 0) (kcal JV hr (aa (pv 1) ac)) II)
   (ad (jV (pv 0) (kcal KH hr (aa (fM (pv 0) II) (aa (pv 2) ac))) IJ)
   (af (jV (pv 0) (kcal JU hr (aa (fM (pv 0) II) (aa (pv 3) ac))) Jj))))
abbrev wq:Stmt:=top 66
theorem sq71:am ["puzzle","move","signs","floor","cells","exchange","lines"] ["puzzle","move","signs"] (ai wq):=by ac_rfl
theorem zr(B:Bt2 mg){c:RCl RK}{d:RCl PzK}(Iq:bf P w K mg base 3 "exchange_by" ["floor","signs"] (bJ K))(Ik:Cal P w K mg base 2 "has_reckoning" ["puzzle"] (bD K c d))(Ir:bf P w K mg base 3 "moved_cells" ["floor","move"] (bI K))(Jc:bf P w K mg base 4 "moved_filling" ["floor","filling","move","signs"] (bC K))(JC:bf P w K mg base 3 "moved_floor" ["floor","move"] (cU K))(JW:Cal P w K mg base 2 "moved_line" ["rule","cells","signs"] (gy K c))(HR:Cal P w K mg base 1 "unchanged_signs" ["floor"] (aP K))(Ih:MCal P w K mg base d d.ok 1 "clues" ["self"] (bS K c d))(Ia:MCal P w K mg base d d.ok 1 "place" ["self"] (bo K c d))(IW:MCal P w K mg base d d.ok 1 "rules" ["self"] (g9 K c d))(Il:KCal P w K mg base 7 "Puzzle" (d.A .Puzzle) ["self","floor","lines","clues"] (aD K c d)){a:EA}(EM:ErrMx mg a)(R_TooMany:gY K a "TooMany" a.TooMany (qZ a))(R_NoMove:gY K a "NoMove" a.NoMove (sd a)){f:Addr}{fd:FuncData}(F:FunD K "moved" "moved" wq f fd [Value.none]):FnOk P w K mg base (CX1 P w) 9 f fd ["puzzle","move","signs"] (df K c d):=by
 refine F.ok1 sq71 (λvs H Q E h=>Dr h) (λOy A outer s H vs Q E hr h=>?_);have hu:=hr.units;have nd:=sq71.nd;refine⟨qd K c d a E,?_,Ds R_NoMove h⟩
 exact(ad (kset 3 nd (aC Ia hr (by decide) (pv 0)))
   (ad (cY (i:=4) nd rfl (Or.inr rfl) (bg (cf λ_ _ _ z=>z) Ir hr (by decide) rfl (aa (pv 3) (aa (pv 1) ac))))
   (ad (cY (i:=5) nd rfl (Or.inr rfl) (bg (cf λ_ _ _ z=>z) Iq hr (by decide) rfl (aa (pv 3) (aa (pv 2) ac))))
   (ad (aA (Sj (ph (ap (gk hu) (pv 5) (kcal HR hr (aa (pv 3) ac)) (av _)) (mE (bM (kcal Ik hr (aa (pv 0) ac)))))) (af (p8 R_NoMove.xc rfl EM.NoMove (aa aH ac))) au)
   (ad (jR (k:=6) nd rfl (Or.inl rfl) rfl (ix:=[none,none,some 4,some 5]) [".0","rule","cells","exchange"] (aG rfl (by decide+kernel) rfl rfl rfl) rfl (aI (aC IW hr (by decide) (pv 0))) (λcl s H fp=>(ax (i:=1) (show([".0","rule","cells","exchange"]:List Str).Nodup by decide+kernel) rfl (Or.inl rfl))) (λcl s H fp=>aW) (λcl s H fp=>(kcal JW hr (aa (pv 1) (aa (pv 2) (aa (pv 3) ac))))))
   (af (aj (iN Il hr (by decide) rfl (aa (bg (cf λ_ _ _ z=>z) JC hr (by decide) rfl (aa (pv 3) (aa (pv 1) ac))) (aa (pv 6) (aa (bg (cf λ_ _ _ z=>z) Jc hr (by decide) rfl (aa (pv 3) (aa (aC Ih hr (by decide) (pv 0)) (aa (pv 1) (aa (pv 5) ac))))) ac)))))))))))
abbrev i6:Stmt:=top 96
theorem sq2:am ["_law_script","_law_floor","_law_filling_here","_law_lines","_law_clues","_law_puzzle","_law_due","_law_turn","_law_found"] ["_law_script"] (ai i6):=by ac_rfl
theorem rK(B:Bt2 mg){c:RCl RK}{d:RCl PzK}(HS:Cal P w K mg base 1 "_law_at" ["_law_script","_law_k"] (aJ K))(IA:Cal P w K mg base 2 "_law_filling" ["_law_script","_law_floor","_law_at_here"] (bw K))(Ij:Cal P w K mg base 3 "_law_form" ["_law_puzzle"] (bz K c d))(IX:Cal P w K mg base 2 "_law_line" ["_law_floor","_law_filling_here","_law_cell"] (ck K))(IM:Cal P w K mg base 3 "form" ["puzzle"] (cV K c d))(Ih:MCal P w K mg base d d.ok 1 "clues" ["self"] (bS K c d))(IH:MCal P w K mg base d d.ok 2 "lines" ["self"] (eQ K c d))(Il:KCal P w K mg base 7 "Puzzle" (d.A .Puzzle) ["self","floor","lines","clues"] (aD K c d))(F:Fun K "_law_great_form" "_law_great_form" i6 f fd):FnOk P w K mg base CX0 9 f fd ["_law_script"] (bL K c d):=by
 refine F.ok sq2 (λvs H Q E h=>rf h) (λOy A outer s H vs Q E hr h=>?_);have hu:=hr.units;have nd:=sq2.nd;refine⟨dU K c d,?_,rh h⟩;refine ad ?_ ?_
 . refine cY (i:=1) ?n ?a ?b ?e ?c ?d
   case n=>exact nd
   case a=>exact rfl
   case b=>exact(Or.inr rfl)
   case d=>first | exact .inl rfl | exact .inr rfl
   case c=>rfl
   case e=>
    refine xK ?x ?l ?j ?p
    case x=>exact(Ft hu)
    case p=>exact(λ_ _=>rfl)
    case j=>exact(ao aF (kcal HS hr (aa (pv 0) (aa ae ac))) ae)
    case l=>
     refine aM ?_
     . refine aa ?_ ?_
       . exact(aO (aa ae (aa ae (aa ae ac))))
       . refine aa ?_ ?_
         . exact(aO (aa ae (aa ae (aa ae ac))))
         . refine aa ?_ ?_
           . exact(aO (aa ae (aa ae (aa ae ac))))
           . exact(aa (aO (aa ae (aa ae (aa ae ac)))) (aa (aO (aa ae (aa ae (aa ae ac)))) (aa (aO (aa ae (aa ae (aa ae ac)))) ac)))
 . refine ad ?_ ?_
   . exact(cY (i:=2) nd rfl (Or.inr rfl) (kcal IA hr (aa (pv 0) (aa (pv 1) (aa ae ac)))))
   . refine ad ?_ ?_
     . exact(jR (k:=3) nd rfl (Or.inl rfl) rfl (ix:=[none,none,some 2,some 1,some 0]) [".0","_law_k","_law_filling_here","_law_floor","_law_script"] (aG rfl (by decide+kernel) rfl rfl rfl) rfl (bF rfl B.range_ (aa (ao aB ae (ao aF (kcal HS hr (aa (pv 0) (aa ae ac))) ae)) ac)) (λcl s H fp=>(ax (i:=1) (show([".0","_law_k","_law_filling_here","_law_floor","_law_script"]:List Str).Nodup by decide+kernel) rfl (Or.inl rfl))) (λcl s H fp=>aW) (λcl s H fp=>(kcal IX hr (aa (pv 3) (aa (pv 2) (aa (kcal HS hr (aa (pv 4) (aa (ao aB ae (pv 1)) ac))) ac))))))
     . refine ad ?_ ?_
       . exact(jR (k:=4) nd rfl (Or.inl rfl) rfl (ix:=[none,none,none,some 0]) [".0","_law_k","_law_sign","_law_script"] (aG rfl (by decide+kernel) rfl rfl rfl) rfl (z7 rfl B.enumerate_ (aa (pv 2) ac)) (λcl s H fp=>(pi rfl (bO (ax (i:=1) (show([".0","_law_k","_law_sign","_law_script"]:List Str).Nodup by decide+kernel) rfl (Or.inl rfl)) (bO (ax (i:=2) (show([".0","_law_k","_law_sign","_law_script"]:List Str).Nodup by decide+kernel) rfl (Or.inl rfl)) mF)))) (λcl s H fp=>aW) (λcl s H fp=>(ao cP (pv 2) (ao aF (ao dt (kcal HS hr (aa (pv 3) (aa (ao aB ae (pv 1)) ac))) ae) ae))))
       . refine ad ?_ ?_
         . exact(kset 5 nd (iN Il hr (by decide) rfl (aa (pv 1) (aa (pv 3) (aa (pv 4) ac)))))
         . refine ad ?_ ?_
           . exact(kset 6 nd (kcal Ij hr (aa (pv 5) ac)))
           . refine ad ?_ ?_
             . exact(cq P1 rfl (bF rfl B.range_ (aa ae ac)) (ax (i:=7) nd rfl (Or.inl rfl)) (ad (kset 8 nd (kcal IM hr (aa (pv 5) ac))) (ad (aA (ap (gk hu) (pv 8) (pv 6) (av _)) (af (aj jq)) au) (ad (bu (xW Pg Ru Rv qJ (kix hu (pv 8) ae))) (af (bu (xW Pg Ru Rv qJ (kix hu (pv 8) ae))))))))
             . refine af ?_
               . exact(aj (gR (cu (aK hu) (aC Ih hr (by decide) (pv 5)) (pv 4) (av _)) (mO (cu (aK hu) (aC IH hr (by decide) (pv 5)) (pv 3) (av _)))))
abbrev oo:Stmt:=top 78
theorem sq42:am ["puzzle","move"] ["puzzle","move"] (ai oo):=by ac_rfl
theorem xG(B:Bt2 mg){c:RCl RK}{d:RCl PzK}(IM:Cal P w K mg base 3 "form" ["puzzle"] (cV K c d))(Jm:bf P w K mg base 9 "moved" ["puzzle","move","signs"] (df K c d))(F:Fun K "moved_form" "moved_form" oo f fd):FnOk P w K mg base (CX1 P w) 10 f fd ["puzzle","move"] (bU K c d):=by
 refine F.ok1 sq42 (λvs H Q E h=>xj h) (λOy A outer s H vs Q E hr h=>?_);have hu:=hr.units;have nd:=sq42.nd;refine⟨jw K c d E,?_,xk h⟩;exact(af (aj (kcal IM hr (aa (bg (cf λ_ _ _ z=>z) Jm hr (by decide) rfl (aa (pv 0) (aa (kix hu (pv 1) ae) (aa (kix hu (pv 1) ae) ac)))) ac))))
abbrev oq:Stmt:=top 94
theorem sq36:am ["_law_puzzle","_law_forms_here","_law_move","_law_signs"] ["_law_puzzle"] (ai oq):=by ac_rfl
theorem xH(B:Bt2 mg){c:RCl RK}{d:RCl PzK}(Ij:Cal P w K mg base 3 "_law_form" ["_law_puzzle"] (bz K c d))(IN:Cal P w K mg base 3 "_law_lists" ["_law_puzzle"] (cG K c d))(Jm:bf P w K mg base 9 "moved" ["puzzle","move","signs"] (df K c d))(F:Fun K "_law_forms" "_law_forms" oq f fd):FnOk P w K mg base (CX1 P w) 10 f fd ["_law_puzzle"] (dB K c d):=by
 refine F.ok1 sq36 (λvs H Q E h=>xq h) (λOy A outer s H vs Q E hr h=>?_);have hu:=hr.units;have nd:=sq36.nd;refine⟨jy K c d E,?_,xt h⟩
 exact(ad (kset 1 nd (aM ac))
   (ad (cq Rg rfl (bF rfl B.range_ (aa ae ac)) (ax (i:=2) nd rfl (Or.inl rfl))
   (af (cq Rg rfl (aI (kcal IN hr (aa (pv 0) ac))) (ax (i:=3) nd rfl (Or.inl rfl))
   (af (bu (cw Pg P4 P5 fW (pv 1) (aa (aO (aa (pv 2) (aa (pv 3) (aa (kcal Ij hr (aa (bg (cf λ_ _ _ z=>z) Jm hr (by decide) rfl (aa (pv 0) (aa (pv 2) (aa (bb j5 rfl B.list_ gA (aa (pv 3) ac)) ac)))) ac)) ac)))) ac)))))))
   (af (aj (pv 1)))))
abbrev or:Stmt:=top 95
theorem sq46:am ["_law_script","_law_puzzle","_law_cell","_law_signs","_law_other_here","_law_lines","_law_cut","_law_clues","_law_at_here","_law_floor"] ["_law_script","_law_puzzle"] (ai or):=by ac_rfl
theorem xI(B:Bt2 mg){c:RCl RK}{d:RCl PzK}(HS:Cal P w K mg base 1 "_law_at" ["_law_script","_law_k"] (aJ K))(JX:Cal P w K mg base 1 "_law_exchange" ["_law_cell","_law_many"] (de K))(IN:Cal P w K mg base 3 "_law_lists" ["_law_puzzle"] (cG K c d))(Jk:Cal P w K mg base 1 "_law_row" ["_law_line_here","_law_turned"] (bV K))(Jm:bf P w K mg base 9 "moved" ["puzzle","move","signs"] (df K c d))(Ih:MCal P w K mg base d d.ok 1 "clues" ["self"] (bS K c d))(IH:MCal P w K mg base d d.ok 2 "lines" ["self"] (eQ K c d))(Ia:MCal P w K mg base d d.ok 1 "place" ["self"] (bo K c d))(Il:KCal P w K mg base 7 "Puzzle" (d.A .Puzzle) ["self","floor","lines","clues"] (aD K c d))(F:Fun K "_law_other" "_law_other" or f fd):FnOk P w K mg base (CX1 P w) 10 f fd ["_law_script","_law_puzzle"] (cz K c d):=by
 refine F.ok1 sq46 (λvs H Q E h=>uV h) (λOy A outer s H vs Q E hr h=>?_);have hu:=hr.units;have nd:=sq46.nd;refine⟨gQ K c d E,?_,uW h⟩
 exact(ad (cY (i:=2) nd rfl (Or.inr rfl) (kcal HS hr (aa (pv 0) (aa ae ac))))
   (ad (kset 3 nd (lA rfl rfl rfl B.list_ B.range_ (aa ae (aa (ao aB (kix hu (aC Ia hr (by decide) (pv 1)) ae) ae) ac))))
   (ad (aA (ap gj (ay bh rfl B.len_ bG (aa (kcal IN hr (aa (pv 1) ac)) ac)) ae (av _)) (af (kset 3 nd (kcal JX hr (aa (kcal HS hr (aa (pv 0) (aa ae ac))) (aa (ay bh rfl B.len_ bG (aa (pv 3) ac)) ac))))) au)
   (ad (kset 4 nd (bg (cf λ_ _ _ z=>z) Jm hr (by decide) rfl (aa (pv 1) (aa (ao aF (pv 2) ae) (aa (pv 3) ac)))))
   (ad (jR (k:=5) nd rfl (Or.inl rfl) rfl (ix:=[none,none,some 2]) [".0","_law_line_here","_law_cell"] (aG rfl (by decide+kernel) rfl rfl rfl) rfl (aI (aC IH hr (by decide) (pv 4))) (λcl s H fp=>(ax (i:=1) (show([".0","_law_line_here","_law_cell"]:List Str).Nodup by decide+kernel) rfl (Or.inl rfl))) (λcl s H fp=>aW) (λcl s H fp=>(kcal Jk hr (aa (pv 1) (aa (cu (aK hu) (ao aF (ao dt (pv 2) ae) ae) ae (av _)) ac)))))
   (ad (kset 6 nd (ao aF (ao dt (pv 2) ae) (ao aB (ay bh rfl B.len_ bG (aa (pv 5) ac)) ae)))
   (ad (kset 5 nd (ao aB (cD ju (pv 5) (dq (pv 6)) dn) (cD ju (pv 5) dn (dq (pv 6)))))
   (ad (kset 7 nd (aC Ih hr (by decide) (pv 4)))
   (ad (kset 8 nd (ao aF (ao dt (pv 2) ae) (ay bh rfl B.len_ bG (aa (pv 7) ac))))
   (ad (kset 9 nd (aC Ia hr (by decide) (pv 4)))
   (ad (aA (ap (aK hu) (ao aF (ao dt (pv 2) ae) ae) ae (av _)) (af (xP (ao aF (ao aB (kix hu (pv 7) (pv 8)) ae) (ao aB (kix hu (pv 9) ae) ae)) (Bc (pv 7) (pv 8) (DQ hu)))) au)
   (ad (aA (Sj (ph (ap (aK hu) (ao aF (ao dt (pv 2) ae) ae) ae (av _)) (mE (ap gj (ay bh rfl B.len_ bG (aa (pv 5) ac)) ae (av _))))) (af (kset 5 nd (cD ju (pv 5) (dq ae) dn))) au)
   (ad (aA (ap (aK hu) (ao aF (ao dt (pv 2) ae) ae) ae (av _)) (ad (kset 5 nd (aM ac))
   (af (kset 9 nd (aO (aa (kix hu (pv 9) ae) (aa (kix hu (pv 9) ae) (aa (ay (BB rfl) rfl B.max_ Fw (aa (kix hu (pv 9) ae) (aa (ao aB ae (ao aF (ao dt (pv 2) ae) ae)) ac))) ac))))))) au)
   (af (aj (iN Il hr (by decide) rfl (aa (pv 9) (aa (pv 5) (aa (pv 7) ac)))))))))))))))))))
abbrev wt:Stmt:=top 79
theorem sq70:am ["puzzle"] ["puzzle"] (ai wt):=by ac_rfl
theorem DK(B:Bt2 mg){c:RCl RK}{d:RCl PzK}(IO:bf P w K mg base 10 "moved_form" ["puzzle","move"] (bU K c d))(Jn:Cal P w K mg base 4 "moves_of" ["puzzle"] (eY K c d))(Id:bf P w K mg base 2 "refuse_many_signs" ["puzzle"] (aT K c d))(F:Fun K "plain" "plain" wt f fd):FnOk P w K mg base (CX1 P w) 11 f fd ["puzzle"] (gh K c d):=by
 refine F.ok1 sq70 (λvs H Q E h=>DH h) (λOy A outer s H vs Q E hr h=>?_);have hu:=hr.units;have nd:=sq70.nd;refine⟨qi K c d E,?_,DI h⟩
 exact(ad (bu (bg (cf λ_ _ _ z=>z) Id hr (by decide) rfl (aa (pv 0) ac)))
   (af (aj (ay (uX rfl hu) rfl B.min_ BD (aa (aY (ix:=[none,none,some 0]) [".0","move","puzzle"] (aG rfl (by decide+kernel) rfl rfl rfl) rfl (aI (kcal Jn hr (aa (pv 0) ac))) (λcl s H fp=>(ax (i:=1) (show([".0","move","puzzle"]:List Str).Nodup by decide+kernel) rfl (Or.inl rfl))) (λcl s H fp=>aW) (λcl s H fp=>(bg (Gh λ_ _ _ z=>z) IO hr (by decide) rfl (aa (pv 2) (aa (pv 1) ac))))) ac)))))
abbrev wu:Stmt:=top 80
theorem sq69:am ["one","other","sought","move"] ["one","other"] (ai wu):=by ac_rfl
theorem DL(B:Bt2 mg){c:RCl RK}{d:RCl PzK}(IM:Cal P w K mg base 3 "form" ["puzzle"] (cV K c d))(IO:bf P w K mg base 10 "moved_form" ["puzzle","move"] (bU K c d))(Jn:Cal P w K mg base 4 "moves_of" ["puzzle"] (eY K c d))(Id:bf P w K mg base 2 "refuse_many_signs" ["puzzle"] (aT K c d))(F:Fun K "alike" "alike" wu f fd):FnOk P w K mg base (CX1 P w) 11 f fd ["one","other"] (iq K c d):=by
 refine F.ok1 sq69 (λvs H Q E h=>DB h) (λOy A outer s H vs Q E hr h=>?_);have hu:=hr.units;have nd:=sq69.nd;refine⟨qg K c d E,?_,DC h⟩
 exact(ad (bu (bg (cf λ_ _ _ z=>z) Id hr (by decide) rfl (aa (pv 0) ac)))
   (ad (bu (bg (cf λ_ _ _ z=>z) Id hr (by decide) rfl (aa (pv 1) ac)))
   (ad (kset 2 nd (kcal IM hr (aa (pv 1) ac)))
   (ad (cq Rg rfl (aI (kcal Jn hr (aa (pv 0) ac))) (ax (i:=3) nd rfl (Or.inl rfl))
   (af (aA (ap (aK hu) (bg (cf λ_ _ _ z=>z) IO hr (by decide) rfl (aa (pv 0) (aa (pv 3) ac))) (pv 2) (av _)) (af (aj (pv 3))) au)))
   (af (aj lG))))))
abbrev lx:Stmt:=top 97
theorem sq18:am ["_law_one","_law_other_here","_law_way","_law_caught","error"] ["_law_one","_law_other_here","_law_way"] (ai lx):=by ac_rfl
theorem vk(B:Bt2 mg){c:RCl RK}{d:RCl PzK}(Kz:bf P w K mg base 11 "alike" ["one","other"] (iq K c d))(Kf:bf P w K mg base 11 "plain" ["puzzle"] (gh K c d)){a:EA}(EM:ErrMx mg a)(R_TooMany:gY K a "TooMany" a.TooMany (qZ a))(R_NoMove:gY K a "NoMove" a.NoMove (sd a))(F:Fun K "_law_refused" "_law_refused" lx f fd):FnOk P w K mg base CX0 12 f fd ["_law_one","_law_other_here","_law_way"] (bj K c d):=by
 refine F.ok sq18 (λvs H Q E h=>sC h) (λOy A outer s H vs Q E hr h=>?_);have hu:=hr.units;have nd:=sq18.nd;refine⟨fi K c d a,?_,sD R_TooMany h⟩
 exact(ad (kset 3 nd lG)
   (ad (EE (i:=4) (λ_ _ z=>z) Kf Kz hr (by decide) (by decide) rfl rfl (ap (aK hu) (pv 2) ae (av _)) (aa (pv 0) ac) (aa (pv 0) (aa (pv 1) ac)) nd rfl rfl rfl EM.ClueError rfl rfl (λ_=>(af (kset 3 nd (pv 4)))))
   (af (aj (gR (ay qM rfl B.isinstance_ bp (aa (pv 3) (aa (br rfl EM.TooMany rfl) ac))) (gR (xN (ay qM rfl B.isinstance_ bp (aa (pv 3) (aa (br rfl EM.NoMove rfl) ac)))) (mO (xN (ay qM rfl B.isinstance_ bp (aa (pv 3) (aa (br rfl EM.NoPuzzle rfl) ac)))))))))))
abbrev sj:Stmt:=top 98
theorem HN:am ["_law_script","_law_floor","_law_filling_here","_law_lines","_law_clues","_law_one","_law_small","_law_other_here","_law_goal","_law_forms_here","_law_due","_law_found","_law_least_one","_law_told"] ["_law_script"] (ai sj):=by ac_rfl
theorem Gi(B:Bt2 mg){c:RCl RK}{d:RCl PzK}(HS:Cal P w K mg base 1 "_law_at" ["_law_script","_law_k"] (aJ K))(IA:Cal P w K mg base 2 "_law_filling" ["_law_script","_law_floor","_law_at_here"] (bw K))(Ij:Cal P w K mg base 3 "_law_form" ["_law_puzzle"] (bz K c d))(KI:bf P w K mg base 10 "_law_forms" ["_law_puzzle"] (dB K c d))(Jo:Cal P w K mg base 9 "_law_great_form" ["_law_script"] (bL K c d))(IX:Cal P w K mg base 2 "_law_line" ["_law_floor","_law_filling_here","_law_cell"] (ck K))(KJ:bf P w K mg base 10 "_law_other" ["_law_script","_law_puzzle"] (cz K c d))(IP:Cal P w K mg base 12 "_law_refused" ["_law_one","_law_other_here","_law_way"] (bj K c d))(Jp:Cal P w K mg base 2 "_law_tiny_floor" ["_law_script"] (bK K))(Kz:bf P w K mg base 11 "alike" ["one","other"] (iq K c d))(IM:Cal P w K mg base 3 "form" ["puzzle"] (cV K c d))(Kf:bf P w K mg base 11 "plain" ["puzzle"] (gh K c d))(Ih:MCal P w K mg base d d.ok 1 "clues" ["self"] (bS K c d))(Il:KCal P w K mg base 7 "Puzzle" (d.A .Puzzle) ["self","floor","lines","clues"] (aD K c d))(F:Fun K "law" "law" sj f fd):FnOk P w K mg base CX0 13 f fd ["_law_script"] (CH K c d):=okk F HN Gg λhr hu nd=>(ad (cY (i:=1) nd rfl (Or.inr rfl) (kcal Jp hr (aa (pv 0) ac)))
   (ad (cY (i:=2) nd rfl (Or.inr rfl) (kcal IA hr (aa (pv 0) (aa (pv 1) (aa ae ac)))))
   (ad (jR (k:=3) nd rfl (Or.inl rfl) rfl (ix:=[none,none,some 2,some 1,some 0]) [".0","_law_k","_law_filling_here","_law_floor","_law_script"] (aG rfl (by decide+kernel) rfl rfl rfl) rfl (bF rfl B.range_ (aa (ao aF (kcal HS hr (aa (pv 0) (aa ae ac))) ae) ac)) (λcl s H fp=>(ax (i:=1) (show([".0","_law_k","_law_filling_here","_law_floor","_law_script"]:List Str).Nodup by decide+kernel) rfl (Or.inl rfl))) (λcl s H fp=>aW) (λcl s H fp=>(kcal IX hr (aa (pv 3) (aa (pv 2) (aa (kcal HS hr (aa (pv 4) (aa (ao aB ae (pv 1)) ac))) ac))))))
   (ad (jR (k:=4) nd rfl (Or.inl rfl) rfl (ix:=[none,none,none,some 0]) [".0","_law_k","_law_sign","_law_script"] (aG rfl (by decide+kernel) rfl rfl rfl) rfl (z7 rfl B.enumerate_ (aa (pv 2) ac)) (λcl s H fp=>(pi rfl (bO (ax (i:=1) (show([".0","_law_k","_law_sign","_law_script"]:List Str).Nodup by decide+kernel) rfl (Or.inl rfl)) (bO (ax (i:=2) (show([".0","_law_k","_law_sign","_law_script"]:List Str).Nodup by decide+kernel) rfl (Or.inl rfl)) mF)))) (λcl s H fp=>aW) (λcl s H fp=>(ao cP (pv 2) (ao aF (ao dt (kcal HS hr (aa (pv 3) (aa (ao aB ae (pv 1)) ac))) ae) ae))))
   (ad (kset 5 nd (iN Il hr (by decide) rfl (aa (pv 1) (aa (pv 3) (aa (pv 4) ac)))))
   (ad (aA (dC (bM (kcal Jo hr (aa (pv 0) ac)))) (af (aj jq)) au)
   (ad (aA (ap gj (kix hu (pv 1) ae) ae (av _)) (ad (kset 6 nd (iN Il hr (by decide) rfl (aa (aO (aa ae (aa ae (aa ae ac)))) (aa (aM ac) (aa (aM (aa ae ac)) ac)))))
   (af (aj (gR (kcal IP hr (aa (pv 5) (aa (pv 5) (aa ae ac)))) (gR (kcal IP hr (aa (pv 5) (aa (pv 6) (aa ae ac)))) (mO (kcal IP hr (aa (pv 6) (aa (pv 5) (aa ae ac)))))))))) au)
   (ad (kset 7 nd (bg uu KJ hr (by decide) rfl (aa (pv 0) (aa (pv 5) ac))))
   (ad (cY (i:=8) nd rfl (Or.inr rfl) (kcal Ij hr (aa (pv 7) ac)))
   (ad (aA (Sj (jr (ap (gk hu) (kcal IM hr (aa (pv 5) ac)) (kcal Ij hr (aa (pv 5) ac)) (av _)) (jZ (ap (gk hu) (kcal IM hr (aa (pv 7) ac)) (pv 8) (av _))))) (af (aj jq)) au)
   (ad (kset 9 nd (bg uu KI hr (by decide) rfl (aa (pv 5) ac)))
   (ad (kset 10 nd (cD ju (aY (ix:=[none,none,none,none,some 8]) [".0","_law_move","_law_signs","_law_made","_law_goal"] (aG rfl (by decide+kernel) rfl rfl rfl) rfl (aI (pv 9)) (λcl s H fp=>(pi rfl (bO (ax (i:=1) (show([".0","_law_move","_law_signs","_law_made","_law_goal"]:List Str).Nodup by decide+kernel) rfl (Or.inl rfl)) (bO (ax (i:=2) (show([".0","_law_move","_law_signs","_law_made","_law_goal"]:List Str).Nodup by decide+kernel) rfl (Or.inl rfl)) (bO (ax (i:=3) (show([".0","_law_move","_law_signs","_law_made","_law_goal"]:List Str).Nodup by decide+kernel) rfl (Or.inl rfl)) mF))))) (λcl s H fp=>(kP (ap (aK hu) (pv 3) (pv 4) (av _)))) (λcl s H fp=>(aO (aa (pv 1) (aa (pv 2) ac))))) dn (dq ae)))
   (ad (kset 11 nd (bg uu Kz hr (by decide) rfl (aa (pv 5) (aa (pv 7) ac))))
   (ad (aA (Sj (jr (Sj (ph (ap (aK hu) (pv 10) (aM ac) (av _)) (mE (ap zX (pv 11) lG (av _))))) (jZ (Sj (ph (ap (gk hu) (pv 10) (aM ac) (av _)) (mE (Sj (jr (dC (bM (ay gU rfl B.isinstance_ bp (aa (pv 11) (aa (kN (v:=.ty "tuple") rfl B.tuple_ pU rfl) ac))))) (jZ (ap (gk hu) (pv 11) (kix hu (pv 10) ae) (av _))))))))))) (af (aj jq)) au)
   (ad (kset 12 nd (ay (uX rfl hu) rfl B.min_ BD (aa (aY (ix:=[none,none,none,none]) [".0","_law_move","_law_signs","_law_made"] (aG rfl (by decide+kernel) rfl rfl rfl) rfl (aI (pv 9)) (λcl s H fp=>(pi rfl (bO (ax (i:=1) (show([".0","_law_move","_law_signs","_law_made"]:List Str).Nodup by decide+kernel) rfl (Or.inl rfl)) (bO (ax (i:=2) (show([".0","_law_move","_law_signs","_law_made"]:List Str).Nodup by decide+kernel) rfl (Or.inl rfl)) (bO (ax (i:=3) (show([".0","_law_move","_law_signs","_law_made"]:List Str).Nodup by decide+kernel) rfl (Or.inl rfl)) mF))))) (λcl s H fp=>aW) (λcl s H fp=>(pv 3))) ac)))
   (ad (kset 13 nd (bg uu Kf hr (by decide) rfl (aa (pv 5) ac)))
   (ad (aA (ap (gk hu) (pv 13) (pv 12) (av _)) (af (aj jq)) au)
   (ad (bu (cw Pg P4 P5 fW (kix hu (pv 13) ae) (aa aH ac)))
   (ad (bu (xW Pg Ru Rv qJ (kix hu (pv 13) ae)))
   (af (aj (gR (cu (aK hu) (aC Ih hr (by decide) (pv 5)) (pv 4) (av _)) (mO (cu (aK hu) (cu (aK hu) (bg uu Kf hr (by decide) rfl (aa (pv 7) ac)) (pv 12) (av _)) (cu zX (pv 11) lG (av _)) (av _)))))))))))))))))))))))))
def mkC(HU Ie HV Ib HY HW HQ Ic:Addr):RCl RK:=⟨λk=>match k with | .Rule=>HU | .Unlike=>HU | .Sum=>Ie | .Rising=>HV | .Seen=>Ib | .Count=>HY | .Joined=>HW | .NoSquare=>HQ | .Ring=>Ic,λk=>match k with | .Rule=>false | _=>true⟩
def mkD(HZ:Addr):RCl PzK:=⟨λ_=>HZ,λ_=>true⟩
variable{l:PySem.W.OpenLaw}
theorem Gj {w:World} {K:Frag} {h:Heap} {mg:Str->Option Value} {fa:Addr} (X:K.In h) (G:h.Ns mainGlobals mg) (hfa:mg "law"=some (.ref fa))
  {f0 f1 f2 f3 f4 f5 f6 f7 f8 f9 f10 f11 f12 f13 f14 f15 f16 f17 f18 f19 f20 f21 f22 f23 f24 f25 f26 f27 f28 f29 f30 f31 f32 f33 f34 f35 f36 f37 f38 f39 f40 f41 f42 f43 f44 f45 f46 f47 f48 f49 f50 f51 f52 f53 f54 f55 f56 f57 f58 f59 f60 f61 f62 f63 f64 f65 f66 f67 f68 f69 f70 f71 f72 f73:Addr} {fd0 fd1 fd2 fd3 fd4 fd5 fd6 fd7 fd8 fd9 fd10 fd11 fd12 fd13 fd14 fd15 fd16 fd17 fd18 fd19 fd20 fd21 fd22 fd23 fd24 fd25 fd26 fd27 fd28 fd29 fd30 fd31 fd32 fd33 fd34 fd35 fd36 fd37 fd38 fd39 fd40 fd41 fd42 fd43 fd44 fd45 fd46 fd47 fd48 fd49 fd50 fd51 fd52 fd53 fd54 fd55 fd56 fd57 fd58 fd59 fd60 fd61 fd62 fd63 fd64 fd65 fd66 fd67 fd68 fd69 fd70 fd71 fd72 fd73:FuncData} {HU Ie HV Ib HY HW HQ Ic HZ:Addr} {JY:Addr} {M5:Option Addr} {M6:Nat} {M7:Array (Option Value)} {M8 M9 Na:Tok} {JZ:Addr} {Nd:Option Addr} {Nf:Nat} {Ng:Array (Option Value)} {Nh Ni Nj:Tok} {Kg:Addr} {Nl:Option Addr} {Nm:Nat} {Nn:Array (Option Value)} {No Np Nq:Tok} {KK:Addr} {NT:Option Addr} {NU:Nat} {NV:Array (Option Value)} {NW NX NY NZ:Tok} {tk_FIGURES:Tok} {tk_MANY_MOVES:Tok} {tk_MANY_TURNS:Tok} {tk_MOST_CELLS:Tok} {tk_MOST_FIGURES:Tok} {tk_MOST_NUMBER:Tok} {tk_MOST_RULES:Tok} {tk_MOST_SIDE:Tok} {tk_MOST_SIGNS_alike:Tok} {tk_MOST_SIGNS_floors:Tok} {x_ClueError x_NoFloor x_NoRule x_NoPuzzle x_TooMany x_NoMove:Addr} {cE cC0:Value} {dE dD:Option Addr} {esE:Array DictEntry} {nE:Nat} {sE slD:Array (Option Value)} {ND:Addr} {cdD:ClassData} {nm_TooMany Om:Str} {N_TooMany:Addr} {bs_TooMany:List Value} {hd_TooMany:Bool} {sn_TooMany:List Str} {sub_TooMany:List Value} {ab_TooMany:Bool} {col_TooMany:Option Bool} {dd_TooMany:Option Addr} {k0_TooMany k1_TooMany k2_TooMany k3_TooMany k5_TooMany:Option Value} {cN_TooMany:Value} {dN_TooMany:Option Addr} {es_TooMany:Array DictEntry} {n_TooMany:Nat} {sN_TooMany:Array (Option Value)} {nm_NoMove On:Str} {N_NoMove:Addr} {bs_NoMove:List Value} {hd_NoMove:Bool} {sn_NoMove:List Str} {sub_NoMove:List Value} {ab_NoMove:Bool} {col_NoMove:Option Bool} {dd_NoMove:Option Addr} {k0_NoMove k1_NoMove k2_NoMove k3_NoMove k5_NoMove:Option Value} {cN_NoMove:Value} {dN_NoMove:Option Addr} {es_NoMove:Array DictEntry} {n_NoMove:Nat} {sN_NoMove:Array (Option Value)}
  (MD:nsIn K mainGlobals "Unlike"=some (some (.ref HU))) (q_Sum:nsIn K mainGlobals "Sum"=some (some (.ref Ie))) (ME:nsIn K mainGlobals "Rising"=some (some (.ref HV))) (N0:nsIn K mainGlobals "Seen"=some (some (.ref Ib))) (Nr:nsIn K mainGlobals "Count"=some (some (.ref HY))) (MF:nsIn K mainGlobals "Joined"=some (some (.ref HW))) (Lm:nsIn K mainGlobals "NoSquare"=some (some (.ref HQ))) (N1:nsIn K mainGlobals "Ring"=some (some (.ref Ic))) (MG:nsIn K mainGlobals "Puzzle"=some (some (.ref HZ))) (a0:nsIn K mainGlobals "is_whole"=some (some (.ref f0))) (a1:nsIn K mainGlobals "many_cells"=some (some (.ref f1))) (a2:nsIn K mainGlobals "spot_of"=some (some (.ref f2))) (Ln:findIn K (.ref HU) "__init__"=some (some (.ref f3))) (Nt:findIn K (.ref Ie) "__init__"=some (some (.ref f3))) (Lo:findIn K (.ref HV) "__init__"=some (some (.ref f3))) (MH:findIn K (.ref Ib) "__init__"=some (some (.ref f3))) (L9:findIn K (.ref HY) "__init__"=some (some (.ref f3))) (Lp:findIn K (.ref HW) "__init__"=some (some (.ref f3))) (KL:findIn K (.ref HQ) "__init__"=some (some (.ref f3))) (MI:findIn K (.ref Ic) "__init__"=some (some (.ref f3))) (Ma:findIn K (.ref HU) "name"=some (some (.ref f4))) (N3:findIn K (.ref Ie) "name"=some (some (.ref f4))) (Mb:findIn K (.ref HV) "name"=some (some (.ref f4))) (Nu:findIn K (.ref Ib) "name"=some (some (.ref f4))) (MJ:findIn K (.ref HY) "name"=some (some (.ref f4))) (Mc:findIn K (.ref HW) "name"=some (some (.ref f4))) (K6:findIn K (.ref HQ) "name"=some (some (.ref f4))) (Nv:findIn K (.ref Ic) "name"=some (some (.ref f4))) (Md:findIn K (.ref HU) "spots"=some (some (.ref f5))) (N4:findIn K (.ref Ie) "spots"=some (some (.ref f5))) (Me:findIn K (.ref HV) "spots"=some (some (.ref f5))) (Nw:findIn K (.ref Ib) "spots"=some (some (.ref f5))) (MK:findIn K (.ref HY) "spots"=some (some (.ref f5))) (Mf:findIn K (.ref HW) "spots"=some (some (.ref f5))) (K7:findIn K (.ref HQ) "spots"=some (some (.ref f5))) (Ny:findIn K (.ref Ic) "spots"=some (some (.ref f5))) (Mg:findIn K (.ref HU) "number"=some (some (.ref f6))) (N5:findIn K (.ref Ie) "number"=some (some (.ref f6))) (Mh:findIn K (.ref HV) "number"=some (some (.ref f6))) (Nz:findIn K (.ref Ib) "number"=some (some (.ref f6))) (ML:findIn K (.ref HY) "number"=some (some (.ref f6))) (Mi:findIn K (.ref HW) "number"=some (some (.ref f6))) (K8:findIn K (.ref HQ) "number"=some (some (.ref f6))) (NA:findIn K (.ref Ic) "number"=some (some (.ref f6))) (Mj:findIn K (.ref HU) "sign"=some (some (.ref f7))) (N6:findIn K (.ref Ie) "sign"=some (some (.ref f7))) (Ml:findIn K (.ref HV) "sign"=some (some (.ref f7))) (NB:findIn K (.ref Ib) "sign"=some (some (.ref f7))) (MM:findIn K (.ref HY) "sign"=some (some (.ref f7))) (Mm:findIn K (.ref HW) "sign"=some (some (.ref f7))) (K9:findIn K (.ref HQ) "sign"=some (some (.ref f7))) (NC:findIn K (.ref Ic) "sign"=some (some (.ref f7))) (Mn:findIn K (.ref HU) "line"=some (some (.ref f8))) (N7:findIn K (.ref Ie) "line"=some (some (.ref f8))) (Mo:findIn K (.ref HV) "line"=some (some (.ref f8))) (NE:findIn K (.ref Ib) "line"=some (some (.ref f8))) (MN:findIn K (.ref HY) "line"=some (some (.ref f8))) (Mp:findIn K (.ref HW) "line"=some (some (.ref f8))) (La:findIn K (.ref HQ) "line"=some (some (.ref f8))) (NF:findIn K (.ref Ic) "line"=some (some (.ref f8))) (Mq:findIn K (.ref HU) "reckons"=some (some (.ref f9))) (MO:findIn K (.ref HY) "reckons"=some (some (.ref f9))) (Mr:findIn K (.ref HW) "reckons"=some (some (.ref f9))) (Lb:findIn K (.ref HQ) "reckons"=some (some (.ref f9))) (NG:findIn K (.ref Ic) "reckons"=some (some (.ref f9))) (NH:findIn K (.ref Ie) "reckons"=some (some (.ref f10))) (Lq:findIn K (.ref HV) "reckons"=some (some (.ref f11))) (MP:findIn K (.ref Ib) "reckons"=some (some (.ref f12))) (a13:nsIn K mainGlobals "line_by"=some (some (.ref f13))) (a14:nsIn K mainGlobals "number_in"=some (some (.ref f14))) (Lr:findIn K (.ref HZ) "place"=some (some (.ref f15))) (Ls:findIn K (.ref HZ) "clues"=some (some (.ref f16))) (Lu:findIn K (.ref HZ) "rules"=some (some (.ref f17))) (a18:nsIn K mainGlobals "turned_floor"=some (some (.ref f18))) (a19:nsIn K mainGlobals "turned_spot"=some (some (.ref f19))) (a20:nsIn K mainGlobals "mirrored_spot"=some (some (.ref f20))) (a21:nsIn K mainGlobals "unchanged_signs"=some (some (.ref f21))) (a22:nsIn K mainGlobals "exchanged"=some (some (.ref f22))) (a23:nsIn K mainGlobals "with_each"=some (some (.ref f23))) (a24:nsIn K mainGlobals "_law_at"=some (some (.ref f24))) (a25:nsIn K mainGlobals "_law_stream"=some (some (.ref f25))) (a26:nsIn K mainGlobals "_law_order"=some (some (.ref f26))) (a27:nsIn K mainGlobals "_law_kept"=some (some (.ref f27))) (a28:nsIn K mainGlobals "_law_seen"=some (some (.ref f28))) (a29:nsIn K mainGlobals "_law_exchange"=some (some (.ref f29))) (a30:nsIn K mainGlobals "_law_row"=some (some (.ref f30))) (a31:nsIn K mainGlobals "is_from_one_to"=some (some (.ref f31))) (a32:nsIn K mainGlobals "number_within"=some (some (.ref f32))) (a33:nsIn K mainGlobals "is_filling"=some (some (.ref f33))) (Lv:findIn K (.ref HZ) "lines"=some (some (.ref f34))) (a35:nsIn K mainGlobals "refuse_no_move"=some (some (.ref f35))) (a36:nsIn K mainGlobals "moved_cell"=some (some (.ref f36))) (a37:nsIn K mainGlobals "is_exchange"=some (some (.ref f37))) (a38:nsIn K mainGlobals "moved_line"=some (some (.ref f38))) (a39:nsIn K mainGlobals "has_reckoning"=some (some (.ref f39))) (a40:nsIn K mainGlobals "every_filling"=some (some (.ref f40))) (a41:nsIn K mainGlobals "form_line"=some (some (.ref f41))) (a42:nsIn K mainGlobals "refuse_many_signs"=some (some (.ref f42))) (a43:nsIn K mainGlobals "_law_line"=some (some (.ref f43))) (a44:nsIn K mainGlobals "_law_filling"=some (some (.ref f44))) (a45:nsIn K mainGlobals "_law_tiny_floor"=some (some (.ref f45))) (a46:nsIn K mainGlobals "floor_of"=some (some (.ref f46))) (a47:nsIn K mainGlobals "first_within"=some (some (.ref f47))) (a48:nsIn K mainGlobals "told_cells"=some (some (.ref f48))) (a49:nsIn K mainGlobals "rule_by"=some (some (.ref f49))) (a50:nsIn K mainGlobals "checked_clues"=some (some (.ref f50))) (a51:nsIn K mainGlobals "moved_floor"=some (some (.ref f51))) (a52:nsIn K mainGlobals "moved_cells"=some (some (.ref f52))) (a53:nsIn K mainGlobals "exchange_by"=some (some (.ref f53))) (a54:nsIn K mainGlobals "form"=some (some (.ref f54))) (a55:nsIn K mainGlobals "exchanges"=some (some (.ref f55))) (a56:nsIn K mainGlobals "_law_form"=some (some (.ref f56))) (a57:nsIn K mainGlobals "_law_lists"=some (some (.ref f57))) (a58:nsIn K mainGlobals "cells_of"=some (some (.ref f58))) (a59:nsIn K mainGlobals "checked_floor"=some (some (.ref f59))) (a60:nsIn K mainGlobals "moved_filling"=some (some (.ref f60))) (a61:nsIn K mainGlobals "moves_of"=some (some (.ref f61))) (a62:nsIn K mainGlobals "read_rule"=some (some (.ref f62))) (a63:nsIn K mainGlobals "read_rules"=some (some (.ref f63))) (Lw:findIn K (.ref HZ) "__init__"=some (some (.ref f64))) (a65:nsIn K mainGlobals "moved"=some (some (.ref f65))) (a66:nsIn K mainGlobals "_law_great_form"=some (some (.ref f66))) (a67:nsIn K mainGlobals "moved_form"=some (some (.ref f67))) (a68:nsIn K mainGlobals "_law_forms"=some (some (.ref f68))) (a69:nsIn K mainGlobals "_law_other"=some (some (.ref f69))) (a70:nsIn K mainGlobals "plain"=some (some (.ref f70))) (a71:nsIn K mainGlobals "alike"=some (some (.ref f71))) (a72:nsIn K mainGlobals "_law_refused"=some (some (.ref f72))) (a73:nsIn K mainGlobals "law"=some (some (.ref f73))) (F0:Fun K "is_whole" "is_whole" qq f0 fd0) (F1:Fun K "many_cells" "many_cells" nU f1 fd1) (F2:Fun K "spot_of" "spot_of" rC f2 fd2) (F3:Fun K "__init__" "Rule.__init__" kE f3 fd3) (fn3:isFn K (.ref f3)=true) (F4:Fun K "name" "Rule.name" oW f4 fd4) (fn4:isFn K (.ref f4)=true) (F5:Fun K "spots" "Rule.spots" nV f5 fd5) (fn5:isFn K (.ref f5)=true) (F6:Fun K "number" "Rule.number" l0 f6 fd6) (fn6:isFn K (.ref f6)=true) (F7:Fun K "sign" "Rule.sign" oX f7 fd7) (fn7:isFn K (.ref f7)=true) (F8:Fun K "line" "Rule.line" oY f8 fd8) (fn8:isFn K (.ref f8)=true) (F9:Fun K "reckons" "Rule.reckons" lf f9 fd9) (fn9:isFn K (.ref f9)=true) (F10:Fun K "reckons" "Sum.reckons" l5 f10 fd10) (fn10:isFn K (.ref f10)=true) (F11:Fun K "reckons" "Rising.reckons" jO f11 fd11) (fn11:isFn K (.ref f11)=true) (F12:Fun K "reckons" "Seen.reckons" lg f12 fd12) (fn12:isFn K (.ref f12)=true) (F13:Fun K "line_by" "line_by" rD f13 fd13) (F14:Fun K "number_in" "number_in" oZ f14 fd14) (F15:Fun K "place" "Puzzle.place" lh f15 fd15) (fn15:isFn K (.ref f15)=true) (F16:Fun K "clues" "Puzzle.clues" lj f16 fd16) (fn16:isFn K (.ref f16)=true) (F17:Fun K "rules" "Puzzle.rules" ll f17 fd17) (fn17:isFn K (.ref f17)=true) (F18:Fun K "turned_floor" "turned_floor" lm f18 fd18) (F19:Fun K "turned_spot" "turned_spot" l6 f19 fd19) (F20:Fun K "mirrored_spot" "mirrored_spot" kF f20 fd20) (F21:Fun K "unchanged_signs" "unchanged_signs" i3 f21 fd21) (F22:Fun K "exchanged" "exchanged" o4 f22 fd22) (F23:Fun K "with_each" "with_each" o5 f23 fd23) (F24:Fun K "_law_at" "_law_at" rF f24 fd24) (F25:Fun K "_law_stream" "_law_stream" l7 f25 fd25) (F26:Fun K "_law_order" "_law_order" nX f26 fd26) (F27:Fun K "_law_kept" "_law_kept" o6 f27 fd27) (F28:Fun K "_law_seen" "_law_seen" o7 f28 fd28) (F29:Fun K "_law_exchange" "_law_exchange" kG f29 fd29) (F30:Fun K "_law_row" "_law_row" qr f30 fd30) (F31:Fun K "is_from_one_to" "is_from_one_to" jP f31 fd31) (F32:Fun K "number_within" "number_within" kH f32 fd32) (F33:Fun K "is_filling" "is_filling" nY f33 fd33) (F34:Fun K "lines" "Puzzle.lines" lq f34 fd34) (fn34:isFn K (.ref f34)=true) (F35:Fun K "refuse_no_move" "refuse_no_move" jQ f35 fd35) (F36:Fun K "moved_cell" "moved_cell" og f36 fd36) (F37:Fun K "is_exchange" "is_exchange" l8 f37 fd37) (F38:Fun K "moved_line" "moved_line" oh f38 fd38) (F39:Fun K "has_reckoning" "has_reckoning" kI f39 fd39) (F40:Fun K "every_filling" "every_filling" kJ f40 fd40) (F41:Fun K "form_line" "form_line" o8 f41 fd41) (F42:Fun K "refuse_many_signs" "refuse_many_signs" gI f42 fd42) (F43:Fun K "_law_line" "_law_line" o9 f43 fd43) (F44:Fun K "_law_filling" "_law_filling" lu f44 fd44) (F45:Fun K "_law_tiny_floor" "_law_tiny_floor" i4 f45 fd45) (F46:Fun K "floor_of" "floor_of" qu f46 fd46) (F47:Fun K "first_within" "first_within" lw f47 fd47) (F48:Fun K "told_cells" "told_cells" oi f48 fd48) (F49:Fun K "rule_by" "rule_by" rH f49 fd49) (F50:Fun K "checked_clues" "checked_clues" kK f50 fd50) (F51:Fun K "moved_floor" "moved_floor" l9 f51 fd51) (F52:Fun K "moved_cells" "moved_cells" md f52 fd52) (F53:Fun K "exchange_by" "exchange_by" me f53 fd53) (F54:Fun K "form" "form" zn f54 fd54) (F55:Fun K "exchanges" "exchanges" pc f55 fd55) (F56:Fun K "_law_form" "_law_form" pd f56 fd56) (F57:Fun K "_law_lists" "_law_lists" oj f57 fd57) (F58:Fun K "cells_of" "cells_of" qv f58 fd58) (F59:Fun K "checked_floor" "checked_floor" kL f59 fd59) (F60:FunD K "moved_filling" "moved_filling" kM f60 fd60 [Value.none]) (F61:Fun K "moves_of" "moves_of" qw f61 fd61) (F62:Fun K "read_rule" "read_rule" pf f62 fd62) (F63:Fun K "read_rules" "read_rules" on f63 fd63) (F64:Fun K "__init__" "Puzzle.__init__" i5 f64 fd64) (fn64:isFn K (.ref f64)=true) (F65:FunD K "moved" "moved" wq f65 fd65 [Value.none]) (F66:Fun K "_law_great_form" "_law_great_form" i6 f66 fd66) (F67:Fun K "moved_form" "moved_form" oo f67 fd67) (F68:Fun K "_law_forms" "_law_forms" oq f68 fd68) (F69:Fun K "_law_other" "_law_other" or f69 fd69) (F70:Fun K "plain" "plain" wt f70 fd70) (F71:Fun K "alike" "alike" wu f71 fd71) (F72:Fun K "_law_refused" "_law_refused" lx f72 fd72) (F73:Fun K "law" "law" sj f73 fd73) (Lx:PySem.W.makesIn K HU=true) (Ly:keepIn K (.ref HU)=true) (Lz:PySem.W.plainGet K HU Str.empty=true) (LA:PySem.W.hasDictIn K HU=true) (LB:PySem.W.plainOver K HU=true) (LC:findIn K (.ref HU) "__setattr__"=some (some (.builtin "object.__setattr__"))) (NI:PySem.W.makesIn K Ie=true) (NJ:keepIn K (.ref Ie)=true) (NK:PySem.W.plainGet K Ie Str.empty=true) (NL:PySem.W.hasDictIn K Ie=true) (NM:PySem.W.plainOver K Ie=true) (NN:findIn K (.ref Ie) "__setattr__"=some (some (.builtin "object.__setattr__"))) (LD:PySem.W.makesIn K HV=true) (LE:keepIn K (.ref HV)=true) (LF:PySem.W.plainGet K HV Str.empty=true) (LG:PySem.W.hasDictIn K HV=true) (LH:PySem.W.plainOver K HV=true) (LI:findIn K (.ref HV) "__setattr__"=some (some (.builtin "object.__setattr__"))) (MQ:PySem.W.makesIn K Ib=true) (MR:keepIn K (.ref Ib)=true) (MS:PySem.W.plainGet K Ib Str.empty=true) (MT:PySem.W.hasDictIn K Ib=true) (MU:PySem.W.plainOver K Ib=true) (MV:findIn K (.ref Ib) "__setattr__"=some (some (.builtin "object.__setattr__"))) (Ms:PySem.W.makesIn K HY=true) (Mt:keepIn K (.ref HY)=true) (Mu:PySem.W.plainGet K HY Str.empty=true) (Mw:PySem.W.hasDictIn K HY=true) (Mx:PySem.W.plainOver K HY=true) (My:findIn K (.ref HY) "__setattr__"=some (some (.builtin "object.__setattr__"))) (LJ:PySem.W.makesIn K HW=true) (LK:keepIn K (.ref HW)=true) (LM:PySem.W.plainGet K HW Str.empty=true) (LN:PySem.W.hasDictIn K HW=true) (LO:PySem.W.plainOver K HW=true) (LP:findIn K (.ref HW) "__setattr__"=some (some (.builtin "object.__setattr__"))) (KM:PySem.W.makesIn K HQ=true) (KN:keepIn K (.ref HQ)=true) (KO:PySem.W.plainGet K HQ Str.empty=true) (KP:PySem.W.hasDictIn K HQ=true) (KQ:PySem.W.plainOver K HQ=true) (KR:findIn K (.ref HQ) "__setattr__"=some (some (.builtin "object.__setattr__"))) (MW:PySem.W.makesIn K Ic=true) (MX:keepIn K (.ref Ic)=true) (MY:PySem.W.plainGet K Ic Str.empty=true) (MZ:PySem.W.hasDictIn K Ic=true) (M0:PySem.W.plainOver K Ic=true) (M1:findIn K (.ref Ic) "__setattr__"=some (some (.builtin "object.__setattr__"))) (LQ:PySem.W.makesIn K HZ=true) (LR:keepIn K (.ref HZ)=true) (LS:PySem.W.plainGet K HZ Str.empty=true) (LU:PySem.W.hasDictIn K HZ=true) (LV:PySem.W.plainOver K HZ=true) (LW:findIn K (.ref HZ) "__setattr__"=some (some (.builtin "object.__setattr__"))) (Je:findIn K (.ref HU) "amount"=some none) (J0:findIn K (.ref Ie) "amount"=some none) (Jf:findIn K (.ref HV) "amount"=some none) (JD:findIn K (.ref Ib) "amount"=some none) (Jq:findIn K (.ref HY) "amount"=some none) (Jg:findIn K (.ref HW) "amount"=some none) (IR:findIn K (.ref HQ) "amount"=some none) (JE:findIn K (.ref Ic) "amount"=some none) (Jr:findIn K (.ref HU) "cells"=some none) (Kh:findIn K (.ref Ie) "cells"=some none) (Js:findIn K (.ref HV) "cells"=some none) (J1:findIn K (.ref Ib) "cells"=some none) (JF:findIn K (.ref HY) "cells"=some none) (Jt:findIn K (.ref HW) "cells"=some none) (IZ:findIn K (.ref HQ) "cells"=some none) (J2:findIn K (.ref Ic) "cells"=some none) (Ju:findIn K (.ref HU) "floor"=some none) (Ki:findIn K (.ref Ie) "floor"=some none) (Jv:findIn K (.ref HV) "floor"=some none) (J3:findIn K (.ref Ib) "floor"=some none) (JG:findIn K (.ref HY) "floor"=some none) (Jw:findIn K (.ref HW) "floor"=some none) (I0:findIn K (.ref HQ) "floor"=some none) (J4:findIn K (.ref Ic) "floor"=some none) (JH:findIn K (.ref HU) "mark"=some none) (Ks:findIn K (.ref Ie) "mark"=some none) (JI:findIn K (.ref HV) "mark"=some none) (Kj:findIn K (.ref Ib) "mark"=some none) (J5:findIn K (.ref HY) "mark"=some none) (JJ:findIn K (.ref HW) "mark"=some none) (Jh:findIn K (.ref HQ) "mark"=some none) (Kk:findIn K (.ref Ic) "mark"=some none) (Jx:findIn K (.ref HU) "words"=some none) (Kl:findIn K (.ref Ie) "words"=some none) (Jy:findIn K (.ref HV) "words"=some none) (J6:findIn K (.ref Ib) "words"=some none) (JK:findIn K (.ref HY) "words"=some none) (Jz:findIn K (.ref HW) "words"=some none) (Ja:findIn K (.ref HQ) "words"=some none) (J7:findIn K (.ref Ic) "words"=some none) (JA:findIn K (.ref HZ) "floor"=some none) (JB:findIn K (.ref HZ) "given"=some none) (JL:findIn K (.ref HZ) "laws"=some none) (JM:nsIn K mainGlobals "IN_ANY_ORDER"=some (some (.ref JY))) (JN:K.lookup JY=some ⟨.type "tuple",M5,.seq #[.str (tx [117,110,108,105,107,101]) M8,.str (tx [115,117,109]) M9,.str (tx [99,111,117,110,116]) Na] M6,M7⟩) (JO:nsIn K mainGlobals "OF_ALL_CELLS"=some (some (.ref JZ))) (JP:K.lookup JZ=some ⟨.type "tuple",Nd,.seq #[.str (tx [106,111,105,110,101,100]) Nh,.str (tx [110,111,115,113,117,97,114,101]) Ni,.str (tx [114,105,110,103]) Nj] Nf,Ng⟩) (J8:nsIn K mainGlobals "WITH_NUMBER"=some (some (.ref Kg))) (J9:K.lookup Kg=some ⟨.type "tuple",Nl,.seq #[.str (tx [115,117,109]) No,.str (tx [115,101,101,110]) Np,.str (tx [99,111,117,110,116]) Nq] Nm,Nn⟩) (Kt:nsIn K mainGlobals "WITH_SIGN"=some (some (.ref KK))) (Ku:K.lookup KK=some ⟨.type "tuple",NT,.seq #[.str (tx [99,111,117,110,116]) NW,.str (tx [106,111,105,110,101,100]) NX,.str (tx [110,111,115,113,117,97,114,101]) NY,.str (tx [114,105,110,103]) NZ] NU,NV⟩) (LX:nsIn K mainGlobals "FIGURES"=some (some (.str (tx [48,49,50,51,52,53,54,55,56,57]) tk_FIGURES))) (Kv:nsIn K mainGlobals "MANY_MOVES"=some (some (.int 8 tk_MANY_MOVES))) (Kw:nsIn K mainGlobals "MANY_TURNS"=some (some (.int 4 tk_MANY_TURNS))) (Kx:nsIn K mainGlobals "MOST_CELLS"=some (some (.int 16 tk_MOST_CELLS))) (Ka:nsIn K mainGlobals "MOST_FIGURES"=some (some (.int 9 tk_MOST_FIGURES))) (Km:nsIn K mainGlobals "MOST_NUMBER"=some (some (.int 99 tk_MOST_NUMBER))) (Ky:nsIn K mainGlobals "MOST_RULES"=some (some (.int 12 tk_MOST_RULES))) (KS:nsIn K mainGlobals "MOST_SIDE"=some (some (.int 6 tk_MOST_SIDE))) (Jb:nsIn K mainGlobals "MOST_SIGNS_alike"=some (some (.int 4 tk_MOST_SIGNS_alike))) (IS:nsIn K mainGlobals "MOST_SIGNS_floors"=some (some (.int 6 tk_MOST_SIGNS_floors))) (Oa:nsIn K mainGlobals "len"=some none) (Ob:nsIn K mainGlobals "abs"=some none) (Oc:nsIn K mainGlobals "min"=some none) (Od:nsIn K mainGlobals "max"=some none) (M3:nsIn K mainGlobals "sorted"=some none) (Oe:nsIn K mainGlobals "any"=some none) (KU:nsIn K mainGlobals "isinstance"=some none) (N8:nsIn K mainGlobals "list"=some none) (Of:nsIn K mainGlobals "int"=some none) (N9:nsIn K mainGlobals "bool"=some none) (Og:nsIn K mainGlobals "str"=some none) (NO:nsIn K mainGlobals "tuple"=some none) (LY:nsIn K mainGlobals "reversed"=some none) (Oh:nsIn K mainGlobals "set"=some none) (NP:nsIn K mainGlobals "range"=some none) (Oi:nsIn K mainGlobals "zip"=some none) (Oj:nsIn K mainGlobals "all"=some none) (Ol:nsIn K mainGlobals "sum"=some none) (Lc:nsIn K mainGlobals "enumerate"=some none) (Ld:nsIn K mainGlobals "ClueError"=some (some (.ref x_ClueError))) (Mz:nsIn K mainGlobals "NoFloor"=some (some (.ref x_NoFloor))) (M4:nsIn K mainGlobals "NoRule"=some (some (.ref x_NoRule))) (LZ:nsIn K mainGlobals "NoPuzzle"=some (some (.ref x_NoPuzzle))) (KY:nsIn K mainGlobals "TooMany"=some (some (.ref x_TooMany))) (L0:nsIn K mainGlobals "NoMove"=some (some (.ref x_NoMove))) (KW:nsIn K mainGlobals "ValueError"=some none) (D1:K.lookup x_ClueError=some ⟨cC0,dD,.cls cdD,slD⟩) (D2:cdD.ns=ND) (D3:K.lookup ND=some ⟨cE,dE,.dict esE nE,sE⟩) (D4:mH esE=true) (r1_TooMany:K.lookup x_TooMany=some (excClassObj nm_TooMany Om x_TooMany N_TooMany bs_TooMany (.ref x_ClueError::VE) hd_TooMany sn_TooMany sub_TooMany ab_TooMany col_TooMany dd_TooMany k0_TooMany k1_TooMany k2_TooMany k3_TooMany k5_TooMany "ValueError.__new__")) (r2_TooMany:K.lookup N_TooMany=some ⟨cN_TooMany,dN_TooMany,.dict es_TooMany n_TooMany,sN_TooMany⟩) (r3_TooMany:mH es_TooMany=true) (f1_TooMany:findIn K (.ref x_TooMany) "__getattribute__"=some (some (.builtin "BaseException.__getattribute__"))) (f2_TooMany:findIn K (.ref x_TooMany) "__getattr__"=some none) (f3_TooMany:findIn K (.ref x_TooMany) "__class__"=some (some (.builtin "object.__class__"))) (f4_TooMany:PySem.W.mroIn K x_TooMany (.type "object")=some true) (f5_TooMany:PySem.W.mroIn K x_TooMany (.type "BaseException")=some true) (f6_TooMany:PySem.W.kitOne K (.ref x_TooMany) (.type "ValueError")=some true) (f7_TooMany:PySem.W.exmOne K (.ref x_TooMany) (.ref x_ClueError)=some true) (g_TooMany_NoMove:PySem.W.kitOne K (.ref x_TooMany) (.ref x_NoMove)=some false) (g_TooMany_NoPuzzle:PySem.W.kitOne K (.ref x_TooMany) (.ref x_NoPuzzle)=some false) (r1_NoMove:K.lookup x_NoMove=some (excClassObj nm_NoMove On x_NoMove N_NoMove bs_NoMove (.ref x_ClueError::VE) hd_NoMove sn_NoMove sub_NoMove ab_NoMove col_NoMove dd_NoMove k0_NoMove k1_NoMove k2_NoMove k3_NoMove k5_NoMove "ValueError.__new__")) (r2_NoMove:K.lookup N_NoMove=some ⟨cN_NoMove,dN_NoMove,.dict es_NoMove n_NoMove,sN_NoMove⟩) (r3_NoMove:mH es_NoMove=true) (f1_NoMove:findIn K (.ref x_NoMove) "__getattribute__"=some (some (.builtin "BaseException.__getattribute__"))) (f2_NoMove:findIn K (.ref x_NoMove) "__getattr__"=some none) (f3_NoMove:findIn K (.ref x_NoMove) "__class__"=some (some (.builtin "object.__class__"))) (f4_NoMove:PySem.W.mroIn K x_NoMove (.type "object")=some true) (f5_NoMove:PySem.W.mroIn K x_NoMove (.type "BaseException")=some true) (f6_NoMove:PySem.W.kitOne K (.ref x_NoMove) (.type "ValueError")=some true) (f7_NoMove:PySem.W.exmOne K (.ref x_NoMove) (.ref x_ClueError)=some true):
  ∃ fd:FuncData,(∀(s:Shared) (v:Value),BindsTo s fd ⟨[v],[]⟩ [("_law_script",v)])/\∀ base:Heap,K.In base->base.Ns mainGlobals mg->FnOk l.prog w K mg base CX0 13 fa fd ["_law_script"] (wd K):=by
 have e:=hfa.symm.trans (OJ X G a73);cases e;have B:Bt2 mg:=⟨⟨Pi X G Oa,Pi X G Ob,Pi X G Oc,Pi X G Od,Pi X G M3,Pi X G Oe,Pi X G KU,Pi X G N8,Pi X G Of,Pi X G N9,Pi X G Og,Pi X G NO,Pi X G LY,Pi X G Oh,Pi X G NP,Pi X G Oi⟩,Pi X G Oj,Pi X G Ol,Pi X G Lc⟩;obtain⟨oc,od,kV,doc,pm,an,Oy,ct,osl,rfl,lk,hcd⟩:=F73.ex;refine⟨fnOf "law" "law" (be sj) (aV sj) (ai sj) .none kV doc pm an Oy ct,λs v=>.of_eq rfl,λbase _ _=>?_⟩;let c:RCl RK:=mkC HU Ie HV Ib HY HW HQ Ic;let d:RCl PzK:=mkD HZ;have L4:=OJ X G LX;have IL:=OJ X G Kv;have IB:=OJ X G Kw;have KB:=OJ X G Kx;have Kb:=OJ X G Ka;have Kr:=OJ X G Km;have KG:=OJ X G Ky;have Kn:=OJ X G KS;have Jd:=OJ X G Jb;have IY:=OJ X G IS;let a:EA:=(⟨x_ClueError,x_NoFloor,x_ClueError,x_NoRule,x_NoPuzzle,x_TooMany,x_ClueError,x_NoMove,x_ClueError,x_ClueError,x_ClueError,x_ClueError⟩:EA);have EM:ErrMx mg a:=⟨OJ X G Ld,OJ X G Mz,OJ X G M4,OJ X G LZ,OJ X G KY,OJ X G L0⟩;have BV:=Pi X G KW;have R_TooMany:gY K a "TooMany" a.TooMany (qZ a):=⟨KY,DU r1_TooMany r2_TooMany r3_TooMany D1 D2 D3 D4,⟨f1_TooMany,f2_TooMany,f3_TooMany,f4_TooMany,f5_TooMany⟩,f6_TooMany,f7_TooMany,(List.forall_mem_cons.mpr ⟨g_TooMany_NoMove,(List.forall_mem_cons.mpr ⟨g_TooMany_NoPuzzle,(λ_ z=>nomatch z)⟩)⟩)⟩;have R_NoMove:gY K a "NoMove" a.NoMove (sd a):=⟨L0,DU r1_NoMove r2_NoMove r3_NoMove D1 D2 D3 D4,⟨f1_NoMove,f2_NoMove,f3_NoMove,f4_NoMove,f5_NoMove⟩,f6_NoMove,f7_NoMove,(λ_ z=>nomatch z)⟩;have Im:Cls K HU:=⟨Lz,LA,LB,LC⟩;have IQ:Cls K Ie:=⟨NK,NL,NM,NN⟩;have Io:Cls K HV:=⟨LF,LG,LH,LI⟩;have ID:Cls K Ib:=⟨MS,MT,MU,MV⟩;have Iv:Cls K HY:=⟨Mu,Mw,Mx,My⟩;have Ip:Cls K HW:=⟨LM,LN,LO,LP⟩;have Ig:Cls K HQ:=⟨KO,KP,KQ,KR⟩;have IE:Cls K Ic:=⟨MY,MZ,M0,M1⟩;have IT:Cls K HZ:=⟨LS,LU,LV,LW⟩;have IU:FldK K c "amount":=⟨λi hi=>by cases i with | Rule=>exact(OI hi).elim | Unlike=>exact⟨Im,Je⟩ | Sum=>exact⟨IQ,J0⟩ | Rising=>exact⟨Io,Jf⟩ | Seen=>exact⟨ID,JD⟩ | Count=>exact⟨Iv,Jq⟩ | Joined=>exact⟨Ip,Jg⟩ | NoSquare=>exact⟨Ig,IR⟩ | Ring=>exact⟨IE,JE⟩⟩;have Ji:FldK K c "cells":=⟨λi hi=>by cases i with | Rule=>exact(OI hi).elim | Unlike=>exact⟨Im,Jr⟩ | Sum=>exact⟨IQ,Kh⟩ | Rising=>exact⟨Io,Js⟩ | Seen=>exact⟨ID,J1⟩ | Count=>exact⟨Iv,JF⟩ | Joined=>exact⟨Ip,Jt⟩ | NoSquare=>exact⟨Ig,IZ⟩ | Ring=>exact⟨IE,J2⟩⟩;have Lh:FldK K c "floor":=⟨λi hi=>by cases i with | Rule=>exact(OI hi).elim | Unlike=>exact⟨Im,Ju⟩ | Sum=>exact⟨IQ,Ki⟩ | Rising=>exact⟨Io,Jv⟩ | Seen=>exact⟨ID,J3⟩ | Count=>exact⟨Iv,JG⟩ | Joined=>exact⟨Ip,Jw⟩ | NoSquare=>exact⟨Ig,I0⟩ | Ring=>exact⟨IE,J4⟩⟩;have JQ:FldK K c "mark":=⟨λi hi=>by cases i with | Rule=>exact(OI hi).elim | Unlike=>exact⟨Im,JH⟩ | Sum=>exact⟨IQ,Ks⟩ | Rising=>exact⟨Io,JI⟩ | Seen=>exact⟨ID,Kj⟩ | Count=>exact⟨Iv,J5⟩ | Joined=>exact⟨Ip,JJ⟩ | NoSquare=>exact⟨Ig,Jh⟩ | Ring=>exact⟨IE,Kk⟩⟩;have Ix:FldK K c "words":=⟨λi hi=>by cases i with | Rule=>exact(OI hi).elim | Unlike=>exact⟨Im,Jx⟩ | Sum=>exact⟨IQ,Kl⟩ | Rising=>exact⟨Io,Jy⟩ | Seen=>exact⟨ID,J6⟩ | Count=>exact⟨Iv,JK⟩ | Joined=>exact⟨Ip,Jz⟩ | NoSquare=>exact⟨Ig,Ja⟩ | Ring=>exact⟨IE,J7⟩⟩;have II:FldK K d "floor":=⟨λi hi=>by cases i;exact⟨IT,JA⟩⟩;have Jj:FldK K d "given":=⟨λi hi=>by cases i;exact⟨IT,JB⟩⟩;have IJ:FldK K d "laws":=⟨λi hi=>by cases i;exact⟨IT,JL⟩⟩;have Ke:GTup K mg "IN_ANY_ORDER" gO:=⟨JY,_,_,_,OJ X G JM,JN,rfl,rfl,PD (aE (by show(3:Nat)<=1000;decide)),(.cons ⟨_,rfl⟩ (.cons ⟨_,rfl⟩ (.cons ⟨_,rfl⟩ .nil)))⟩;have Iy:GTup K mg "OF_ALL_CELLS" cy:=⟨JZ,_,_,_,OJ X G JO,JP,rfl,rfl,PD (aE (by show(3:Nat)<=1000;decide)),(.cons ⟨_,rfl⟩ (.cons ⟨_,rfl⟩ (.cons ⟨_,rfl⟩ .nil)))⟩;have IF:GTup K mg "WITH_NUMBER" cT:=⟨Kg,_,_,_,OJ X G J8,J9,rfl,rfl,PD (aE (by show(3:Nat)<=1000;decide)),(.cons ⟨_,rfl⟩ (.cons ⟨_,rfl⟩ (.cons ⟨_,rfl⟩ .nil)))⟩;have IV:GTup K mg "WITH_SIGN" cZ:=⟨KK,_,_,_,OJ X G Kt,Ku,rfl,rfl,PD (aE (by show(4:Nat)<=1000;decide)),(.cons ⟨_,rfl⟩ (.cons ⟨_,rfl⟩ (.cons ⟨_,rfl⟩ (.cons ⟨_,rfl⟩ .nil))))⟩;have Ii:Cal l.prog w K mg base _ _ _ (bx K):=iY (zP B F0) F0 (OJ X G a0);have HX:Cal l.prog w K mg base _ _ _ (ba K):=iY (xu B F1) F1 (OJ X G a1);have L6:Cal l.prog w K mg base _ _ _ (j9 K):=ij (A5 B F2) F2 (OJ X G a2);have bd3:Binds K fd3 ["self","floor","words","cells","amount","mark"] []:=GE F3;have T3:FnOk l.prog w K mg base CX0 1 f3 fd3 _ (aq K c):=t0 (c:=c) B IU Ji Lh JQ Ix F3;have MC:KCal l.prog w K mg base _ "Unlike" (c.A .Unlike) _ (aq K c):=⟨f3,_,⟨Lx,Ln,fn3,Ly⟩,T3,OJ X G MD,bd3⟩;have K_Sum:KCal l.prog w K mg base _ "Sum" (c.A .Sum) _ (aq K c):=⟨f3,_,⟨NI,Nt,fn3,NJ⟩,T3,OJ X G q_Sum,bd3⟩;have MB:KCal l.prog w K mg base _ "Rising" (c.A .Rising) _ (aq K c):=⟨f3,_,⟨LD,Lo,fn3,LE⟩,T3,OJ X G ME,bd3⟩;have NS:KCal l.prog w K mg base _ "Seen" (c.A .Seen) _ (aq K c):=⟨f3,_,⟨MQ,MH,fn3,MR⟩,T3,OJ X G N0,bd3⟩;have Nk:KCal l.prog w K mg base _ "Count" (c.A .Count) _ (aq K c):=⟨f3,_,⟨Ms,L9,fn3,Mt⟩,T3,OJ X G Nr,bd3⟩;have MA:KCal l.prog w K mg base _ "Joined" (c.A .Joined) _ (aq K c):=⟨f3,_,⟨LJ,Lp,fn3,LK⟩,T3,OJ X G MF,bd3⟩;have Li:KCal l.prog w K mg base _ "NoSquare" (c.A .NoSquare) _ (aq K c):=⟨f3,_,⟨KM,KL,fn3,KN⟩,T3,OJ X G Lm,bd3⟩;have NR:KCal l.prog w K mg base _ "Ring" (c.A .Ring) _ (aq K c):=⟨f3,_,⟨MW,MI,fn3,MX⟩,T3,OJ X G N1,bd3⟩;have bd4:Binds K fd4 ["self"] []:=gb F4;have T4:FnOk l.prog w K mg base CX0 1 f4 fd4 _ (mY K c):=za (c:=c) B Ix F4;have Le:MCal l.prog w K mg base c c.ok 1 "name" ["self"] (mJ K c):=⟨λi hi=>by cases i with | Rule=>exact(OI hi).elim | Unlike=>exact⟨f4,_,Im,⟨Ma,fn4,F4.kp⟩,(T4.mono (by decide)).imp (λ_ _ _ _ h=>⟨_,h⟩),bd4⟩ | Sum=>exact⟨f4,_,IQ,⟨N3,fn4,F4.kp⟩,(T4.mono (by decide)).imp (λ_ _ _ _ h=>⟨_,h⟩),bd4⟩ | Rising=>exact⟨f4,_,Io,⟨Mb,fn4,F4.kp⟩,(T4.mono (by decide)).imp (λ_ _ _ _ h=>⟨_,h⟩),bd4⟩ | Seen=>exact⟨f4,_,ID,⟨Nu,fn4,F4.kp⟩,(T4.mono (by decide)).imp (λ_ _ _ _ h=>⟨_,h⟩),bd4⟩ | Count=>exact⟨f4,_,Iv,⟨MJ,fn4,F4.kp⟩,(T4.mono (by decide)).imp (λ_ _ _ _ h=>⟨_,h⟩),bd4⟩ | Joined=>exact⟨f4,_,Ip,⟨Mc,fn4,F4.kp⟩,(T4.mono (by decide)).imp (λ_ _ _ _ h=>⟨_,h⟩),bd4⟩ | NoSquare=>exact⟨f4,_,Ig,⟨K6,fn4,F4.kp⟩,(T4.mono (by decide)).imp (λ_ _ _ _ h=>⟨_,h⟩),bd4⟩ | Ring=>exact⟨f4,_,IE,⟨Nv,fn4,F4.kp⟩,(T4.mono (by decide)).imp (λ_ _ _ _ h=>⟨_,h⟩),bd4⟩⟩;have bd5:Binds K fd5 ["self"] []:=gb F5;have T5:FnOk l.prog w K mg base CX0 1 f5 fd5 _ (lO K c):=xv (c:=c) B Ji F5;have Kd:MCal l.prog w K mg base c c.ok 1 "spots" ["self"] (jA K c):=⟨λi hi=>by cases i with | Rule=>exact(OI hi).elim | Unlike=>exact⟨f5,_,Im,⟨Md,fn5,F5.kp⟩,(T5.mono (by decide)).imp (λ_ _ _ _ h=>⟨_,h⟩),bd5⟩ | Sum=>exact⟨f5,_,IQ,⟨N4,fn5,F5.kp⟩,(T5.mono (by decide)).imp (λ_ _ _ _ h=>⟨_,h⟩),bd5⟩ | Rising=>exact⟨f5,_,Io,⟨Me,fn5,F5.kp⟩,(T5.mono (by decide)).imp (λ_ _ _ _ h=>⟨_,h⟩),bd5⟩ | Seen=>exact⟨f5,_,ID,⟨Nw,fn5,F5.kp⟩,(T5.mono (by decide)).imp (λ_ _ _ _ h=>⟨_,h⟩),bd5⟩ | Count=>exact⟨f5,_,Iv,⟨MK,fn5,F5.kp⟩,(T5.mono (by decide)).imp (λ_ _ _ _ h=>⟨_,h⟩),bd5⟩ | Joined=>exact⟨f5,_,Ip,⟨Mf,fn5,F5.kp⟩,(T5.mono (by decide)).imp (λ_ _ _ _ h=>⟨_,h⟩),bd5⟩ | NoSquare=>exact⟨f5,_,Ig,⟨K7,fn5,F5.kp⟩,(T5.mono (by decide)).imp (λ_ _ _ _ h=>⟨_,h⟩),bd5⟩ | Ring=>exact⟨f5,_,IE,⟨Ny,fn5,F5.kp⟩,(T5.mono (by decide)).imp (λ_ _ _ _ h=>⟨_,h⟩),bd5⟩⟩;have bd6:Binds K fd6 ["self"] []:=gb F6;have T6:FnOk l.prog w K mg base CX0 1 f6 fd6 _ (kY K c):=we (c:=c) B IU F6;have Kc:MCal l.prog w K mg base c c.ok 1 "number" ["self"] (jW K c):=⟨λi hi=>by cases i with | Rule=>exact(OI hi).elim | Unlike=>exact⟨f6,_,Im,⟨Mg,fn6,F6.kp⟩,(T6.mono (by decide)).imp (λ_ _ _ _ h=>⟨_,h⟩),bd6⟩ | Sum=>exact⟨f6,_,IQ,⟨N5,fn6,F6.kp⟩,(T6.mono (by decide)).imp (λ_ _ _ _ h=>⟨_,h⟩),bd6⟩ | Rising=>exact⟨f6,_,Io,⟨Mh,fn6,F6.kp⟩,(T6.mono (by decide)).imp (λ_ _ _ _ h=>⟨_,h⟩),bd6⟩ | Seen=>exact⟨f6,_,ID,⟨Nz,fn6,F6.kp⟩,(T6.mono (by decide)).imp (λ_ _ _ _ h=>⟨_,h⟩),bd6⟩ | Count=>exact⟨f6,_,Iv,⟨ML,fn6,F6.kp⟩,(T6.mono (by decide)).imp (λ_ _ _ _ h=>⟨_,h⟩),bd6⟩ | Joined=>exact⟨f6,_,Ip,⟨Mi,fn6,F6.kp⟩,(T6.mono (by decide)).imp (λ_ _ _ _ h=>⟨_,h⟩),bd6⟩ | NoSquare=>exact⟨f6,_,Ig,⟨K8,fn6,F6.kp⟩,(T6.mono (by decide)).imp (λ_ _ _ _ h=>⟨_,h⟩),bd6⟩ | Ring=>exact⟨f6,_,IE,⟨NA,fn6,F6.kp⟩,(T6.mono (by decide)).imp (λ_ _ _ _ h=>⟨_,h⟩),bd6⟩⟩;have bd7:Binds K fd7 ["self"] []:=gb F7;have T7:FnOk l.prog w K mg base CX0 1 f7 fd7 _ (m5 K c):=zc (c:=c) B JQ F7;have Lf:MCal l.prog w K mg base c c.ok 1 "sign" ["self"] (mK K c):=⟨λi hi=>by cases i with | Rule=>exact(OI hi).elim | Unlike=>exact⟨f7,_,Im,⟨Mj,fn7,F7.kp⟩,(T7.mono (by decide)).imp (λ_ _ _ _ h=>⟨_,h⟩),bd7⟩ | Sum=>exact⟨f7,_,IQ,⟨N6,fn7,F7.kp⟩,(T7.mono (by decide)).imp (λ_ _ _ _ h=>⟨_,h⟩),bd7⟩ | Rising=>exact⟨f7,_,Io,⟨Ml,fn7,F7.kp⟩,(T7.mono (by decide)).imp (λ_ _ _ _ h=>⟨_,h⟩),bd7⟩ | Seen=>exact⟨f7,_,ID,⟨NB,fn7,F7.kp⟩,(T7.mono (by decide)).imp (λ_ _ _ _ h=>⟨_,h⟩),bd7⟩ | Count=>exact⟨f7,_,Iv,⟨MM,fn7,F7.kp⟩,(T7.mono (by decide)).imp (λ_ _ _ _ h=>⟨_,h⟩),bd7⟩ | Joined=>exact⟨f7,_,Ip,⟨Mm,fn7,F7.kp⟩,(T7.mono (by decide)).imp (λ_ _ _ _ h=>⟨_,h⟩),bd7⟩ | NoSquare=>exact⟨f7,_,Ig,⟨K9,fn7,F7.kp⟩,(T7.mono (by decide)).imp (λ_ _ _ _ h=>⟨_,h⟩),bd7⟩ | Ring=>exact⟨f7,_,IE,⟨NC,fn7,F7.kp⟩,(T7.mono (by decide)).imp (λ_ _ _ _ h=>⟨_,h⟩),bd7⟩⟩;have bd8:Binds K fd8 ["self"] []:=gb F8;have T8:FnOk l.prog w K mg base CX0 1 f8 fd8 _ (m7 K c):=zd (c:=c) B Ix F8;have NQ:MCal l.prog w K mg base c c.ok 1 "line" ["self"] (pH K c):=⟨λi hi=>by cases i with | Rule=>exact(OI hi).elim | Unlike=>exact⟨f8,_,Im,⟨Mn,fn8,F8.kp⟩,(T8.mono (by decide)).imp (λ_ _ _ _ h=>⟨_,h⟩),bd8⟩ | Sum=>exact⟨f8,_,IQ,⟨N7,fn8,F8.kp⟩,(T8.mono (by decide)).imp (λ_ _ _ _ h=>⟨_,h⟩),bd8⟩ | Rising=>exact⟨f8,_,Io,⟨Mo,fn8,F8.kp⟩,(T8.mono (by decide)).imp (λ_ _ _ _ h=>⟨_,h⟩),bd8⟩ | Seen=>exact⟨f8,_,ID,⟨NE,fn8,F8.kp⟩,(T8.mono (by decide)).imp (λ_ _ _ _ h=>⟨_,h⟩),bd8⟩ | Count=>exact⟨f8,_,Iv,⟨MN,fn8,F8.kp⟩,(T8.mono (by decide)).imp (λ_ _ _ _ h=>⟨_,h⟩),bd8⟩ | Joined=>exact⟨f8,_,Ip,⟨Mp,fn8,F8.kp⟩,(T8.mono (by decide)).imp (λ_ _ _ _ h=>⟨_,h⟩),bd8⟩ | NoSquare=>exact⟨f8,_,Ig,⟨La,fn8,F8.kp⟩,(T8.mono (by decide)).imp (λ_ _ _ _ h=>⟨_,h⟩),bd8⟩ | Ring=>exact⟨f8,_,IE,⟨NF,fn8,F8.kp⟩,(T8.mono (by decide)).imp (λ_ _ _ _ h=>⟨_,h⟩),bd8⟩⟩;have bd9:Binds K fd9 ["self"] []:=gb F9;have T9:FnOk l.prog w K mg base CX0 1 f9 fd9 _ (kf K c):=u7 (c:=c) B F9;have Oo:Binds K fd10 ["self"] []:=gb F10;have T10:FnOk l.prog w K mg base CX0 1 f10 fd10 _ (la K c):=wf (c:=c) B F10;have Op:Binds K fd11 ["self"] []:=gb F11;have T11:FnOk l.prog w K mg base CX0 1 f11 fd11 _ (iZ K c):=sF (c:=c) B F11;have Oq:Binds K fd12 ["self"] []:=gb F12;have T12:FnOk l.prog w K mg base CX0 1 f12 fd12 _ (kB K c):=u8 (c:=c) B F12;have L7:MCal l.prog w K mg base c c.ok 1 "reckons" ["self"] (fY K c):=⟨λi hi=>by cases i with | Rule=>exact(OI hi).elim | Unlike=>exact⟨f9,_,Im,⟨Mq,fn9,F9.kp⟩,(T9.mono (by decide)).imp (λvs H Q E h=>⟨.Unlike,rfl,h⟩),bd9⟩ | Sum=>exact⟨f10,_,IQ,⟨NH,fn10,F10.kp⟩,(T10.mono (by decide)).imp (λvs H Q E h=>h),Oo⟩ | Rising=>exact⟨f11,_,Io,⟨Lq,fn11,F11.kp⟩,(T11.mono (by decide)).imp (λvs H Q E h=>h),Op⟩ | Seen=>exact⟨f12,_,ID,⟨MP,fn12,F12.kp⟩,(T12.mono (by decide)).imp (λvs H Q E h=>h),Oq⟩ | Count=>exact⟨f9,_,Iv,⟨MO,fn9,F9.kp⟩,(T9.mono (by decide)).imp (λvs H Q E h=>⟨.Count,rfl,h⟩),bd9⟩ | Joined=>exact⟨f9,_,Ip,⟨Mr,fn9,F9.kp⟩,(T9.mono (by decide)).imp (λvs H Q E h=>⟨.Joined,rfl,h⟩),bd9⟩ | NoSquare=>exact⟨f9,_,Ig,⟨Lb,fn9,F9.kp⟩,(T9.mono (by decide)).imp (λvs H Q E h=>⟨.NoSquare,rfl,h⟩),bd9⟩ | Ring=>exact⟨f9,_,IE,⟨NG,fn9,F9.kp⟩,(T9.mono (by decide)).imp (λvs H Q E h=>⟨.Ring,rfl,h⟩),bd9⟩⟩;have JR:Cal l.prog w K mg base _ _ _ (gc K):=GT (A6 B Iy IF IV F13) F13 (OJ X G a13);have KZ:Cal l.prog w K mg base _ _ _ (gZ K):=iY (ze B L4 Kb F14) F14 (OJ X G a14);have Os:Binds K fd15 ["self"] []:=gb F15;have T15:FnOk l.prog w K mg base CX0 1 f15 fd15 _ (km K c d):=u9 (c:=c) (d:=d) B II F15;have Ia:MCal l.prog w K mg base d d.ok 1 "place" ["self"] (bo K c d):=⟨λi hi=>by cases i;exact⟨f15,_,IT,⟨Lr,fn15,F15.kp⟩,(T15.mono (by decide)).imp (λvs H Q E h=>h),Os⟩⟩;have Ot:Binds K fd16 ["self"] []:=gb F16;have T16:FnOk l.prog w K mg base CX0 1 f16 fd16 _ (ko K c d):=va (c:=c) (d:=d) B Jj F16;have Ih:MCal l.prog w K mg base d d.ok 1 "clues" ["self"] (bS K c d):=⟨λi hi=>by cases i;exact⟨f16,_,IT,⟨Ls,fn16,F16.kp⟩,(T16.mono (by decide)).imp (λvs H Q E h=>h),Ot⟩⟩;have Ou:Binds K fd17 ["self"] []:=gb F17;have T17:FnOk l.prog w K mg base CX0 1 f17 fd17 _ (kr K c d):=vc (c:=c) (d:=d) B IJ F17;have IW:MCal l.prog w K mg base d d.ok 1 "rules" ["self"] (g9 K c d):=⟨λi hi=>by cases i;exact⟨f17,_,IT,⟨Lu,fn17,F17.kp⟩,(T17.mono (by decide)).imp (λvs H Q E h=>h),Ou⟩⟩;have Iz:Cal l.prog w K mg base _ _ _ (bT K):=iY (vd B F18) F18 (OJ X G a18);have Ko:Cal l.prog w K mg base _ _ _ (fO K):=ij (wg B F19) F19 (OJ X G a19);have JS:Cal l.prog w K mg base _ _ _ (db K):=ij (t4 B F20) F20 (OJ X G a20);have HR:Cal l.prog w K mg base _ _ _ (aP K):=iY (rE B F21) F21 (OJ X G a21);have IK:Cal l.prog w K mg base _ _ _ (dc K):=ij (zf B F22) F22 (OJ X G a22);have K0:Cal l.prog w K mg base _ _ _ (ip K):=ij (zg B F23) F23 (OJ X G a23);have HS:Cal l.prog w K mg base _ _ _ (aJ K):=ij (A7 B F24) F24 (OJ X G a24);have Kq:Cal l.prog w K mg base _ _ _ (fN K):=ij (wj B F25) F25 (OJ X G a25);have KA:Cal l.prog w K mg base _ _ _ (gu K):=ij (xw B F26) F26 (OJ X G a26);have K1:Cal l.prog w K mg base _ _ _ (hJ K):=nD (zh B F27) F27 (OJ X G a27);have K2:Cal l.prog w K mg base _ _ _ (h9 K):=ij (zj B F28) F28 (OJ X G a28);have JX:Cal l.prog w K mg base _ _ _ (de K):=ij (t5 B F29) F29 (OJ X G a29);have Jk:Cal l.prog w K mg base _ _ _ (bV K):=ij (zQ B F30) F30 (OJ X G a30);have IC:Cal l.prog w K mg base _ _ _ (bv K):=ij (sG B Ii F31) F31 (OJ X G a31);have Iw:Cal l.prog w K mg base _ _ _ (bB K):=nD (t6 B KZ F32) F32 (OJ X G a32);have KC:Cal l.prog w K mg base _ _ _ (gt K):=nD (xx B Ii HX F33) F33 (OJ X G a33);have Ov:Binds K fd34 ["self"] []:=gb F34;have T34:FnOk l.prog w K mg base CX0 2 f34 fd34 _ (kx K c d):=vf (c:=c) (d:=d) B IJ NQ F34;have IH:MCal l.prog w K mg base d d.ok 2 "lines" ["self"] (eQ K c d):=⟨λi hi=>by cases i;exact⟨f34,_,IT,⟨Lv,fn34,F34.kp⟩,(T34.mono (by decide)).imp (λvs H Q E h=>h),Ov⟩⟩;have Iu:bf l.prog w K mg base _ _ _ (bi K):=xM (sH B Ii IL EM R_TooMany R_NoMove F35) F35 (OJ X G a35);have KD:Cal l.prog w K mg base _ _ _ (gw K):=nD (xz B JS L6 Iz Ko IB F36) F36 (OJ X G a36);have IG:Cal l.prog w K mg base _ _ _ (cg K):=ij (wk B Ii HR F37) F37 (OJ X G a37);have JW:Cal l.prog w K mg base _ _ _ (gy K c):=nD (xC (c:=c) B IK JR Le Kc Lf Kd F38) F38 (OJ X G a38);have Ik:Cal l.prog w K mg base _ _ _ (bD K c d):=iY (t8 (c:=c) (d:=d) B L7 IW F39) F39 (OJ X G a39);have JT:Cal l.prog w K mg base _ _ _ (dg K):=iY (t9 B K0 F40) F40 (OJ X G a40);have K3:Cal l.prog w K mg base _ _ _ (il K c):=iY (zk (c:=c) B JR Le Kc Lf Kd Ke F41) F41 (OJ X G a41);have Id:bf l.prog w K mg base _ _ _ (aT K c d):=xM (qt (c:=c) (d:=d) B Jd Ia EM R_TooMany R_NoMove F42) F42 (OJ X G a42);have IX:Cal l.prog w K mg base _ _ _ (ck K):=nD (zm B K1 KA K2 Kq F43) F43 (OJ X G a43);have IA:Cal l.prog w K mg base _ _ _ (bw K):=nD (vg B HS F44) F44 (OJ X G a44);have Jp:Cal l.prog w K mg base _ _ _ (bK K):=iY (rG B HS F45) F45 (OJ X G a45);have Lj:Cal l.prog w K mg base _ _ _ (jo K):=nD (zR B IC KB Kn IY F46) F46 (OJ X G a46);have Jl:Cal l.prog w K mg base _ _ _ (bQ K):=nD (vh B Iw F47) F47 (OJ X G a47);have KF:Cal l.prog w K mg base _ _ _ (gl K):=ij (xD B HX Iw F48) F48 (OJ X G a48);have L8:Cal l.prog w K mg base _ _ _ (ki K c):=GU (A8 (c:=c) B Nk MA Li NR MB NS K_Sum MC F49) F49 (OJ X G a49);have JU:Cal l.prog w K mg base _ _ _ (c9 K):=ij (ua B KC F50) F50 (OJ X G a50);have JC:bf l.prog w K mg base _ _ _ (cU K):=se (wm B Iu Iz IB F51) F51 (OJ X G a51);have Ir:bf l.prog w K mg base _ _ _ (bI K):=se (wo B HX KD Iu F52) F52 (OJ X G a52);have Iq:bf l.prog w K mg base _ _ _ (bJ K):=se (wp B IG HR EM R_TooMany R_NoMove F53) F53 (OJ X G a53);have IM:Cal l.prog w K mg base _ _ _ (cV K c d):=iY (E5 (c:=c) (d:=d) B K3 Ih Ia IW F54) F54 (OJ X G a54);have K4:Cal l.prog w K mg base _ _ _ (fP K c d):=iY (zo (c:=c) (d:=d) B JT Ik IG HR Ia F55) F55 (OJ X G a55);have Ij:Cal l.prog w K mg base _ _ _ (bz K c d):=iY (zp (c:=c) (d:=d) B Jk Ih IH Ia F56) F56 (OJ X G a56);have IN:Cal l.prog w K mg base _ _ _ (cG K c d):=iY (xE (c:=c) (d:=d) B IH Ia F57) F57 (OJ X G a57);have Lk:Cal l.prog w K mg base _ _ _ (jn K):=nD (zS B HX KF Iy F58) F58 (OJ X G a58);have JV:Cal l.prog w K mg base _ _ _ (c8 K):=iY (ub B Lj F59) F59 (OJ X G a59);have Jc:bf l.prog w K mg base 4 "moved_filling" ["floor","filling","move","signs"] (bC K):=⟨f60,fd60,om B Iq IK HX Ir F60,OJ X G a60,F60.kp,F60.binds (ps:=["floor","filling","move","signs"]) λ_ _ _ _ _ _ _ us hl=>match us,hl with | [_,_,_,_],_=>⟨_,rfl,rfl⟩⟩;have CD_moved_filling:DW l.prog w K mg base 4 "moved_filling" ["floor","filling","move","signs"] (bC K) [Value.none]:=⟨f60,fd60,om B Iq IK HX Ir F60,OJ X G a60,F60.kp,FunD.bindsD (ps:=["floor","filling","move","signs"]) 3 rfl F60 λ_ _ _ _ _ _ _ us hl=>match us,hl with | [_,_,_],_=>⟨_,rfl,rfl⟩⟩;have Jn:Cal l.prog w K mg base _ _ _ (eY K c d):=iY (zT (c:=c) (d:=d) B K4 IL F61) F61 (OJ X G a61);have K5:Cal l.prog w K mg base _ _ _ (g7 K c):=ij (zq (c:=c) B Lk Jl L8 Kr IF IV F62) F62 (OJ X G a62);have KH:Cal l.prog w K mg base _ _ _ (gn K c):=ij (xF (c:=c) B K5 KG F63) F63 (OJ X G a63);have Ow:Binds K fd64 ["self","floor","lines","clues"] []:=DY F64;have T64:FnOk l.prog w K mg base CX0 7 f64 fd64 _ (aD K c d):=rJ (c:=c) (d:=d) B JU JV KH II Jj IJ F64;have Il:KCal l.prog w K mg base _ "Puzzle" (d.A .Puzzle) _ (aD K c d):=⟨f64,_,⟨LQ,Lw,fn64,LR⟩,T64,OJ X G MG,Ow⟩;have Jm:bf l.prog w K mg base 9 "moved" ["puzzle","move","signs"] (df K c d):=⟨f65,fd65,zr (c:=c) (d:=d) B Iq Ik Ir Jc JC JW HR Ih Ia IW Il EM R_TooMany R_NoMove F65,OJ X G a65,F65.kp,F65.binds (ps:=["puzzle","move","signs"]) λ_ _ _ _ _ _ _ us hl=>match us,hl with | [_,_,_],_=>⟨_,rfl,rfl⟩⟩;have CD_moved:DW l.prog w K mg base 9 "moved" ["puzzle","move","signs"] (df K c d) [Value.none]:=⟨f65,fd65,zr (c:=c) (d:=d) B Iq Ik Ir Jc JC JW HR Ih Ia IW Il EM R_TooMany R_NoMove F65,OJ X G a65,F65.kp,FunD.bindsD (ps:=["puzzle","move","signs"]) 2 rfl F65 λ_ _ _ _ _ _ _ us hl=>match us,hl with | [_,_],_=>⟨_,rfl,rfl⟩⟩;have Jo:Cal l.prog w K mg base _ _ _ (bL K c d):=iY (rK (c:=c) (d:=d) B HS IA Ij IX IM Ih IH Il F66) F66 (OJ X G a66);have IO:bf l.prog w K mg base _ _ _ (bU K c d):=se (xG (c:=c) (d:=d) B IM Jm F67) F67 (OJ X G a67);have KI:bf l.prog w K mg base _ _ _ (dB K c d):=xM (xH (c:=c) (d:=d) B Ij IN Jm F68) F68 (OJ X G a68);have KJ:bf l.prog w K mg base _ _ _ (cz K c d):=se (xI (c:=c) (d:=d) B HS JX IN Jk Jm Ih IH Ia Il F69) F69 (OJ X G a69);have Kf:bf l.prog w K mg base _ _ _ (gh K c d):=xM (DK (c:=c) (d:=d) B IO Jn Id F70) F70 (OJ X G a70);have Kz:bf l.prog w K mg base _ _ _ (iq K c d):=se (DL (c:=c) (d:=d) B IM IO Jn Id F71) F71 (OJ X G a71);have IP:Cal l.prog w K mg base _ _ _ (bj K c d):=nD (vk (c:=c) (d:=d) B Kz Kf EM R_TooMany R_NoMove F72) F72 (OJ X G a72);exact(Gi (c:=c) (d:=d) B HS IA Ij KI Jo IX KJ IP Jp Kz IM Kf Ih Il F73).imp λvs H Q E h=>by obtain⟨a,ns,e,hS,hn,k⟩:=h;exact⟨a,ns,e,hS,hn,λk hk=>by cases k <;> first | rfl | exact absurd rfl hk,rfl,k⟩
theorem walk {q:Program} {loose:List Str} {XP:(Str->Option Value)->Heap->Prop} {YP:World->Heap->Prop} {d:DefRec} {K:Params->Frag} (hn:l.most=some 63) (hdf:d.params.defaults=[])
  (hY:∀(w:World) (h:Heap),YP w h->(K w.params).In h)
  (F:∀(w:World) (mg:Str->Option Value) (fa:Addr) (h:Heap),(K w.params).In h->h.Ns mainGlobals mg->mg d.name=some (.ref fa)->
   ∃ fd:FuncData,(∀(s:Shared) (u:Value),BindsTo s fd ⟨[u],[]⟩ [("_law_script",u)])/\∀ base:Heap,(K w.params).In base->base.Ns mainGlobals mg->FnOk l.prog w (K w.params) mg base CX0 13 fa fd ["_law_script"] (wd (K w.params))):
  PySem.W.WalkO q loose XP YP l.row.toRowW d [] (λf vs=>PySem.call f vs):=
 L2.Ej (n:=63) (k:=13) (x:="_law_script") (CX:=λ_=>CX0) (sp:=λw=>wd (K w.params)) hn (by decide) hdf ⟨rfl,by decide,by decide⟩ hY F (λ_ _ a ns hl _ hS=>⟨a,ns,rfl,hS,hl,λ_=>rfl⟩) λ_ _ _ _ _ z=>z
end L2
end
open PySem PySem.W PyProof.Rows
namespace PySem.W.Fast
theorem Z:True:=⟨⟩
def tw13940640042591644415:=Z
def tw14415545876723396186:=Z
def tw12297059996046961079:=Z
def tw3515747538988682165:=Z
def tw12483748775706514163:=Z
def tw11909089037035584382:=Z
def tw13266010325976138213:=Z
def tw4211257653235133686:=Z
def tw9019031217462481935:=Z
def tw10739225609897173649:=Z
def tw14858471372399514773:=Z
def tw16147243901550097866:=Z
def tw12814725093072346305:=Z
def tw14638119363422128790:=Z
def tw1768850842550002757:=Z
def tw12409085245617756222:=Z
def tw16858349296738585763:=Z
def tw17071251894364678374:=Z
def tw9188175793943886533:=Z
def tw12522688020663490174:=Z
def tw4225304115534042793:=Z
def tw3036571493800010139:=Z
def tw5659878223366102371:=Z
def tw6970432133433153143:=Z
def tw2447570734239102812:=Z
def tw5294358882071229692:=Z
def tw4927665514323210009:=Z
def tw14930883664963614549:=Z
def tw15165402961129721486:=Z
def tw1922121609191176648:=Z
def tw4293265714413506075:=Z
def tw4003580499506119790:=Z
def tw4698639117386604228:=Z
def tw5475770963094726799:=Z
def tw13355411573500218103:=Z
def tw4479327039320067970:=Z
def tw13145934038494289349:=Z
def tw14096350784894078262:=Z
def tw3726932872176938703:=Z
def tw15190172243114364494:=Z
def tw1717657491935834763:=Z
def tw1111354802507013946:=Z
def tw12332024495723687040:=Z
def tw14792511642109160671:=Z
def tw13194374696884894286:=Z
def tw542614152396101085:=Z
def tw6500304511756734700:=Z
def tw17388170366461191175:=Z
def tw6850079665041941066:=Z
def tw8429826200538966806:=Z
def tw16418595111846031331:=Z
def tw6551164384991067471:=Z
def tw8400009591101344409:=Z
def tw387408724084518872:=Z
def tw14808196664531718098:=Z
def tw13772536841243878706:=Z
def tw4846010321394519036:=Z
def tw14367364321870727080:=Z
def tw8611124604876073251:=Z
def tw12096766910330994623:=Z
def tw17219023381838584589:=Z
def tw17849927415231722135:=Z
def tw17183769536304373573:=Z
def tw8792200756713875427:=Z
def tw16089154491585644063:=Z
def tw9640264206552461252:=Z
def tw1508393350081523571:=Z
def tw3036859600075943670:=Z
def tw11303465856087410571:=Z
def tw9780609523835474350:=Z
def tw4887634508855099449:=Z
def tw8472258523095861393:=Z
def tw7793280063566853448:=Z
def tw1150097969648875786:=Z
def tw4368300398956890413:=Z
def tw8722057719048211098:=Z
def tw8624692273256879527:=Z
def tw7220228067527241087:=Z
def tw15378307220871931449:=Z
def tw13648182601907218388:=Z
def tw4176726808034615923:=Z
def tw15371565628525131686:=Z
def tw10460600047331787831:=Z
def tw3553120278883599673:=Z
def tw4775531302815525495:=Z
def tw16774036661136464945:=Z
def tw3515280712731366384:=Z
def tw12676528262081506053:=Z
def tw3049452203836160562:=Z
def tw7023967687043367786:=Z
def tw489949782701525411:=Z
def tw5585199322022043938:=Z
def tw8544872970346018112:=Z
def tw812387028844942377:=Z
def tw18004921679589086671:=Z
def tw9940826792412854476:=Z
def tw6771772933847512901:=Z
def tw8468937148992688462:=Z
def tw3427939540125381448:=Z
def tw3267312894807843410:=Z
def tw16055673768089983619:=Z
def tw45117954101437690:=Z
def tw7996258834359733928:=Z
def tw3219862469786912403:=Z
def tw7032672304296271964:=Z
def tw15994743869804500568:=Z
def tw6996473376799651471:=Z
def tw13779429666820424422:=Z
def tw5191797588402685608:=Z
def tw17343969710668443198:=Z
def tw7014823031919768856:=Z
def tw3156823347632800141:=Z
def tw7937022368263856418:=Z
def tw11167584484368913294:=Z
def tw9925489963928976074:=Z
def tw4463548603447846901:=Z
def tw5249922428103259617:=Z
def tw10639297109558893951:=Z
def tw17160916679096942220:=Z
def tw242786671440113258:=Z
def tw1557504468218662477:=Z
def tw16388833831435329425:=Z
def tw2070345764459036702:=Z
def tw4684993357801474272:=Z
def tw5268808201628287398:=Z
def tw9705439621536498104:=Z
def tw1847207720120300308:=Z
def tw9260831706946621249:=Z
def tw8380742283227160159:=Z
def tw2335984120375829398:=Z
def tw18352699169078487696:=Z
def tw17397233855508561790:=Z
def tw3700378230777630104:=Z
def tw5606625950240621076:=Z
def tw14404229906456884371:=Z
def tw14586812620448105597:=Z
def tw12914743244045201557:=Z
def tw4900657863856765170:=Z
def tw13338847874186449642:=Z
def tw15851365507980719412:=Z
def tw2444119097661625142:=Z
def tw828464246294729814:=Z
def tw15210499281836136052:=Z
def tw3653162494474115178:=Z
def tw14768097005439058191:=Z
def tw4087893755086368024:=Z
def tw1599948768371569441:=Z
def tw1117036381897365725:=Z
def tw16123707523673444541:=Z
def tw696092180376797500:=Z
def tw11248031860872204291:=Z
def tw8093384423883898059:=Z
def tw9344224714017381411:=Z
def tw14722173340122452201:=Z
def tw10536067238615573:=Z
def tw7782069065335435796:=Z
def tw818369798420729469:=Z
def tw6399573915767686345:=Z
def tw14571176250549427455:=Z
def tw560345542519644616:=Z
def tw11414635243745129717:=Z
def tw9907534767781521300:=Z
def tw4876711747174603808:=Z
def tw1672601411422578995:=Z
def tw9669757222102356091:=Z
def tw8044969718862000513:=Z
def tw13051523293651547288:=Z
def tw14223564287552993079:=Z
def tw14000212888544164679:=Z
def tw12812130507955686234:=Z
def tw7086220169775028336:=Z
def tw7276906199097358308:=Z
def tw8203685947304547774:=Z
def tw12503982506596314690:=Z
def tw10386770016582312877:=Z
def tw14872631254802594768:=Z
def tw15707698989471515456:=Z
def tw4605590787643274756:=Z
def tw10200051641641488287:=Z
def tw3483288793555250497:=Z
def tw5508137435971751542:=Z
def tw8165436675965861189:=Z
def tw1505473721785000845:=Z
def tw14491262872363352848:=Z
def tw5043154005667870307:=Z
def tw6489011226236626098:=Z
def tw5577104446326633568:=Z
def tw10825987132580671289:=Z
def tw12633170382708468019:=Z
def tw2484114052727047239:=Z
def tw16990866534045594948:=Z
def tw1749605677080127845:=Z
def tw2716809282795033802:=Z
def tw611641809974959700:=Z
def tw15051335895320464813:=Z
def tw11399564404229640284:=Z
def tw17541709506146790763:=Z
def tw13631001769877741770:=Z
def tw16003991455802958250:=Z
def tw1607219710748383720:=Z
def tw11420194280014759562:=Z
def tw12571545079747478188:=Z
def tw3399988535436524808:=Z
def tw16935049657212061226:=Z
def tw14515091111757163574:=Z
def tw5531193294373813443:=Z
def tw11458566626148386871:=Z
def tw2945836927615994878:=Z
def tw14109973634714660160:=Z
def tw3809592763744782384:=Z
def tw7688589447217715046:=Z
def tw17985917592353757906:=Z
def tw4376291617749760493:=Z
def tw15584308055154002237:=Z
def tw14149412762238717340:=Z
def tw16303458260702754771:=Z
def tw8368941496114156283:=Z
def tw3851071790730826360:=Z
def tw3805392128214619111:=Z
def tw11323303476797986441:=Z
def tw14486393111392099453:=Z
def tw2476167172434417068:=Z
def tw16379558434824715401:=Z
def tw10366070420705519294:=Z
def tw4488948906504082593:=Z
def tw13605202689469825391:=Z
end PySem.W.Fast
set_option maxRecDepth 100000 in
set_option maxHeartbeats 0 in
theorem PySem.Challenge.cw_cluemaker_k69_whole_alike_holds : PySem.Challenge.rw_cluemaker_k69_whole_alike.Holds := by
  w_on; o_law; k_head; (case hw => w_witness2)
  k_fill
  refine L2.walk (l := PySem.Challenge.rw_cluemaker_k69_whole_alike) rfl rfl (fun w h Y => PySem.W.kIn_of Y) ?F
  case F =>
    intro w mg fa h KX G hmg
    refine' L2.Gj KX G hmg ?MD ?q_Sum ?ME ?N0 ?Nr ?MF ?Lm ?N1 ?MG ?a0 ?a1 ?a2 ?Ln ?Nt ?Lo ?MH ?L9 ?Lp ?KL ?MI ?Ma ?N3 ?Mb ?Nu ?MJ ?Mc ?K6 ?Nv ?Md ?N4 ?Me ?Nw ?MK ?Mf ?K7 ?Ny ?Mg ?N5 ?Mh ?Nz ?ML ?Mi ?K8 ?NA ?Mj ?N6 ?Ml ?NB ?MM ?Mm ?K9 ?NC ?Mn ?N7 ?Mo ?NE ?MN ?Mp ?La ?NF ?Mq ?MO ?Mr ?Lb ?NG ?NH ?Lq ?MP ?a13 ?a14 ?Lr ?Ls ?Lu ?a18 ?a19 ?a20 ?a21 ?a22 ?a23 ?a24 ?a25 ?a26 ?a27 ?a28 ?a29 ?a30 ?a31 ?a32 ?a33 ?Lv ?a35 ?a36 ?a37 ?a38 ?a39 ?a40 ?a41 ?a42 ?a43 ?a44 ?a45 ?a46 ?a47 ?a48 ?a49 ?a50 ?a51 ?a52 ?a53 ?a54 ?a55 ?a56 ?a57 ?a58 ?a59 ?a60 ?a61 ?a62 ?a63 ?Lw ?a65 ?a66 ?a67 ?a68 ?a69 ?a70 ?a71 ?a72 ?a73 ?F0 ?F1 ?F2 ?F3 ?fn3 ?F4 ?fn4 ?F5 ?fn5 ?F6 ?fn6 ?F7 ?fn7 ?F8 ?fn8 ?F9 ?fn9 ?F10 ?fn10 ?F11 ?fn11 ?F12 ?fn12 ?F13 ?F14 ?F15 ?fn15 ?F16 ?fn16 ?F17 ?fn17 ?F18 ?F19 ?F20 ?F21 ?F22 ?F23 ?F24 ?F25 ?F26 ?F27 ?F28 ?F29 ?F30 ?F31 ?F32 ?F33 ?F34 ?fn34 ?F35 ?F36 ?F37 ?F38 ?F39 ?F40 ?F41 ?F42 ?F43 ?F44 ?F45 ?F46 ?F47 ?F48 ?F49 ?F50 ?F51 ?F52 ?F53 ?F54 ?F55 ?F56 ?F57 ?F58 ?F59 ?F60 ?F61 ?F62 ?F63 ?F64 ?fn64 ?F65 ?F66 ?F67 ?F68 ?F69 ?F70 ?F71 ?F72 ?F73 ?Lx ?Ly ?Lz ?LA ?LB ?LC ?NI ?NJ ?NK ?NL ?NM ?NN ?LD ?LE ?LF ?LG ?LH ?LI ?MQ ?MR ?MS ?MT ?MU ?MV ?Ms ?Mt ?Mu ?Mw ?Mx ?My ?LJ ?LK ?LM ?LN ?LO ?LP ?KM ?KN ?KO ?KP ?KQ ?KR ?MW ?MX ?MY ?MZ ?M0 ?M1 ?LQ ?LR ?LS ?LU ?LV ?LW ?Je ?J0 ?Jf ?JD ?Jq ?Jg ?IR ?JE ?Jr ?Kh ?Js ?J1 ?JF ?Jt ?IZ ?J2 ?Ju ?Ki ?Jv ?J3 ?JG ?Jw ?I0 ?J4 ?JH ?Ks ?JI ?Kj ?J5 ?JJ ?Jh ?Kk ?Jx ?Kl ?Jy ?J6 ?JK ?Jz ?Ja ?J7 ?JA ?JB ?JL ?JM ?JN ?JO ?JP ?J8 ?J9 ?Kt ?Ku ?LX ?Kv ?Kw ?Kx ?Ka ?Km ?Ky ?KS ?Jb ?IS ?Oa ?Ob ?Oc ?Od ?M3 ?Oe ?KU ?N8 ?Of ?N9 ?Og ?NO ?LY ?Oh ?NP ?Oi ?Oj ?Ol ?Lc ?Ld ?Mz ?M4 ?LZ ?KY ?L0 ?KW ?D1 ?D2 ?D3 ?D4 ?r1_TooMany ?r2_TooMany ?r3_TooMany ?f1_TooMany ?f2_TooMany ?f3_TooMany ?f4_TooMany ?f5_TooMany ?f6_TooMany ?f7_TooMany ?g_TooMany_NoMove ?g_TooMany_NoPuzzle ?r1_NoMove ?r2_NoMove ?r3_NoMove ?f1_NoMove ?f2_NoMove ?f3_NoMove ?f4_NoMove ?f5_NoMove ?f6_NoMove ?f7_NoMove
    (case MD=>k_is);(case q_Sum=>k_is);(case ME=>k_is);(case N0=>k_is);(case Nr=>k_is);(case MF=>k_is);(case Lm=>k_is);(case N1=>k_is);(case MG=>k_is);(case a0=>k_is);(case a1=>k_is);(case a2=>k_is);(case Ln=>k_is);(case Nt=>k_is);(case Lo=>k_is);(case MH=>k_is);(case L9=>k_is);(case Lp=>k_is);(case KL=>k_is);(case MI=>k_is);(case Ma=>k_is);(case N3=>k_is);(case Mb=>k_is);(case Nu=>k_is);(case MJ=>k_is);(case Mc=>k_is);(case K6=>k_is);(case Nv=>k_is);(case Md=>k_is);(case N4=>k_is);(case Me=>k_is);(case Nw=>k_is);(case MK=>k_is);(case Mf=>k_is);(case K7=>k_is);(case Ny=>k_is);(case Mg=>k_is);(case N5=>k_is);(case Mh=>k_is);(case Nz=>k_is);(case ML=>k_is);(case Mi=>k_is);(case K8=>k_is);(case NA=>k_is);(case Mj=>k_is);(case N6=>k_is);(case Ml=>k_is);(case NB=>k_is);(case MM=>k_is);(case Mm=>k_is);(case K9=>k_is);(case NC=>k_is);(case Mn=>k_is);(case N7=>k_is);(case Mo=>k_is);(case NE=>k_is);(case MN=>k_is);(case Mp=>k_is);(case La=>k_is);(case NF=>k_is);(case Mq=>k_is);(case MO=>k_is);(case Mr=>k_is);(case Lb=>k_is);(case NG=>k_is);(case NH=>k_is);(case Lq=>k_is);(case MP=>k_is);(case a13=>k_is);(case a14=>k_is);(case Lr=>k_is);(case Ls=>k_is);(case Lu=>k_is);(case a18=>k_is);(case a19=>k_is);(case a20=>k_is);(case a21=>k_is);(case a22=>k_is);(case a23=>k_is);(case a24=>k_is);(case a25=>k_is);(case a26=>k_is);(case a27=>k_is);(case a28=>k_is);(case a29=>k_is);(case a30=>k_is);(case a31=>k_is);(case a32=>k_is);(case a33=>k_is);(case Lv=>k_is);(case a35=>k_is);(case a36=>k_is);(case a37=>k_is);(case a38=>k_is);(case a39=>k_is);(case a40=>k_is);(case a41=>k_is);(case a42=>k_is);(case a43=>k_is);(case a44=>k_is);(case a45=>k_is);(case a46=>k_is);(case a47=>k_is);(case a48=>k_is);(case a49=>k_is);(case a50=>k_is);(case a51=>k_is);(case a52=>k_is);(case a53=>k_is);(case a54=>k_is);(case a55=>k_is);(case a56=>k_is);(case a57=>k_is);(case a58=>k_is);(case a59=>k_is);(case a60=>k_is);(case a61=>k_is);(case a62=>k_is);(case a63=>k_is);(case Lw=>k_is);(case a65=>k_is);(case a66=>k_is);(case a67=>k_is);(case a68=>k_is);(case a69=>k_is);(case a70=>k_is);(case a71=>k_is);(case a72=>k_is);(case a73=>k_is)
    (case F0 => (refine' L2.aw ?l ?c ?k; (case l => k_is); (case c => k_is); case k => k_is))
    (case F1 => (refine' L2.aw ?l ?c ?k; (case l => k_is); (case c => k_is); case k => k_is))
    (case F2 => (refine' L2.aw ?l ?c ?k; (case l => k_is); (case c => k_is); case k => k_is))
    (case F3 => (refine' L2.aw ?l ?c ?k; (case l => k_is); (case c => k_is); case k => k_is))
    (case fn3=>k_is)
    (case F4 => (refine' L2.aw ?l ?c ?k; (case l => k_is); (case c => k_is); case k => k_is))
    (case fn4=>k_is)
    (case F5 => (refine' L2.aw ?l ?c ?k; (case l => k_is); (case c => k_is); case k => k_is))
    (case fn5=>k_is)
    (case F6 => (refine' L2.aw ?l ?c ?k; (case l => k_is); (case c => k_is); case k => k_is))
    (case fn6=>k_is)
    (case F7 => (refine' L2.aw ?l ?c ?k; (case l => k_is); (case c => k_is); case k => k_is))
    (case fn7=>k_is)
    (case F8 => (refine' L2.aw ?l ?c ?k; (case l => k_is); (case c => k_is); case k => k_is))
    (case fn8=>k_is)
    (case F9 => (refine' L2.aw ?l ?c ?k; (case l => k_is); (case c => k_is); case k => k_is))
    (case fn9=>k_is)
    (case F10 => (refine' L2.aw ?l ?c ?k; (case l => k_is); (case c => k_is); case k => k_is))
    (case fn10=>k_is)
    (case F11 => (refine' L2.aw ?l ?c ?k; (case l => k_is); (case c => k_is); case k => k_is))
    (case fn11=>k_is)
    (case F12 => (refine' L2.aw ?l ?c ?k; (case l => k_is); (case c => k_is); case k => k_is))
    (case fn12=>k_is)
    (case F13 => (refine' L2.aw ?l ?c ?k; (case l => k_is); (case c => k_is); case k => k_is))
    (case F14 => (refine' L2.aw ?l ?c ?k; (case l => k_is); (case c => k_is); case k => k_is))
    (case F15 => (refine' L2.aw ?l ?c ?k; (case l => k_is); (case c => k_is); case k => k_is))
    (case fn15=>k_is)
    (case F16 => (refine' L2.aw ?l ?c ?k; (case l => k_is); (case c => k_is); case k => k_is))
    (case fn16=>k_is)
    (case F17 => (refine' L2.aw ?l ?c ?k; (case l => k_is); (case c => k_is); case k => k_is))
    (case fn17=>k_is)
    (case F18 => (refine' L2.aw ?l ?c ?k; (case l => k_is); (case c => k_is); case k => k_is))
    (case F19 => (refine' L2.aw ?l ?c ?k; (case l => k_is); (case c => k_is); case k => k_is))
    (case F20 => (refine' L2.aw ?l ?c ?k; (case l => k_is); (case c => k_is); case k => k_is))
    (case F21 => (refine' L2.aw ?l ?c ?k; (case l => k_is); (case c => k_is); case k => k_is))
    (case F22 => (refine' L2.aw ?l ?c ?k; (case l => k_is); (case c => k_is); case k => k_is))
    (case F23 => (refine' L2.aw ?l ?c ?k; (case l => k_is); (case c => k_is); case k => k_is))
    (case F24 => (refine' L2.aw ?l ?c ?k; (case l => k_is); (case c => k_is); case k => k_is))
    (case F25 => (refine' L2.aw ?l ?c ?k; (case l => k_is); (case c => k_is); case k => k_is))
    (case F26 => (refine' L2.aw ?l ?c ?k; (case l => k_is); (case c => k_is); case k => k_is))
    (case F27 => (refine' L2.aw ?l ?c ?k; (case l => k_is); (case c => k_is); case k => k_is))
    (case F28 => (refine' L2.aw ?l ?c ?k; (case l => k_is); (case c => k_is); case k => k_is))
    (case F29 => (refine' L2.aw ?l ?c ?k; (case l => k_is); (case c => k_is); case k => k_is))
    (case F30 => (refine' L2.aw ?l ?c ?k; (case l => k_is); (case c => k_is); case k => k_is))
    (case F31 => (refine' L2.aw ?l ?c ?k; (case l => k_is); (case c => k_is); case k => k_is))
    (case F32 => (refine' L2.aw ?l ?c ?k; (case l => k_is); (case c => k_is); case k => k_is))
    (case F33 => (refine' L2.aw ?l ?c ?k; (case l => k_is); (case c => k_is); case k => k_is))
    (case F34 => (refine' L2.aw ?l ?c ?k; (case l => k_is); (case c => k_is); case k => k_is))
    (case fn34=>k_is)
    (case F35 => (refine' L2.aw ?l ?c ?k; (case l => k_is); (case c => k_is); case k => k_is))
    (case F36 => (refine' L2.aw ?l ?c ?k; (case l => k_is); (case c => k_is); case k => k_is))
    (case F37 => (refine' L2.aw ?l ?c ?k; (case l => k_is); (case c => k_is); case k => k_is))
    (case F38 => (refine' L2.aw ?l ?c ?k; (case l => k_is); (case c => k_is); case k => k_is))
    (case F39 => (refine' L2.aw ?l ?c ?k; (case l => k_is); (case c => k_is); case k => k_is))
    (case F40 => (refine' L2.aw ?l ?c ?k; (case l => k_is); (case c => k_is); case k => k_is))
    (case F41 => (refine' L2.aw ?l ?c ?k; (case l => k_is); (case c => k_is); case k => k_is))
    (case F42 => (refine' L2.aw ?l ?c ?k; (case l => k_is); (case c => k_is); case k => k_is))
    (case F43 => (refine' L2.aw ?l ?c ?k; (case l => k_is); (case c => k_is); case k => k_is))
    (case F44 => (refine' L2.aw ?l ?c ?k; (case l => k_is); (case c => k_is); case k => k_is))
    (case F45 => (refine' L2.aw ?l ?c ?k; (case l => k_is); (case c => k_is); case k => k_is))
    (case F46 => (refine' L2.aw ?l ?c ?k; (case l => k_is); (case c => k_is); case k => k_is))
    (case F47 => (refine' L2.aw ?l ?c ?k; (case l => k_is); (case c => k_is); case k => k_is))
    (case F48 => (refine' L2.aw ?l ?c ?k; (case l => k_is); (case c => k_is); case k => k_is))
    (case F49 => (refine' L2.aw ?l ?c ?k; (case l => k_is); (case c => k_is); case k => k_is))
    (case F50 => (refine' L2.aw ?l ?c ?k; (case l => k_is); (case c => k_is); case k => k_is))
    (case F51 => (refine' L2.aw ?l ?c ?k; (case l => k_is); (case c => k_is); case k => k_is))
    (case F52 => (refine' L2.aw ?l ?c ?k; (case l => k_is); (case c => k_is); case k => k_is))
    (case F53 => (refine' L2.aw ?l ?c ?k; (case l => k_is); (case c => k_is); case k => k_is))
    (case F54 => (refine' L2.aw ?l ?c ?k; (case l => k_is); (case c => k_is); case k => k_is))
    (case F55 => (refine' L2.aw ?l ?c ?k; (case l => k_is); (case c => k_is); case k => k_is))
    (case F56 => (refine' L2.aw ?l ?c ?k; (case l => k_is); (case c => k_is); case k => k_is))
    (case F57 => (refine' L2.aw ?l ?c ?k; (case l => k_is); (case c => k_is); case k => k_is))
    (case F58 => (refine' L2.aw ?l ?c ?k; (case l => k_is); (case c => k_is); case k => k_is))
    (case F59 => (refine' L2.aw ?l ?c ?k; (case l => k_is); (case c => k_is); case k => k_is))
    (case F60 => (refine' L2.Ag ?l ?c ?k ?d; (case l => k_is); (case c => k_is); (case k => k_is); case d => k_is))
    (case F61 => (refine' L2.aw ?l ?c ?k; (case l => k_is); (case c => k_is); case k => k_is))
    (case F62 => (refine' L2.aw ?l ?c ?k; (case l => k_is); (case c => k_is); case k => k_is))
    (case F63 => (refine' L2.aw ?l ?c ?k; (case l => k_is); (case c => k_is); case k => k_is))
    (case F64 => (refine' L2.aw ?l ?c ?k; (case l => k_is); (case c => k_is); case k => k_is))
    (case fn64=>k_is)
    (case F65 => (refine' L2.Ag ?l ?c ?k ?d; (case l => k_is); (case c => k_is); (case k => k_is); case d => k_is))
    (case F66 => (refine' L2.aw ?l ?c ?k; (case l => k_is); (case c => k_is); case k => k_is))
    (case F67 => (refine' L2.aw ?l ?c ?k; (case l => k_is); (case c => k_is); case k => k_is))
    (case F68 => (refine' L2.aw ?l ?c ?k; (case l => k_is); (case c => k_is); case k => k_is))
    (case F69 => (refine' L2.aw ?l ?c ?k; (case l => k_is); (case c => k_is); case k => k_is))
    (case F70 => (refine' L2.aw ?l ?c ?k; (case l => k_is); (case c => k_is); case k => k_is))
    (case F71 => (refine' L2.aw ?l ?c ?k; (case l => k_is); (case c => k_is); case k => k_is))
    (case F72 => (refine' L2.aw ?l ?c ?k; (case l => k_is); (case c => k_is); case k => k_is))
    (case F73 => (refine' L2.aw ?l ?c ?k; (case l => k_is); (case c => k_is); case k => k_is))
    (case Lx=>k_is);(case Ly=>k_is);(case Lz=>k_is);(case LA=>k_is);(case LB=>k_is);(case LC=>k_is);(case NI=>k_is);(case NJ=>k_is);(case NK=>k_is);(case NL=>k_is);(case NM=>k_is);(case NN=>k_is);(case LD=>k_is);(case LE=>k_is);(case LF=>k_is);(case LG=>k_is);(case LH=>k_is);(case LI=>k_is);(case MQ=>k_is);(case MR=>k_is);(case MS=>k_is);(case MT=>k_is);(case MU=>k_is);(case MV=>k_is);(case Ms=>k_is);(case Mt=>k_is);(case Mu=>k_is);(case Mw=>k_is);(case Mx=>k_is);(case My=>k_is);(case LJ=>k_is);(case LK=>k_is);(case LM=>k_is);(case LN=>k_is);(case LO=>k_is);(case LP=>k_is);(case KM=>k_is);(case KN=>k_is);(case KO=>k_is);(case KP=>k_is);(case KQ=>k_is);(case KR=>k_is);(case MW=>k_is);(case MX=>k_is);(case MY=>k_is);(case MZ=>k_is);(case M0=>k_is);(case M1=>k_is);(case LQ=>k_is);(case LR=>k_is);(case LS=>k_is);(case LU=>k_is);(case LV=>k_is);(case LW=>k_is);(case Je=>k_is);(case J0=>k_is);(case Jf=>k_is);(case JD=>k_is);(case Jq=>k_is);(case Jg=>k_is);(case IR=>k_is);(case JE=>k_is);(case Jr=>k_is);(case Kh=>k_is);(case Js=>k_is);(case J1=>k_is);(case JF=>k_is);(case Jt=>k_is);(case IZ=>k_is);(case J2=>k_is);(case Ju=>k_is);(case Ki=>k_is);(case Jv=>k_is);(case J3=>k_is);(case JG=>k_is);(case Jw=>k_is);(case I0=>k_is);(case J4=>k_is);(case JH=>k_is);(case Ks=>k_is);(case JI=>k_is);(case Kj=>k_is);(case J5=>k_is);(case JJ=>k_is);(case Jh=>k_is);(case Kk=>k_is);(case Jx=>k_is);(case Kl=>k_is);(case Jy=>k_is);(case J6=>k_is);(case JK=>k_is);(case Jz=>k_is);(case Ja=>k_is);(case J7=>k_is);(case JA=>k_is);(case JB=>k_is);(case JL=>k_is);(case JM=>k_is);(case JN=>k_is);(case JO=>k_is);(case JP=>k_is);(case J8=>k_is);(case J9=>k_is);(case Kt=>k_is);(case Ku=>k_is);(case LX=>k_is);(case Kv=>k_is);(case Kw=>k_is);(case Kx=>k_is);(case Ka=>k_is);(case Km=>k_is);(case Ky=>k_is);(case KS=>k_is);(case Jb=>k_is);(case IS=>k_is);(case Oa=>k_is);(case Ob=>k_is);(case Oc=>k_is);(case Od=>k_is);(case M3=>k_is);(case Oe=>k_is);(case KU=>k_is);(case N8=>k_is);(case Of=>k_is);(case N9=>k_is);(case Og=>k_is);(case NO=>k_is);(case LY=>k_is);(case Oh=>k_is);(case NP=>k_is);(case Oi=>k_is);(case Oj=>k_is);(case Ol=>k_is);(case Lc=>k_is);(case Ld=>k_is);(case Mz=>k_is);(case M4=>k_is);(case LZ=>k_is);(case KY=>k_is);(case L0=>k_is);(case KW=>k_is);(case D1=>k_is)
    (case D2 => exact rfl)
    (case D3=>k_is)
    (case D4 => first | kernel_rfl | exact rfl)
    (case r1_TooMany=>k_is);(case r2_TooMany=>k_is)
    (case r3_TooMany => first | kernel_rfl | exact rfl)
    (case f1_TooMany=>k_is);(case f2_TooMany=>k_is);(case f3_TooMany=>k_is);(case f4_TooMany=>k_is);(case f5_TooMany=>k_is)
    (case f6_TooMany => kit_is)
    (case f7_TooMany => kts_exm)
    (case g_TooMany_NoMove => kit_is)
    (case g_TooMany_NoPuzzle => kit_is)
    (case r1_NoMove=>k_is);(case r2_NoMove=>k_is)
    (case r3_NoMove => first | kernel_rfl | exact rfl)
    (case f1_NoMove=>k_is);(case f2_NoMove=>k_is);(case f3_NoMove=>k_is);(case f4_NoMove=>k_is);(case f5_NoMove=>k_is)
    (case f6_NoMove => kit_is)
    (case f7_NoMove => kts_exm)
