import PyProof.Rows.All
import Wide.All
import OpenK.AllK
import Wide.FinOn
import Lean
import PyProof.EqAt
import PyProof.EqKinds
import PyProof.TupleCall
import PyProof.ZipIter
import PyProof.ConsumeS
import PyProof.StrCalls2
import PyProof.StrWalks
import PyProof.SliceStr2
import PyProof.StrBlock
import PyProof.StrBlockL
import PyProof.ListIndex
import PyProof.StrLawsTight
import PyProof.StrLawsChain
import PyProof.StrLaws
import PyProof.StrLawsFirst
import PyProof.StationsW
import PyProof.ExcClass3
import PyProof.NsDelKeeps
import PyProof.RulesAs
import PyProof.ExcBaseAll.ValueError
import PyProof.ExcArgsOwn
import PyProof.ExcAttrAll.ValueError
import KE.KTryMore
import KE.RegKTryMore
import KE.RegKIsAll
import PyProof.Rows.Range3
import PyProof.Rows.SumGenD
import PyProof.Rows.RuleM_int
import PyProof.EnumMake
import PyProof.EnumFor
import PyProof.EnumStmt
import PyProof.Rows.EnumRows
import KE.KRevIter
import PyProof.ListNew
import PyProof.CollectIter
import PyProof.ListRange
import PyProof.CallStr
import PyProof.StrBlock2
import PyProof.Rows.StrMadeLen
import PyProof.Rows.SetFrom
import PyProof.SetRoads
import PyProof.MeetsStr2
import KE.KRevSl
import PyProof.Conv_int
import PyProof.WalkInts
import PyProof.Rows.SeqMore
import KE.KSortKey
import KE.KLam
import PySem.Challenge.RW_cluemaker_k38_whole_no_answer_is_struck
set_option Elab.async false
set_option linter.all false
set_option maxRecDepth 100000
open PySem.W (Frag nsIn findIn fnOf isFn codeIn keepIn)
set_option maxHeartbeats 40000000
namespace O9
section
variable{A B C D E F I J:Type}{G a b c d e f g i:Prop}
theorem ex1{P:A->Prop}(h:∃a,P a)(k:∀a,P a->G):G:=h.elim k
theorem ex2{P:A->B->Prop}(h:∃a b,P a b)(k:∀a b,P a b->G):G:=h.elim fun a h=>ex1 h (k a)
theorem ex3{P:A->B->C->Prop}(h:∃a b c,P a b c)(k:∀a b c,P a b c->G):G:=h.elim fun a h=>ex2 h (k a)
theorem ex4{P:A->B->C->D->Prop}(h:∃a b c d,P a b c d)(k:∀a b c d,P a b c d->G):G:=h.elim fun a h=>ex3 h (k a)
theorem ex5{P:A->B->C->D->E->Prop}(h:∃a b c d e,P a b c d e)(k:∀a b c d e,P a b c d e->G):G:=h.elim fun a h=>ex4 h (k a)
theorem ex6{P:A->B->C->D->E->F->Prop}(h:∃a b c d e f,P a b c d e f)(k:∀a b c d e f,P a b c d e f->G):G:=h.elim fun a h=>ex5 h (k a)
theorem ex7{P:A->B->C->D->E->F->I->Prop}(h:∃a b c d e f g,P a b c d e f g)(k:∀a b c d e f g,P a b c d e f g->G):G:=h.elim fun a h=>ex6 h (k a)
theorem ex8{P:A->B->C->D->E->F->I->J->Prop}(h:∃a b c d e f g i,P a b c d e f g i)(k:∀a b c d e f g i,P a b c d e f g i->G):G:=h.elim fun a h=>ex7 h (k a)
theorem an2(h:a∧b)(k:a->b->G):G:=k h.1 h.2
theorem an3(h:a∧b∧c)(k:a->b->c->G):G:=an2 h.2 (k h.1)
theorem an4(h:a∧b∧c∧d)(k:a->b->c->d->G):G:=an3 h.2 (k h.1)
theorem an5(h:a∧b∧c∧d∧e)(k:a->b->c->d->e->G):G:=an4 h.2 (k h.1)
theorem an6(h:a∧b∧c∧d∧e∧f)(k:a->b->c->d->e->f->G):G:=an5 h.2 (k h.1)
theorem an7(h:a∧b∧c∧d∧e∧f∧g)(k:a->b->c->d->e->f->g->G):G:=an6 h.2 (k h.1)
theorem an8(h:a∧b∧c∧d∧e∧f∧g∧i)(k:a->b->c->d->e->f->g->i->G):G:=an7 h.2 (k h.1)
end
open Lean
abbrev PL:=Array (TSyntax ``Parser.Tactic.rcasesPatLo)
def ob(h:TSyntax `term)(ps:Array Syntax):MacroM Syntax:=do
 let n:=ps.size
 let mut xs:Array (TSyntax `ident):=#[]
 let mut q<-`(tactic|skip)
 for j in [0:n] do
  let r:=ps[n-1-j]![0]
  let p:=r[0][0]
  if p.isOfKind ``Parser.Tactic.rcasesPat.one&&p[0].getId != `rfl then xs:=xs.push ⟨p[0]⟩
  else if p.isOfKind ``Parser.Tactic.rcasesPat.ignore then xs:=xs.push (mkIdent `o0)
  else
   let v:=mkIdent (<-Macro.addMacroScope (.mkSimple s!"e{j}"))
   xs:=xs.push v
   q<-`(tactic|(obtain $(⟨r⟩):rcasesPatMed:=$v:ident;$q))
 xs:=xs.reverse
 let x:=mkIdent `o1
 let mut t<-`(tactic|rcases $h:term with⟨$((ps.map (⟨·⟩):PL)),*⟩)
 let m:=min (n-1) 8
 let mut al:=#[(0,min n 8)]
 for j in [0:m] do al:=al.push (1,m-j)
 for j in [0:min n 8-2] do al:=al.push (0,min n 8-1-j)
 for (s,k) in al.reverse do
  let l:=mkIdent (.mkStr2 "O9" ((if s=1 then "ex" else "an")++toString k))
  let k:=k+s
  let (ys,r)<-if k=n then pure (xs,q) else
   let zs:PL:=(xs.extract (k-1) n).map fun y=>⟨mkNode ``Parser.Tactic.rcasesPatLo #[mkNode ``Parser.Tactic.rcasesPatMed #[mkNullNode #[mkNode ``Parser.Tactic.rcasesPat.one #[y]]],mkNullNode]⟩
   pure ((xs.extract 0 (k-1)).push x,(<-`(tactic|(obtain⟨$zs,*⟩:=$x:ident;$q))))
  t<-`(tactic|first|(refine $l $h ?_;(try clear $h);intro $ys*;$r)|($t:tactic))
 return t
def rn(ps:Array Syntax):MacroM Syntax:=do
 let n:=ps.size-1
 let t:=ps[n]![0]
 unless t.isOfKind ``Parser.Tactic.rcasesPat.tuple do Macro.throwUnsupported
 let mut xs:Array Term:=#[]
 for j in [0:n] do
  let p:=ps[j]![0]
  if p.isOfKind ``Parser.Tactic.rcasesPat.one&&p[0].getId != `rfl then xs:=xs.push ⟨p[0]⟩
  else if p.isOfKind ``Parser.Tactic.rcasesPat.ignore then xs:=xs.push ⟨mkNode ``Parser.Term.hole #[mkAtom "_"]⟩
  else Macro.throwUnsupported
 let x:=mkIdent `o2
 xs:=xs.push x
 `(tactic|(intro $xs*;obtain $(⟨mkNode ``Parser.Tactic.rcasesPatMed #[mkNullNode #[t]]⟩):rcasesPatMed:=$x:ident))
end O9
section
local macro_rules|`(tactic|obtain⟨$ps,*⟩:=$h:term)=>let p:=ps.getElems.map (·.raw);if p.size<2||p.any (fun q=>q[0][0].getNumArgs != 1||q[1].getNumArgs>0) then Lean.Macro.throwUnsupported else O9.ob h p
local macro_rules|`(tactic|rintro $ps*)=>O9.rn (ps.map (·.raw))
namespace O9
open Lean
abbrev DS:=StateT (List Char) MacroM
def nx:DS Char:=do
 let l<-get
 set l.tail
 return l.head?.getD ' '
def num:DS Nat:=do
 let k<-get
 let r:=k.takeWhile (·.isDigit)
 set (k.drop (r.length+1))
 return r.foldl (fun x d=>10*x+(d.toNat-48)) 0
def hd(tb:List String):DS (Term×Nat):=do
 let c<-nx
 let c<-if "~'{}_".toList.contains c then pure (toString c++toString (<-nx)) else pure (toString c)
 let e:=((tb.find? (·.startsWith c)).getD "").toList.drop c.length
 let n:=String.ofList e.dropLast
 let r:=String.ofList (e.dropLast.drop 1)
 let m:Term:=if n="_" then ⟨mkNode ``Parser.Term.hole #[mkAtom "_"]⟩ else if n.startsWith "." then ⟨mkNode ``Parser.Term.dotIdent #[mkAtom ".",mkIdent r.toName]⟩ else if n.startsWith "%" then quote r else mkIdent n.toName
 return (m,(e.getLast?.getD '0').toNat-48)
def cmp(c:Char):MacroM Term:=do
 let t<-if c='>' then `(fun i j=>decide (j<i)) else if c='<' then `(fun i j=>decide (i<j)) else if c='(' then `(fun i j=>decide (i<=j)) else `(fun i j=>decide (j<=i))
 `($(mkIdent `cCmp) $t)
def ixs:Nat->DS (Array Term)
|0=>return #[]
|n+1=>do
 let c<-nx
 if c=' ' then return #[]
 let x<-if c='-' then `(none) else `(some $(quote (c.toNat-48)))
 return #[x]++(<-ixs n)
def dec(v:Name)(ts:Array Term)(tb:List String):Nat->DS Term
|0=>return mkIdent v
|n+1=>do
 let c<-nx
 if c.isDigit then `($(mkIdent v) $(quote (c.toNat-48)))
 else if c='|' then
  let d<-nx
  `($(mkIdent v) $(quote (d.toNat-87)))
 else if c='#' then return quote (<-num)
 else if c='`' then return ts[(<-nx).toNat-48]!
 else if c='$' then
  let t<-dec v ts tb n
  `(fun cl s H fp=>$t)
 else if c='!' then `(by decide)
 else if c='=' then `([])
 else if c=',' then
  let a<-dec v ts tb n
  let b<-dec v ts tb n
  `($(mkIdent `tCall) $a [] $(mkIdent `E0) $b)
 else if c='%' then `(by decide +kernel)
 else if c='@' then
  let t<-dec v ts tb n
  `(show ($t : List $(mkIdent `Str)).Nodup by decide +kernel)
 else if c='&' then
  let a<-ixs 99
  `([$a,*])
 else if "<>()".toList.contains c then cmp c
 else if c='.' then
  let d<-nx
  let t<-dec v ts tb n
  return ⟨mkNode ``Parser.Term.namedArgument #[mkAtom "(",mkIdent (if d='x' then `ix else .mkSimple (toString d)),mkAtom ":=",t,mkAtom ")"]⟩
 else
  modify (c::·)
  let (h,k)<-hd tb
  if k=0 then return h
  let mut a:=#[]
  for _ in [0:k] do a:=a.push (<-dec v ts tb n).raw
  return ⟨mkNode ``Parser.Term.app #[h,mkNullNode a]⟩
def tbR:List String:="atCons2 btOp3 cK0 dtC1 etNil0 f.int1 gtSeq2 hgName1 itRet1 jc0 kcIx0 ltAsg2 mtIfS3 ntNext0 otTest1 ptCB2 q.str1 rtx1 scEq1 td0 ucAdd0 vtLst1 wtB1 xiList2 ytComp5 zaM6 Afalse0 BcMod0 CkLen0 DtTrue0 Ec.ok0 F.bl1 G%list0 HtBM5 ItFldK3 JcMul0 KtNot1 LtFor3 MtOr2 NtTup1 OcSub0 PtAndV2 QcNe1 RcP0 StPart1 Ttrue0 UcDiv0 VtDrop1 WbK0 XdU1 YcIn2 ZtSl4 *kIsi0 +.ty1 -tMake5 /E00 :ik0 ;sFldK4 ?%floor0 [kAll0 ]tInG3 ^c.A1 ~aaK2 ~bcO0 ~cfU0 ~dd.ok0 ~ecK1 ~fiq0 ~gcC1 ~h%amount0 ~idP1 ~j%rules0 ~kgp3 ~lfL2 ~mcY1 ~n%cells0 ~okList0 ~p%signs_at0 ~qfm2 ~r%int0 ~sbL1 ~t%spots0 ~uio2 ~v%number0 ~wgC2 ~xkSum0 ~y%marked0 ~zgD2 ~AgCons2 ~B%mark0 ~C.non0 ~DiP1 ~E%str0 ~FtIf3 ~GiR1 ~HtOrV2 ~Igc1 ~JlH1 ~KkAny0 ~Lfh1 ~Mjw1 ~NjK1 ~O%words0 ~PiTup2 ~QtAnd2 ~ReJ1 ~SsComp6 ~ToR1 ~UdJ1 ~VtNotV1 ~W%bool0 ~X%tuple0 ~Y%laws0 ~Z%given0 ~*ye4 ~+lI0 ~-oK1 ~/%sign0 ~:oU2 ~;iJ2 ~?kB2 ~[jy1 ~]kn1 ~^%is_joined0 'agH2 'bgTup3 'cgNil0 'dgX1 'edB0 'fcA0 'gkStr0 'hcOr0 'ijM1 'jjO1 'kiStr1 'loS0 'mjT1 'nrIsN0 'ofD0 'piZ1 'q.Unlike0 'r.Sum0 's.Rising0 't.Seen0 'u.Count0 'v.Joined0 'w.NoSquare0 'x.Ring0 'ymw2 'zkZ1 'AfV0 'BfJ0 'CfE2 'DqD0 'EgJ2 'Fld1 'GjV2 'Hi91 'Igk1 'Ji72 'Kgm1 'LcShr0 'MnO1 'Nmy1 'OrInS1 'P%name0 'QsA2 'RtIxG3 'Sgd_RULES_OF_KIND0 'TmH2 'UmC0 'V%place0 'Wp93 'XmD1 'YmF1 'ZgO3 '*gQ3 '+lg1 '-jZ1 '/lq1 ':fu2 ';gt1 '?jb1 '[fM2 ']tUn2 '^f72 {af82 {bmr1 {cj41 {dze2 {emL1 {f%has_two_beside0 {gfZ2 {hiEnum2 {ioP0 {j%holds0 {kdO2 {lcRepL0 {mga1 {nfN2 {osL1 {pfO2 {qgq2 {riu2 {sgY2 {tgR2 {ueK3 {vdR3 {wjX3 {xj73 {yfP3 {zeV3 {AkLenS1 {BrIxL1 {CqL0 {DkMax0 {EmR6 {FtabP2 {G%_law_cells0 {HyI1 {IdL1 {JfT1 {KnF0 {LcG1 {MuP0 {NcZ1 {Oe81 {Pe91 {Qfb1 {Rfc1 {Sg71 {ThV1 {Ufe1 {Vgw1 {WyK1 {XyL1 {Ykb3 {Zjf3 {*e61 {+g91 {-rCatT1 {/rSlT1 {:yM3 {;yN3 {?yO3 {[h91 {]jz3 {^d.A1 }a.Puzzle0 }bcq3 }cjA3 }djB3 }eji1 }fkG3 }gkH3 }hnZ3 }in43".splitOn " "
def tbF:List String:="arfl0 baa2 cac0 dae1 ehu0 faf0 gad2 hhr0 iai1 jak1 k_0 lkcal3 mkix3 nnd0 oao3 par3 qam0 rap4 skset3 taq5 uOr.inl1 vaz1 waw0 xau4 yaF4 zaD5 AaH8 BaE1 CaA0 DaG1 EBz.len_0 FaS1 GaU0 HaI0 IaT0 Jbi2 Kcg0 LaW4 McE1 NdC2 Ocw0 Pd62 Qc66 RbB0 SdW1 TaO0 UJQ1 VdZ0 WdF1 Xcu1 YdY0 ZG20 *cB5 +Hr0 -dX1 /ff1 :cJ0 ;Bz.isinstance_0 ?ba0 [fj5 ].ty1 ^cF5 ~aBz.range_0 ~bdA0 ~cdE5 ~dBz.list_0 ~edM4 ~fjv0 ~giL0 ~hd51 ~iBz.all_0 ~jiO0 ~kgB3 ~ldz1 ~mjx5 ~nbA0 ~ogA0 ~pHi0 ~qHj0 ~rbC0 ~scQ0 ~tBz.sorted_0 ~ud40 ~vcm3 ~wlG1 ~xOr.inr1 ~yEb0 ~zlK3 ~AgE0 ~BEa0 ~CEc0 ~DDZ0 ~ElC5 ~FjD0 ~GEj0 ~HEi0 ~IdD1 ~JEg0 ~KBz.tuple_0 ~Lmf0 ~MEd0 ~Nju0 ~OEp0 ~PEo0 ~QEh0 ~Rkj1 ~SBz.sum_0 ~TqF0 ~UEr0 ~VEe0 ~WEw0 ~XBz.int_0 ~Yve0 ~ZpU3 ~*Ek0 ~+uT0 ~-IQ0 ~/IR0 ~:nB1 ~;%list0 ~?Et0 ~[xT2 ~]iM1 ~^Bz.str_0 'avf0 'bEJ0 'cvc0 'dEm0 'enA1 'fBz.any_0 'gvd0 'h%int0 'izc1 'j%bool0 'kBz.bool_0 'lxk0 'mzt5 'nJY0 'oJs0 'pJt0 'qqE0 'rl82 'spk0 'tEx0 'uzg1 'vzb2 'ww51 'xEy0 'yEF0 'zkW6 'ABz.max_0 'BzF0 'CEG0 'Dtp3 'EEu0 'FtL6 'GBz.set_0 'Hxj= 'ItK0 'JJZ0 'KzJ0 'LER0 'MEz0 'NES0 'OEH0 'PEl0 'Q%tuple0 'Rxv3 'SEs0 'TEn0 'UFV0 'VFm0 'WEA0 'XBW0 'YBX3 'ZBz.enumerate_0 '*zd2 '+w90 '-CV1 '/yl0 ':nq0 ';uJ4 '?xg0 '[PySem.F.slot_list_pop0 ']PySem.F.type_list_pop0 '^zW0 {azD1 {bFN0 {cDd0 {dF80 {eDc4 {fEI0 {gPySem.F.slot_list_extend0 {hPySem.F.type_list_extend0 {iyf0 {jFg0 {kCB0 {lE40 {mE30 {nyu1 {oPySem.F.slot_str_join0 {pPySem.F.type_str_join0 {qzV0 {rEf0 {sFh0 {tFi0 {uAI3 {vFC0 {wFD0 {xDw2 {yCA0 {zFQ0 {AK_Sum0 {BFP0 {CGa0 {DFZ0 {EFO0 {FFu0 {GF90 {HE70 {IF00 {JFs0 {KFE0 {LFF0 {MET0 {NFv0 {OEK0 {PE80 {QEL0 {REB0 {SFe0 {TFG0 {UFj0 {VEU0 {WE90 {XFw0 {YEV0 {ZFk0 {*Fx0 {+FR0 {-%str0 {/PySem.F.slot_str_split0 {:PySem.F.type_str_split0 {;zI0 {?EZ0 {[Fn0 {]FH0 {^Fy0 }aGb0 }bAS0 }cEE0 }dF10 }eFp0 }fEM0 }gE20 }hEW0 }iEO0 }jFb0 }kEN0 }lEC0 }mEv0 }nFq0 }oFI0".splitOn " "
def run(s:String)(ts:Array Term):MacroM Term:=do
 let l:=s.toList
 let r:=l.head?==some ':'
 unless (r||(l.head?==some ';')) do Macro.throwUnsupported
 let (t,_)<-(dec (if r then `tVar else `pv) ts (if r then tbR else tbF) 500).run l.tail
 let h:=mkIdent `hr;let u:=mkIdent `hu;let n:=mkIdent `nd;if r then `(by exact $t) else `(fun $h $u $n=>by exact $t)
end O9
local macro_rules|`(tactic|ac_nf)=>`(tactic|dsimp only[$(Lean.mkIdent `L2.start):ident,List.map,List.length_cons,List.length_nil,Nat.reduceAdd,Nat.reduceSub,List.replicate_succ,List.replicate_zero,List.cons_append,List.nil_append])
local macro_rules|`(↑$x)=>`(some (.ref $x))
local macro_rules|`(⇑$x)=>`(some (.int $x))
local macro_rules|`(↥$x)=>`(some (.lst $x))
local macro_rules|`(∅)=>`(List Int)
local macro_rules|`(#[$ts,*])=>let a:=ts.getElems;match a[0]? with|none=>Lean.Macro.throwUnsupported|some e=>match e.raw.isStrLit? with|some s=>O9.run s (a.extract 1 a.size)|none=>match e.raw.isNatLit? with|some 0=>`(by omega)|some 1=>`(by decide)|_=>Lean.Macro.throwUnsupported
namespace L2
open PySem PySem.Spec PyProof.Rows
abbrev GG:=@List.length_map
abbrev GH:=@List.getElem?_eq_getElem
abbrev GI:=@decide_eq_false
abbrev GK:=@List.getElem?_map
abbrev GL:=@decide_eq_true
abbrev GM:=@Bool.false_ne_true
abbrev GN:=@List.getElem?_eq_some_iff
abbrev GO:=@Heap.get?_push_of_some
abbrev GP:=@Nat.le_refl
abbrev GQ:=@List.mem_of_getElem?
abbrev GR:=@List.mem_cons_of_mem
abbrev GS:=@Nat.le_trans
abbrev GT:=@List.size_toArray
abbrev GU:=@List.mem_cons
abbrev GV:=@List.mem_cons_self
abbrev GW:=@List.mem_singleton
abbrev GX:=@decide_eq_true_eq
abbrev GY:=@Heap.lt_size
abbrev GZ:=@List.all_eq_true
abbrev G0:=@List.mem_range
abbrev G1:=@List.mem_map
abbrev G2:=@PySem.F.plainAttrs_list
abbrev G3:=@if_neg
abbrev G4:=@List.getElem?_eq_none
abbrev G5:=@Nat.lt_of_lt_of_le
abbrev G7:=@Bool.and_eq_true
abbrev G8:=@Heap.get?_push_size
abbrev G9:=@if_pos
abbrev Ha:=@List.length_append
abbrev Hc:=@List.mem_append
abbrev Hd:=@List.map_cons
abbrev He:=@List.length_cons
abbrev Hf:=@List.getElem_mem
abbrev Hg:=@List.length_filter_le
abbrev Hh:=@List.mem_append_right
abbrev Hi:=@PySem.F.slot_list_append
abbrev Hj:=@PySem.F.type_list_append
abbrev Hk:=@Nat.ne_of_lt
abbrev Hl:=@wpAny_bind
abbrev Hm:=@List.filter_append
abbrev Hn:=@List.map_map
abbrev Ho:=@List.getElem?_append_left
abbrev Hq:=@Int.emod_lt_of_pos
abbrev Hr:=@PassesOwn.never
abbrev Hs:=@Nat.le_of_lt
abbrev Ht:=@List.take_of_length_le
abbrev Hu:=@List.getElem?_append_right
abbrev Hv:=@List.filter_cons
abbrev Hw:=@List.lookup_cons
abbrev Hx:=@Bool.eq_iff_iff
abbrev Hy:=@of_decide_eq_true
abbrev Hz:=@Bool.false_and
abbrev HA:=@Nat.le_of_ble_eq_true
abbrev HB:=@Bool.true_and
abbrev HC:=@List.mem_filter
abbrev HD:=@Int.emod_nonneg
abbrev HE:=@wpAny_pure
abbrev HF:=@PyProof.Rows.callWith_type1
abbrev HG:=@Nat.zero_le
abbrev HH:=@List.range_succ
abbrev HI:=@Int.toNat_natCast
abbrev HJ:=@List.eq_nil_of_length_eq_zero
abbrev HK:=@List.nodup_cons
abbrev HL:=@PySem.mem_of_lookup
abbrev HM:=@List.getElem?_range
abbrev HN:=@wpAny_mono
abbrev HP:=@Nat.lt_irrefl
abbrev HQ:=@PySem.W.kia_one
abbrev HR:=@List.foldl_cons
abbrev HS:=@wpAny_Call_Name_kw
abbrev HU:=@Nat.lt_of_le_of_lt
abbrev HV:=@List.length_take
abbrev HW:=@Nat.lt_succ_of_lt
abbrev HX:=@List.length_range
abbrev HY:=@List.map_append
abbrev HZ:=@List.not_mem_nil
abbrev Ia:=@Bool.false_or
abbrev Ib:=@List.mem_iff_getElem
abbrev Ic:=@wpAny_truthy_bool
abbrev Id:=@List.ext_getElem?
abbrev Ie:=@List.filter_cons_of_pos
abbrev Ig:=@Option.some.inj
abbrev Ih:=@List.countP_eq_length_filter
abbrev Ii:=@List.map_congr_left
abbrev Ij:=@List.any_eq_true
abbrev Ik:=@Heap.size_push
abbrev Il:=@wpAny_passesOwn
abbrev Im:=@List.find?_cons
abbrev Io:=@List.mem_append_left
abbrev Ip:=@List.nodup_append
abbrev Iq:=@Int.zero_add
abbrev Ir:=@List.map_take
abbrev Iu:=@List.replicate_succ
abbrev Iv:=@List.filter_eq_self
abbrev Iw:=@wpAny_getItem_str_slice
abbrev Ix:=@List.take_length
abbrev Iy:=@List.filter_cons_of_neg
abbrev Iz:=@Calls.spliced_cons
abbrev IA:=@call_meets
abbrev IB:=@List.set_set
abbrev IC:=@List.sum_cons
abbrev ID:=@wpAny_pyIter_list
abbrev IE:=@Calls.spliced_nil
abbrev IF:=@beq_iff_eq
abbrev IG:=@Int.mul_nonneg
abbrev IH:=@List.take_succ
abbrev II:=@Nat.lt_succ_self
abbrev IJ:=@List.all_map
abbrev IK:=@List.map_id'
abbrev IL:=@Nat.min_eq_right
abbrev IM:=@beq_eq_false_iff_ne
abbrev IN:=@Array.length_toList
abbrev IO:=@Bool.or_eq_true
abbrev IP:=@List.mem_filterMap
abbrev IQ:=@PySem.F.slot_list_index
abbrev IR:=@PySem.F.type_list_index
abbrev IS:=@List.flatten_cons
abbrev IT:=@Option.map_eq_some_iff
abbrev IU:=@List.nodup_nil
abbrev IV:=@Bool.not_eq_true'
abbrev IW:=@List.findIdx_lt_length_of_exists
abbrev IX:=@Bool.true_or
abbrev IY:=@List.length_replicate
abbrev IZ:=@List.length_singleton
abbrev I0:=@builtinLookup_eq_fast
abbrev Ja:=@PyProof.Rows.callWith_builtin1
abbrev Jb:=@typeIs_str
abbrev Jc:=@Nat.le_add_right
abbrev Jd:=@List.all_cons
abbrev Je:=@Nat.le_succ
abbrev Jf:=@List.mem_of_mem_take
abbrev Jg:=@Nat.mul_le_mul_right
abbrev Jh:=@wpAny_execs_nil
abbrev Ji:=@pushCells_keeps
abbrev Jj:=@post_val_or_str
abbrev Jk:=@List.filter_map
abbrev Jl:=@Nat.min_eq_left
abbrev Jm:=@List.filterMap_cons
abbrev Jn:=@PySem.W.plainGet_of
abbrev Jo:=@Nat.add_le_add_left
abbrev Jp:=@ne_true_of_eq_false
abbrev Jq:=@List.length_pos_iff
abbrev Jr:=@Nat.ne_of_gt
abbrev Js:=@PySem.F.slot_int_bit_length
abbrev Jt:=@PySem.F.type_int_bit_length
abbrev Ju:=@Calls.Name_function_global
abbrev Jv:=@Int.fdiv_eq_ediv_of_nonneg
abbrev Jw:=@PySem.W.callWith_K
abbrev Jx:=@tupleKind_room_in1
abbrev Jy:=@F.args_str_split_2
abbrev Jz:=@List.pairwise_cons
abbrev JA:=@List.map_replicate
abbrev JB:=@List.mem_replicate
abbrev JC:=@decide_eq_true_iff
abbrev JD:=@PySem.F.slot_dict_getitem
abbrev JE:=@Option.some.injEq
abbrev JF:=@Ne.symm
abbrev JG:=@List.any_eq_false
abbrev JH:=@List.append_assoc
abbrev JI:=@F.entry_str_split
abbrev JJ:=@List.foldl_append
abbrev JK:=@List.any_cons
abbrev JL:=@wpAny_comprehension_free
abbrev JM:=@Bool.and_self
abbrev JN:=@List.map_drop
abbrev JO:=@or_false
abbrev JP:=@F.slot_str_split
abbrev JR:=@List.getElem?_set_self
abbrev JS:=@wpAny_Name
abbrev JT:=@PySem.W.cellsFrom_some
abbrev JU:=@subscriptTail_builtinR
abbrev JV:=@Calls.callWith_builtin
abbrev JW:=@Txt.slice_le
abbrev JX:=@List.drop_eq_nil_of_le
abbrev JY:=@PySem.F.plainAttrs_int
abbrev JZ:=@PySem.F.plainAttrs_str
abbrev J0:=@Option.map_some
abbrev J1:=@List.of_mem_zip
abbrev J3:=@typeLookup_type
abbrev J4:=@wpAny_storeName_local
abbrev J5:=@Array.getElem?_toList
abbrev J6:=@PySem.W.methodCall_KW
abbrev J7:=@List.countP_mono_left
abbrev J8:=@List.map_id
abbrev Ka:=@wpAny_standAt
abbrev Kb:=@Walks.list
abbrev Ke:=@codeAny_mono
abbrev Kf:=@if_true
abbrev Kg:=@Nat.succ_mul
abbrev Kh:=@List.any_map
abbrev Key:=Sum Int Str
def keyIs:Key->Value->Bool
 | .inl k,v=>Value.isInt k v
 | .inr x,v=>Value.isStrOf x v
def keyH(w:World):Key->Int
 | .inl k=>hashInt k
 | .inr x=>hashStr w x
theorem ce:∀{k:Key} {v:Value},keyIs k v=true->(∃ i t,k=Sum.inl i/\v=Value.int i t)\/(∃ x t,k=Sum.inr x/\v=Value.str x t)
 | .inl i,v,h=>by
  obtain⟨t,e⟩:=Value.isInt_shape (k:=i) (v:=v) h;exact .inl ⟨i,t,rfl,e⟩
 | .inr x,v,h=>by
  obtain⟨t,e⟩:=Value.isStrOf_shape (x:=x) (v:=v) h;exact .inr ⟨x,t,rfl,e⟩
def y8(i:Int)(t:Tok):keyIs (.inl i) (.int i t)=true:=by simp[keyIs,Value.isInt]
def y9(x:Str)(t:Tok):keyIs (.inr x) (.str x t)=true:=by simp[keyIs,Value.isStrOf]
def Co(a b:Int):decide ((Sum.inl a:Key)=Sum.inl b)=(a==b):=by
 by_cases e:a=b
 . subst e;simp
 . have h:¬ (Sum.inl a:Key)=Sum.inl b:=fun q=>e (Sum.inl.inj q);rw[GI h];exact(IM.mpr e).symm
def Cp(a b:Str):decide ((Sum.inr a:Key)=Sum.inr b)=decide (a=b):=by
 by_cases e:a=b
 . subst e;simp
 . have h:¬ (Sum.inr a:Key)=Sum.inr b:=fun q=>e (Sum.inr.inj q);rw[GI h,GI e]
def Cq(a:Int)(b:Str):decide ((Sum.inl a:Key)=Sum.inr b)=false:=GI (fun q=>nomatch q)
def Cr(a:Str)(b:Int):decide ((Sum.inr a:Key)=Sum.inl b)=false:=GI (fun q=>nomatch q)
def fi(prog:Program)(w:World):PySem.KeyKind prog w Key where
 is:=keyIs
 hash:=keyH w
 inj:=fun v a b ha hb=>by
  rcases ce ha with ⟨i,t,rfl,rfl⟩ | ⟨x,t,rfl,rfl⟩
  . rcases ce hb with ⟨j,u,rfl,e⟩ | ⟨y,u,rfl,e⟩
    . injection e with e1 _;rw[e1]
    . exact nomatch e
  . rcases ce hb with ⟨j,u,rfl,e⟩ | ⟨y,u,rfl,e⟩
    . exact nomatch e
    . injection e with e1 _;rw[e1]
 byValue:=fun k v h=>by
  rcases ce h with ⟨i,t,rfl,rfl⟩ | ⟨x,t,rfl,rfl⟩ <;> rfl
 pyHash:=fun hv h=>by
  rcases ce hv with ⟨i,t,rfl,rfl⟩ | ⟨x,t,rfl,rfl⟩
  . exact wpAny_pyHash_int h
  . exact wpAny_pyHash_str h
 eqBool:=fun hu hv h=>by
  rcases ce hu with ⟨i,t,rfl,rfl⟩ | ⟨x,t,rfl,rfl⟩
  . rcases ce hv with ⟨j,u,rfl,rfl⟩ | ⟨y,u,rfl,rfl⟩
    . rw[Co] at h;exact wpAny_eqBool_int h
    . rw[Cq] at h;exact SeqAt.EqAt.int_str i t y u _ _ _ _ h
  . rcases ce hv with ⟨j,u,rfl,rfl⟩ | ⟨y,u,rfl,rfl⟩
    . rw[Cr] at h;exact SeqAt.EqAt.str_int x t j u _ _ _ _ h
    . rw[Cp] at h;exact wpAny_eqBool_str h
 «strs»:=fun k x t v h=>by
  rcases ce h with ⟨i,u,rfl,e⟩ | ⟨y,u,rfl,e⟩
  . exact nomatch e
  . injection e with e1 _;subst e1;cases v <;> rfl
def wv(prog:Program)(w:World)(i:Int)(t:Tok):(fi prog w).is (.inl i) (.int i t)=true:=y8 i t
def ww(prog:Program)(w:World)(x:Str)(t:Tok):(fi prog w).is (.inr x) (.str x t)=true:=y9 x t
inductive V where
 | non | bl (b:Bool) | int (i:Int) | str (x:Str) | byt (b:Array UInt8) | flt (b:UInt64) | ref (a:Addr) | ty (n:String)
 deriving DecidableEq
def RelV:V->Value->Prop
 | .non,u=>u=Value.none
 | .bl b,u=>u=Value.bool b
 | .int i,u=>∃ t,u=Value.int i t
 | .str x,u=>∃ t,u=Value.str x t
 | .byt b,u=>∃ t,u=Value.bytes b t
 | .flt b,u=>∃ t,u=Value.float b t
 | .ref a,u=>u=Value.ref a
 | .ty n,u=>u=Value.type n
abbrev Vals:List V->List Value->Prop:=Paired RelV
def Vals.length{xs:List V}{us:List Value}(r:Vals xs us):xs.length=us.length:=Paired.length r
theorem Vals.get:∀{xs:List V} {us:List Value} {i:Nat} {x:V},Vals xs us->xs[i]? =some x->∃ u,us[i]? =some u/\RelV x u
 | _,_,_,_,.nil,e=>by simp at e
 | _,_,0,_,.cons r _,e=>by simp at e;subst e;exact⟨_,rfl,r⟩
 | _,_,i+1,x,.cons _ t,e=>by
  obtain⟨u,h1,h2⟩:=Vals.get (i:=i) (x:=x) t (by simpa using e);exact⟨u,by simpa using h1,h2⟩
theorem Vals.append:∀{xs ys:List V} {us ws:List Value},Vals xs us->Vals ys ws->Vals (xs++ys) (us++ws)
 | _,_,_,_,.nil,s=>s
 | _,_,_,_,.cons r t,s=>.cons r (Vals.append t s)
theorem Vals.take:∀{xs:List V} {us:List Value} (n:Nat),Vals xs us->Vals (xs.take n) (us.take n)
 | _,_,0,_=>.nil
 | _,_,_+1,.nil=>.nil
 | _,_,n+1,.cons r t=>.cons r (Vals.take n t)
theorem Vals.drop:∀{xs:List V} {us:List Value} (n:Nat),Vals xs us->Vals (xs.drop n) (us.drop n)
 | _,_,0,r=>r
 | _,_,_+1,.nil=>.nil
 | _,_,n+1,.cons _ t=>Vals.drop n t
def RelO:Option V->Option Value->Prop
 | some v,some u=>RelV v u
 | none,none=>True
 | _,_=>False
def KV{κ:Type}:List (κ × V)->List (κ × Value)->Prop:=Paired fun(p:κ × V) (q:κ × Value)=>p.1=q.1/\RelV p.2 q.2
def kV:Key->V
 | .inl i=>.int i
 | .inr x=>.str x
inductive HO where
  | lst (xs:List V)
  | tup (xs:List V)
  | dK (GA:List (Key × V)) | dT (GA:List (List Key × V))
  | set (S:Int->Bool) (n:Nat)
  | ins (C dx:Addr) (fs:List (Str × V))
  | own (x:Addr)
  | xd (fs:List (Str × V))
  | met (f x:Addr)
  | rng (lo hi:Int)
  | frz (o:Obj) (u:HO)
  | tbl (ps:Array Value)
  | ext (φ:Heap->Prop)
abbrev Hp:=Addr->Option HO
def upd(H:Hp)(a:Addr)(o:HO):Hp:=fun b=>if b=a then some o else H b
variable{H:Hp}{a:Addr}
def ah{o:HO}:upd H a o a=some o:=by unfold upd;rw[G9 rfl]
variable{b:Addr}
def aj{o:HO}(h:b≠a):upd H a o b=H b:=by unfold upd;rw[G3 h]
def av{o:HO}(h:H a=some o)(h':H b=none):a≠b:=by
 intro e;subst e;rw[h] at h';cases h'
section
variable(P:Program)(w:World)
def ObjOk(H:Hp)(h:Heap)(a:Addr):HO->Prop
 | .lst xs=>xs.length<=sizeLine/\∃(GB:List Value) (n:Nat),Vals xs GB/\h.get? a=some {cls:=.type "list",data:=.seq GB.toArray n}
 | .tup xs=>xs.length<=sizeLine/\∃ GB:List Value,Vals xs GB/\IsTup h a GB.toArray
 | .dK GA=>GA.length<=sizeLine/\(a==sysModules)=false/\∃ vs,KV GA vs/\h.DictOf (fi P w) a vs
 | .dT GA=>GA.length<=sizeLine/\(a==sysModules)=false/\∃ xs:List (List Key × Addr × Value),
   Paired (fun(p:List Key × V) (q:List Key × Addr × Value)=>p.1=q.1/\H q.2.1=some (.tup (p.1.map kV))/\RelV p.2 q.2.2) GA xs/\
   ∃ o es ep,h.get? a=some o/\o.ExactDict/\o.data=.dict es ep/\es.toList=xs.map (entryOfKey (tupleKind (fi P w)))/\(xs.map (·.1)).Nodup
 | .set S n=>h.SetOf (intKind P w) a S n
 | .ins C dx fs=>H dx=some (.own a)/\fs.length<=1000/\dx≠a/\h.get? a=some (PySem.W.instObj C dx)/\
   ∃ mA,h.Ns1 dx mA/\(∀ f,RelO (fs.lookup f) (mA f))/\PySem.Within mA (fs.map (·.1))
 | .own _=>∃ o,h.get? a=some o
 | .xd fs=>∃ mA,h.Ns1 a mA/\∀ f,RelO (fs.lookup f) (mA f)
 | .rng lo hi=>∃ t u v,h.get? a=some {cls:=.type "range",data:=.fields #[.int lo t,.int hi u,.int 1 v]}
 | .frz o u=>h.get? a=some o/\ObjOk H h a u
 | .tbl ps=>h.get? a=some {cls:=.none,data:=.fields ps}
 | .met f x=>h.get? a=some (PySem.W.methodObj (.ref f) (.ref x))
 | .ext φ=>φ h/\(∃ o,h.get? a=some o)/\∀ h1 h2:Heap,φ h1->(∀ o,h1.get? a=some o->h2.get? a=some o)->φ h2
def HOk(H:Hp)(h:Heap):Prop:=∀ a o,H a=some o->ObjOk P w H h a o
end
section
variable{P:Program}{w:World}{H H':Hp}{h h':Heap}{a:Addr}{o:HO}
theorem ObjOk.lt(x:ObjOk P w H h a o):a<h.objs.size:=by
 cases o with
 | lst xs=>obtain⟨_,_,_,_,e⟩:=x;exact GY e
 | tup xs=>obtain⟨_,_,_,p⟩:=x;exact p.lt
 | dK GA=>obtain⟨_,_,_,_,o,_,_,e,_⟩:=x;exact GY e
 | dT GA=>obtain⟨_,_,_,_,o,_,_,e,_⟩:=x;exact GY e
 | set S n=>obtain⟨o,_,_,_,e,_⟩:=x;exact GY e
 | ins C dx fs=>obtain⟨_,_,_,e,_⟩:=x;exact GY e
 | own y=>obtain⟨_,e⟩:=x;exact GY e
 | xd fs=>obtain⟨_,⟨_,_,_,e,_⟩,_⟩:=x;exact GY e
 | rng lo hi=>obtain⟨_,_,_,e⟩:=x;exact GY e
 | frz ob u=>obtain⟨e,_⟩:=x;exact GY e
 | tbl ps=>exact GY (show h.get? a=some _ from x)
 | met f y=>exact GY (show h.get? a=some _ from x)
 | ext φ=>obtain⟨_,⟨_,e⟩,_⟩:=x;exact GY e
theorem Paired.mapP{α β:Type}{F G:α->β->Prop}:∀{l₁:List α} {l₂:List β},Paired F l₁ l₂->(∀ a b,F a b->G a b)->Paired G l₁ l₂
 | _,_,.nil,_=>.nil
 | _,_,.cons r t,f=>.cons (f _ _ r) (Paired.mapP t f)
theorem ObjOk.stay (x:ObjOk P w H h a o) (k:∀ b u,(b=a\/H b=some (.own a))->h.get? b=some u->h'.get? b=some u)
  (ho:∀ b,H b=some (.own a)->H' b=some (.own a)) (ht:∀ b xs,H b=some (.tup xs)->H' b=some (.tup xs)):ObjOk P w H' h' a o:=by
 induction o with
 | lst xs=>obtain⟨z,GB,n,r,e⟩:=x;exact⟨z,GB,n,r,k _ _ (.inl rfl) e⟩
 | tup xs=>obtain⟨z,GB,r,ob,e,c⟩:=x;exact⟨z,GB,r,ob,k _ _ (.inl rfl) e,c⟩
 | dK GA=>obtain⟨z,y,vs,r,ob,es,ep,e,c⟩:=x;exact⟨z,y,vs,r,ob,es,ep,k _ _ (.inl rfl) e,c⟩
 | dT GA=>
  obtain⟨z,y,xs,r,ob,es,ep,e,c⟩:=x;exact⟨z,y,xs,Paired.mapP r fun p q z=>⟨z.1,ht _ _ z.2.1,z.2.2⟩,ob,es,ep,k _ _ (.inl rfl) e,c⟩
 | set S n=>obtain⟨ob,es,ep,t,e,c⟩:=x;exact⟨ob,es,ep,t,k _ _ (.inl rfl) e,c⟩
 | ins C dx fs=>
  obtain⟨d,z,ne,e,mA,⟨od,es,ep,e2,c⟩,r⟩:=x;exact⟨ho _ d,z,ne,k _ _ (.inl rfl) e,mA,⟨od,es,ep,k _ _ (.inr d) e2,c⟩,r⟩
 | own y=>obtain⟨ob,e⟩:=x;exact⟨ob,k _ _ (.inl rfl) e⟩
 | xd fs=>obtain⟨mA,⟨od,es,ep,e,c⟩,r⟩:=x;exact⟨mA,⟨od,es,ep,k _ _ (.inl rfl) e,c⟩,r⟩
 | rng lo hi=>obtain⟨t,u,v,e⟩:=x;exact⟨t,u,v,k _ _ (.inl rfl) e⟩
 | frz ob u ih=>obtain⟨e,q⟩:=x;exact⟨k _ _ (.inl rfl) e,ih q⟩
 | tbl ps=>
  have e:h.get? a=some {cls:=.none,data:=.fields ps}:=x;show h'.get? a=some {cls:=.none,data:=.fields ps};exact k a _ (.inl rfl) e
 | met f y=>
  have e:h.get? a=some (PySem.W.methodObj (.ref f) (.ref y)):=x;show h'.get? a=some (PySem.W.methodObj (.ref f) (.ref y));exact k a _ (.inl rfl) e
 | ext φ=>obtain⟨p,⟨o,e⟩,st⟩:=x;exact⟨st _ _ p fun o q=>k _ _ (.inl rfl) q,⟨o,k _ _ (.inl rfl) e⟩,st⟩
def HOk.lt(x:HOk P w H h)(e:H a=some o):a<h.objs.size:=(x a o e).lt
theorem HOk.fresh(x:HOk P w H h)(e:h.objs.size<=a):H a=none:=by
 cases q:H a with
 | none=>rfl
 | some u=>exact absurd (G5 (x.lt q) e) (HP _)
def HOk.kept(x:HOk P w H h)(k:∀ b u,h.get? b=some u->h'.get? b=some u):HOk P w H h':=fun a o e=>
 (x a o e).stay (fun b u _ q=>k b u q) (fun _ q=>q) fun _ _ q=>q
def HOk.laid(x:HOk P w H h)(k:∀ b u,h.get? b=some u->h'.get? b=some u)(hp:h.objs.size<=a)(new:ObjOk P w (upd H a o) h' a o):HOk P w (upd H a o) h':=fun b u e=>by
 have hn:=x.fresh hp;by_cases hb:b=a
 . subst hb;rw[ah] at e;cases e;exact new
 . rw[aj hb] at e;exact(x b u e).stay (fun c v _ q=>k c v q) (fun c q=>by rw[aj (av q hn)];exact q) fun c xs q=>by rw[aj (av q hn)];exact q
end
def Rd(H:Hp)(a:Addr)(u:HO):Prop:=H a=some u\/∃ o,H a=some (.frz o u)
variable{h:Heap}
def Rd.ok{P:Program}{w:World}{u:HO}(r:Rd H a u)(x:HOk P w H h):ObjOk P w H h a u:=by
 rcases r with r | ⟨o,r⟩
 . exact x a u r
 . obtain⟨_,q⟩:=x a _ r;exact q
def Mut:Option HO->Prop
 | ↥_=>True
 | some (.dK _)=>True
 | some (.dT _)=>True
 | some (.set _ _)=>True
 | some (.ins _ _ _)=>True
 | some (.ext _)=>True
 | _=>False
section
variable{P:Program}{w:World}{H:Hp}{h h':Heap}{x e:Addr}{o':HO}
def HOk.write (ok:HOk P w H h) (mu:Mut (H x)) (he:e=x\/H e=some (.own x)) (k:∀ b u,b≠e->h.get? b=some u->h'.get? b=some u) (heo:∃ u,h'.get? e=some u)
  (new:ObjOk P w (upd H x o') h' x o'):HOk P w (upd H x o') h':=fun b u q=>by
 have nown:∀ c y,H c=some (.own y)->c≠x:=fun c y r z=>by subst z;rw[r] at mu;exact mu
 have ntup:∀ c xs,H c=some (.tup xs)->c≠x:=fun c xs r z=>by subst z;rw[r] at mu;exact mu
 by_cases hb:b=x
 . subst hb;rw[ah] at q;cases q;exact new
 . rw[aj hb] at q;by_cases hbe:b=e
   . have q':H b=some (.own x):=by
      rcases he with z | z
      . exact absurd (hbe.trans z) hb
      . rw[hbe];exact z
     rw[q] at q';cases q';obtain⟨v,hv⟩:=heo;exact⟨v,by rw[hbe];exact hv⟩
   . refine(ok b u q).stay (fun c v hc r=>k c v ?_ r) (fun c r=>by rw[aj (nown c b r)];exact r) fun c xs r=>by rw[aj (ntup c xs r)];exact r
     rcases hc with rfl | hc
     . exact hbe
     . rintro rfl;rcases he with z | z
       . exact nown c b hc z
       . rw[hc] at z;cases z;exact hb rfl
end
structure Un(fs ex:List Addr)(H H':Hp)(h h':Heap):Prop where
 keep:∀ b o,h.get? b=some o->H b=none->b∉fs->b∉ex->h'.get? b=some o
 slot:∀ b o,h.get? b=some o->H b=none->b∈fs->b∉ex->∃ sl,h'.get? b=some {o with slots:=sl}
 free:∀ b o,h.get? b=some o->H b=none->b∉ex->H' b=none
 there:∀ b o,h.get? b=some o->b∉ex->∃ o',h'.get? b=some o'
 tups:∀ b xs,H b=some (.tup xs)->H' b=some (.tup xs)
 frzs:∀ b o u,H b=some (.frz o u)->H' b=some (.frz o u)
 tbls:∀ b ps,H b=some (.tbl ps)->∃ more,H' b=some (.tbl (ps++more))
section
variable{fs fs' ex ex':List Addr}{H H1 H2:Hp}{h h1 h2 h':Heap}{a x e:Addr}{o:HO}
def Un.any(u:Un fs ex H H1 h h1){b:Addr}{ob:Obj}(q:h.get? b=some ob)(n:H b=none)(hx:b∉ex):∃ sl,h1.get? b=some {ob with slots:=sl}:=by
 by_cases hb:b∈fs
 . exact u.slot b ob q n hb hx
 . exact⟨ob.slots,u.keep b ob q n hb hx⟩
def Un.kept(k:∀ b u,h.get? b=some u->h'.get? b=some u):Un fs ex H H h h':=
 ⟨fun b ob q _ _ _=>k b ob q,fun b ob q _ _ _=>⟨ob.slots,k b ob q⟩,fun _ _ _ n _=>n,fun b ob q _=>⟨ob,k b ob q⟩,fun _ _ q=>q,fun _ _ _ q=>q,fun _ ps q=>⟨#[],by rw[q];simp⟩⟩
def Un.refl:Un fs ex H H h h:=Un.kept fun _ _ q=>q
def Un.laid(k:∀ b u,h.get? b=some u->h'.get? b=some u)(hp:h.objs.size<=a)(hn:H a=none):Un fs ex H (upd H a o) h h' where
 keep:=fun b u q _ _ _=>k b u q
 slot:=fun b u q _ _ _=>⟨u.slots,k b u q⟩
 free:=fun b u q n _=>by rw[aj (Hk (G5 (GY q) hp))];exact n
 there:=fun b u q _=>⟨u,k b u q⟩
 tups:=fun b xs q=>by rw[aj (av q hn)];exact q
 frzs:=fun b u xs q=>by rw[aj (av q hn)];exact q
 tbls:=fun b ps q=>⟨#[],by rw[aj (av q hn),q];simp⟩
def Un.write(mu:Mut (H x))(he:e=x\/H e=some (.own x))(k:∀ b u,b≠e->h.get? b=some u->h'.get? b=some u)(heo:∃ u,h'.get? e=some u):Un fs ex H (upd H x o) h h':=by
 have hx:∀ b,H b=none->b≠x:=fun b n z=>by subst z;rw[n] at mu;exact mu
 have hb:∀ b,H b=none->b≠e:=fun b n z=>by
  subst z;rcases he with r | r
  . exact hx b n r
  . rw[n] at r;cases r
 have hm:∀ b u,H b=some u->¬ Mut (some u)->b≠x:=fun b u q nm z=>by subst z;rw[q] at mu;exact nm mu
 refine⟨fun b u q n _ _=>k b u (hb b n) q,fun b u q n _ _=>⟨u.slots,k b u (hb b n) q⟩,fun b u q n _=>by rw[aj (hx b n)];exact n,fun b u q _=>?_,
  fun b xs q=>by rw[aj (hm b _ q fun z=>z)];exact q,fun b u xs q=>by rw[aj (hm b _ q fun z=>z)];exact q,fun b ps q=>⟨#[],by rw[aj (hm b _ q fun z=>z),q];simp⟩⟩
 by_cases hbe:b=e
 . subst hbe;exact heo
 . exact⟨u,k b u hbe q⟩
end
def trk(h:Heap)(H:Hp):List Addr:=(List.range h.objs.size).filter fun a=>(H a).isSome
def hidT(h:Heap)(H:Hp):Heap:=PySem.W.hideAll h (trk h H)
def za(h:Heap)(H:Hp):(hidT h H).objs.size=h.objs.size:=PySem.W.hideAll_size _ _
variable{o:Obj}
def AG(e:h.get? b=some o)(n:H b=none):(hidT h H).get? b=some o:=
 PySem.W.hideAll_get _ e fun hm=>by
  have q:(H b).isSome=true:=(HC.mp hm).2;rw[n] at q;simp at q
theorem BF(e:(hidT h H).get? b=some o):h.get? b=some o/\H b=none:=by
 have e':h.get? b=some o:=PySem.W.of_hideAll (trk h H) e;refine⟨e',?_⟩
 cases q:H b with
 | none=>rfl
 | some x=>
  have hm:b∈trk h H:=HC.mpr ⟨G0.mpr (GY e'),by simp[q]⟩;have z:(hidT h H).get? b=none:=PySem.W.hideAll_none (trk h H) hm;rw[z] at e;cases e
def lB(g h:Heap)(L:Addr):List (Addr × Obj):=(List.range h.objs.size).filterMap fun a=>if a=L\/(g.get? a).isSome=true then none else(h.get? a).map fun o=>(a,o)
variable{L:Addr}
def o9{g:Heap}(h1:a≠L)(h2:g.get? a=none)(h3:h.get? a=some o):(a,o)∈lB g h L:=
 IP.mpr ⟨a,G0.mpr (GY h3),by simp[h1,h2,h3]⟩
def sf{g:Heap}{p:Addr × Obj}(hp:p∈lB g h L):p.1≠L/\g.get? p.1=none/\h.get? p.1=some p.2:=by
 obtain⟨b,_,e⟩:=IP.mp hp
 split at e
 . cases e
 . rename_i hn
   cases q:h.get? b with
   | none=>rw[q] at e;simp at e
   | some u=>
    rw[q] at e;simp only[J0,JE] at e;subst e;refine⟨fun z=>hn (.inl z),?_,q⟩;show g.get? b=none
    cases r:g.get? b with
    | none=>rfl
    | some v=>exact(hn (.inr (by simp[r]))).elim
def AH{g:Heap}:News g L h (lB g h L):=fun p hp=>let ⟨a,b,c⟩:=sf hp;⟨c,a,b⟩
structure Mod(K:Frag)(mg:Str->Option Value)(base:Heap):Prop where
 kin:K.In base
 glob:base.Ns mainGlobals mg
 blt:∃ mb,base.Ns builtinsNs mb/\∀ x:Str,x≠"__name__"->mb x=bootBuiltins x
 nolimit:base.NoLimit
structure Cx where
 prog:Program
 w:World
 K:Frag
 mg:Str->Option Value
 base:Heap
 A:Around
 N:List Str
 s₀:Shared
 H₀:Hp
 env:Env
 outer:List Env
 stack:List Env
 ex:List Addr
 fn:Str->Bool
 calm:Bool
 pn:List (Addr × Obj)
 xe:Value->Shared->Prop
def frs(l:List Env):List Addr:=l.filterMap (·.frame)
abbrev Cx.fs(X:Cx):List Addr:=frs X.outer
def Vis(sc:Scope)(x:Str):Prop:=sc.names.lookup x=some .local\/sc.names.lookup x=some .cell\/sc.names.lookup x=some .free
def Loc(sc:Scope)(x:Str):Prop:=sc.names.lookup x=some .local\/sc.names.lookup x=some .cell
def Look(env:Env)(h:Heap)(m:Str->Option Value)(x:Str)(u:Value):Prop:=
 (env.kindOf x=some .local/\m x=some u)\/((env.kindOf x=some .cell\/env.kindOf x=some .free)/\∃ c,env.cells.lookup x=some c/\h.IsCell c (some u))
structure Cx.Ok(X:Cx):Prop where
 mod:Mod X.K X.mg X.base
 kind:X.env.scope.kind=.function
 glob:X.env.globals=mainGlobals
 blt:X.env.builtins=builtinsNs
 above:X.s₀.heap.objs.size<=X.env.locals
 inj:∀ x y c,X.env.cells.lookup x=some c->X.env.cells.lookup y=some c->x=y
 has:∀ x,(X.env.kindOf x=some .cell\/X.env.kindOf x=some .free)->∃ c,X.env.cells.lookup x=some c
 cab:∀ x c,X.fn x=true->X.env.cells.lookup x=some c->X.s₀.heap.objs.size<=c
 hd:X.calm=true->X.A.handled=none
 frames:X.A.frames=some X.stack
 stk:X.stack=X.outer\/(X.stack=X.env::X.outer/\X.env.frame=some X.env.locals)
 exf:∀ b∈X.ex,b≠X.env.locals/\∀ x c,X.env.cells.lookup x=some c->c≠b
 bs:∀ b o,X.base.get? b=some o->X.s₀.heap.get? b=some o/\X.H₀ b=none
 bsz:X.base.objs.size<=X.s₀.heap.objs.size
 noex:∀ b o,X.base.get? b=some o->b∉X.ex
 exfs:∀ b∈X.ex,b∉X.fs
 funs:X.s₀.heap.FunFrames X.base X.outer
 frf:∀ b∈X.fs,X.H₀ b=none
structure Inv(X:Cx)(Gx:List (Addr × Obj))(σ:List (Option V))(H:Hp)(s:Shared):Prop where
 ok:X.Ok
 os:s.os=X.s₀.os
 bare:AllBare s.gens
 base:Un X.fs X.ex X.H₀ H X.s₀.heap s.heap
 loc:∃ m,s.heap.Ns X.env.locals m/\∀(i:Nat) (x:Str) (v:V),X.N[i]? =some x->σ[i]? =some (some v)->Vis X.env.scope x->∃ u,RelV v u/\Look X.env s.heap m x u
 cell:∀ x c,X.env.cells.lookup x=some c->∃ v,s.heap.IsCell c v
 free:H X.env.locals=none
 freeC:∀ x c,X.env.cells.lookup x=some c->H c=none
 pin:∀ p∈X.pn++Gx,s.heap.get? p.1=some p.2/\H p.1=none/\p.1≠X.env.locals/\p.1∉X.fs/\∀ v,p.2.data≠.cell v
 hok:HOk X.prog X.w H s.heap
 len:σ.length=X.N.length
section
variable{X:Cx}{Gx:List (Addr × Obj)}{σ:List (Option V)}{H H':Hp}{s:Shared}{h':Heap}
def Cx.Ok.nofr(ok:X.Ok){b:Addr}{o:Obj}(e:X.base.get? b=some o):b∉X.fs:=fun hb=>by
 have:=(ok.funs.mem hb).1;rw[e] at this;cases this
def Inv.bs(I:Inv X Gx σ H s):∀ b o,X.base.get? b=some o->s.heap.get? b=some o/\H b=none:=fun b o e=>
 ⟨I.base.keep b o (I.ok.bs b o e).1 (I.ok.bs b o e).2 (I.ok.nofr e) (I.ok.noex b o e),I.base.free b o (I.ok.bs b o e).1 (I.ok.bs b o e).2 (I.ok.noex b o e)⟩
def Inv.bk(I:Inv X Gx σ H s):∀ b o,X.base.get? b=some o->s.heap.get? b=some o:=fun b o e=>(I.bs b o e).1
def Inv.mod(I:Inv X Gx σ H s):Mod X.K X.mg X.base:=I.ok.mod
def Inv.kIn(I:Inv X Gx σ H s):X.K.In s.heap:=I.ok.mod.kin.keeps I.bk
def Inv.fr(I:Inv X Gx σ H s):∃ m,Fr X.base X.env.locals s.heap m:=
 let ⟨m,hn,_⟩:=I.loc
 ⟨m,hn,I.bk,GS I.ok.bsz I.ok.above⟩
def Inv.lt(I:Inv X Gx σ H s):X.env.locals<s.heap.objs.size:=let ⟨_,hn,_⟩:=I.loc;hn.lt
def Inv.sz(I:Inv X Gx σ H s):X.s₀.heap.objs.size<=s.heap.objs.size:=GS I.ok.above (Hs I.lt)
def Inv.nofs(I:Inv X Gx σ H s){a:Addr}(h:s.heap.objs.size<=a):a∉X.fs:=fun hb=>by
 obtain⟨_,o,ho,_⟩:=I.ok.funs.mem hb;exact absurd (G5 (GY ho) (GS I.sz h)) (HP _)
def Inv.cne(I:Inv X Gx σ H s):∀ x c,X.env.cells.lookup x=some c->c≠X.env.locals:=fun x c e z=>by
 obtain⟨v,o,ho,hd⟩:=I.cell x c e;obtain⟨m,⟨o',es,ep,ho',hd',_⟩,_⟩:=I.loc;rw[z,ho'] at ho;cases ho;rw[hd'] at hd;cases hd
def Inv.funs(I:Inv X Gx σ H s):s.heap.FunFrames X.base X.outer:=by
 have all:∀(l:List Env),(∀ b∈frs l,b∈X.fs)->X.s₀.heap.FunFrames X.base l->s.heap.FunFrames X.base l:=by
  intro l
  induction l with
  | nil=>intro _ _;trivial
  | cons env r ih=>
   intro hs hl;obtain⟨hk,⟨L,o,hf,hn,ho,hd⟩,hr⟩:=hl;have hL:L∈X.fs:=hs L (by unfold frs;rw[Jm,hf];exact GV);obtain⟨sl,e⟩:=I.base.slot L o ho (I.ok.frf L hL) hL fun z=>I.ok.exfs L z hL;exact⟨hk,⟨L,_,hf,hn,e,hd⟩,ih (fun b hb=>hs b (by unfold frs;rw[Jm,hf];exact GR _ hb)) hr⟩
 exact all X.outer (fun _ hb=>hb) I.ok.funs
def Inv.stack(I:Inv X Gx σ H s):s.heap.FunFrames X.base X.stack:=by
 rcases I.ok.stk with e | ⟨e,hf⟩
 . rw[e];exact I.funs
 . rw[e];obtain⟨m,hn,_⟩:=I.loc;refine .cons (by rw[I.ok.kind];decide) hf hn ?_ I.funs;exact Heap.get?_none_of_le (GS I.ok.bsz I.ok.above)
def Inv.stkSub(I:Inv X Gx σ H s):∀ b∈frs X.stack,b∈X.env.locals::X.fs:=fun b hb=>by
 rcases I.ok.stk with e | ⟨e,hf⟩
 . rw[e] at hb;exact GR _ hb
 . rw[e] at hb;unfold frs at hb;rw[Jm,hf] at hb;exact hb
def Inv.stkFree(I:Inv X Gx σ H s):∀ b∈frs X.stack,H b=none:=fun b hb=>by
 rcases GU.mp (I.stkSub b hb) with e | hb
 . rw[e];exact I.free
 . obtain⟨_,o,ho,_⟩:=I.ok.funs.mem hb;exact I.base.free b o ho (I.ok.frf b hb) fun z=>I.ok.exfs b z hb
def Inv.step {g':Array GenState} {t':Nat} {d':Drawn} {ch:List Addr} (I:Inv X Gx σ H s)
  (hch:∀ b∈ch,(b∈X.ex\/X.s₀.heap.objs.size<=b)/\b≠X.env.locals/\(∀ x c,X.env.cells.lookup x=some c->c≠b)/\∀ p∈X.pn++Gx,p.1≠b)
  (keep:∀ b o,b≠X.env.locals->b∉X.fs->b∉ch->s.heap.get? b=some o->H b=none->h'.get? b=some o)
  (slot:∀ b o,b≠X.env.locals->b∈X.fs->b∉ch->s.heap.get? b=some o->H b=none->∃ sl,h'.get? b=some {o with slots:=sl}) (free:∀ b o,b∉ch->s.heap.get? b=some o->H b=none->H' b=none)
  (there:∀ b o,b∉ch->s.heap.get? b=some o->∃ o',h'.get? b=some o')
  (tups:∀ b xs,H b=some (.tup xs)->H' b=some (.tup xs)) (frzs:∀ b o u,H b=some (.frz o u)->H' b=some (.frz o u)) (tbls:∀ b ps,H b=some (.tbl ps)->∃ more,H' b=some (.tbl (ps++more)))
  (ns:∀ m,s.heap.Ns X.env.locals m->h'.Ns X.env.locals m) (hok:HOk X.prog X.w H' h') (hg:AllBare g'):
  Inv X Gx σ H' {s with heap:=h',gens:=g',drawn:=d',toks:=t'}:=by
 have neL:∀ b o,X.s₀.heap.get? b=some o->b≠X.env.locals:=fun b o e=>Hk (G5 (GY e) I.ok.above)
 have neC:∀ b o,X.s₀.heap.get? b=some o->b∉X.ex->b∉ch:=fun b o e hx hb=>by
  rcases(hch b hb).1 with z | z
  . exact hx z
  . exact absurd (G5 (GY e) z) (HP _)
 have cellK:∀ x c,X.env.cells.lookup x=some c->∀ v,s.heap.IsCell c v->h'.IsCell c v:=fun x c e v ⟨o,ho,hd⟩=>by
  have nch:c∉ch:=fun z=>(hch c z).2.2.1 x c e rfl;by_cases hc:c∈X.fs
  . obtain⟨sl,q⟩:=slot c o (I.cne x c e) hc nch ho (I.freeC x c e);exact⟨_,q,hd⟩
  . exact⟨o,keep c o (I.cne x c e) hc nch ho (I.freeC x c e),hd⟩
 refine⟨I.ok,I.os,hg,⟨fun b o e n hb hx=>?_,fun b o e n hb hx=>?_,fun b o e n hx=>?_,fun b o e hx=>?_,fun b xs e=>tups b xs (I.base.tups b xs e),fun b o xs e=>frzs b o xs (I.base.frzs b o xs e),fun b ps e=>?_⟩,?_,fun x c e=>?_,?_,fun x c e=>?_,fun p hp=>?_,hok,I.len⟩
 . exact keep b o (neL b o e) hb (neC b o e hx) (I.base.keep b o e n hb hx) (I.base.free b o e n hx)
 . obtain⟨sl,e1⟩:=I.base.slot b o e n hb hx;obtain⟨sl',e2⟩:=slot b _ (neL b o e) hb (neC b o e hx) e1 (I.base.free b o e n hx);exact⟨sl',e2⟩
 . obtain⟨o',e1⟩:=I.base.there b o e hx;exact free b o' (neC b o e hx) e1 (I.base.free b o e n hx)
 . obtain⟨o',e1⟩:=I.base.there b o e hx;exact there b o' (neC b o e hx) e1
 . obtain⟨m1,e1⟩:=I.base.tbls b ps e;obtain⟨m2,e2⟩:=tbls b _ e1;exact⟨m1++m2,by rw[e2,Array.append_assoc]⟩
 . obtain⟨m,hn,hl⟩:=I.loc;refine⟨m,ns m hn,fun i x v e1 e2 e3=>?_⟩;obtain⟨u,r,l⟩:=hl i x v e1 e2 e3;refine⟨u,r,?_⟩;rcases l with l | ⟨k,c,e,z⟩
   . exact .inl l
   . exact .inr ⟨k,c,e,cellK x c e _ z⟩
 . obtain⟨v,z⟩:=I.cell x c e;exact⟨v,cellK x c e v z⟩
 . obtain⟨m,⟨o,_,_,ho,_⟩,_⟩:=I.loc;exact free _ o (fun z=>(hch _ z).2.1 rfl) ho I.free
 . obtain⟨v,o,ho,hd⟩:=I.cell x c e;exact free c o (fun z=>(hch c z).2.2.1 x c e rfl) ho (I.freeC x c e)
 . obtain⟨e,n,ne,nf,d⟩:=I.pin p hp;have nch:p.1∉ch:=fun z=>(hch p.1 z).2.2.2 p hp rfl;exact⟨keep p.1 p.2 ne nf nch e n,free p.1 p.2 nch e n,ne,nf,d⟩
def Inv.un{t':Nat}(I:Inv X Gx σ H s)(u:Un X.fs [] H H' s.heap h')(hok:HOk X.prog X.w H' h'):Inv X Gx σ H' {s with heap:=h',toks:=t'}:=by
 obtain⟨m,⟨o,es,ep,ho,r⟩,_⟩:=id I.loc;obtain⟨sl,hL⟩:=u.any ho I.free (by simp)
 exact I.step (g':=s.gens) (d':=s.drawn) (ch:=[]) (fun _ z=>nomatch z) (fun b o _ hb _ e n=>u.keep b o e n hb (by simp)) (fun b o _ hb _ e n=>u.slot b o e n hb (by simp)) (fun b o _ e n=>u.free b o e n (by simp)) (fun b o _ e=>u.there b o e (by simp)) u.tups u.frzs u.tbls (fun m' hm=>by
  obtain⟨o',es',ep',ho',r'⟩:=hm;rw[ho] at ho';cases ho';exact⟨_,es',ep',hL,r'⟩) hok I.bare
def Inv.call {g':Array GenState} {t':Nat} {d':Drawn} {ch:List Addr} (I:Inv X Gx σ H s) (u:Un (frs X.stack) ch H H' s.heap h') (hok:HOk X.prog X.w H' h') (hg:AllBare g')
  (hch:∀ b∈ch,(b∈X.ex\/X.s₀.heap.objs.size<=b)/\b≠X.env.locals/\(∀ x c,X.env.cells.lookup x=some c->c≠b)/\∀ p∈X.pn++Gx,p.1≠b):
  Inv X Gx σ H' {s with heap:=h',gens:=g',drawn:=d',toks:=t'}:=by
 obtain⟨m,⟨o,es,ep,ho,r⟩,_⟩:=id I.loc;obtain⟨sl,hL⟩:=u.any ho I.free fun z=>(hch _ z).2.1 rfl
 exact I.step (ch:=ch) hch (fun b o hL hb hc e n=>u.keep b o e n (fun z=>(GU.mp (I.stkSub b z)).elim hL hb) hc) (fun b o _ _ hc e n=>u.any e n hc) (fun b o hc e n=>u.free b o e n hc) (fun b o hc e=>u.there b o e hc) u.tups u.frzs u.tbls (fun m' hm=>by
  obtain⟨o',es',ep',ho',r'⟩:=hm;rw[ho] at ho';cases ho';exact⟨_,es',ep',hL,r'⟩) hok hg
def Inv.turned {t':Nat} {it:Addr} (I:Inv X Gx σ H s) (k:∀ b o,b≠it->s.heap.get? b=some o->h'.get? b=some o) (hn:H it=none) (hL:it≠X.env.locals)
  (h1:it∈X.ex\/X.s₀.heap.objs.size<=it) (h2:∀ x c,X.env.cells.lookup x=some c->c≠it) (h3:∀ p∈X.pn++Gx,p.1≠it):Inv X Gx σ H {s with heap:=h',toks:=t'}:=by
 have nit:∀ b u,H b=some u->b≠it:=fun b u e z=>by rw[z,hn] at e;cases e
 refine I.step (g':=s.gens) (d':=s.drawn) (ch:=[it]) (fun b hb=>?_) (fun b o _ _ hc e _=>k b o (fun z=>hc (by simp[z])) e) (fun b o _ _ hc e _=>⟨o.slots,k b o (fun z=>hc (by simp[z])) e⟩) (fun _ _ _ _ n=>n)
  (fun b o hc e=>⟨o,k b o (fun z=>hc (by simp[z])) e⟩) (fun _ _ e=>e) (fun _ _ _ e=>e) (fun b ps e=>⟨#[],by rw[e];simp⟩) (fun m hm=>?_) (fun b u e=>?_) I.bare
 . have e:b=it:=by simpa using hb
   subst e;exact⟨h1,hL,h2,h3⟩
 . obtain⟨o,es,ep,ho,r⟩:=hm;exact⟨o,es,ep,k _ o (JF hL) ho,r⟩
 . refine(I.hok b u e).stay (fun c v hc q=>k c v ?_ q) (fun _ q=>q) fun _ _ q=>q;rcases hc with z | z
   . rw[z];exact nit b u e
   . exact nit c _ z
def Inv.tok(I:Inv X Gx σ H s)(t:Nat):Inv X Gx σ H {s with toks:=t}:=I.un (h':=s.heap) (t':=t) Un.refl I.hok
def Inv.kept{t':Nat}(I:Inv X Gx σ H s)(k:∀ b u,s.heap.get? b=some u->h'.get? b=some u):Inv X Gx σ H {s with heap:=h',toks:=t'}:=I.un (Un.kept k) (I.hok.kept k)
def Inv.laid{a:Addr}{o:HO}{t':Nat}(I:Inv X Gx σ H s)(k:∀ b u,s.heap.get? b=some u->h'.get? b=some u)(hp:s.heap.objs.size<=a)(new:ObjOk X.prog X.w (upd H a o) h' a o):
  Inv X Gx σ (upd H a o) {s with heap:=h',toks:=t'}:=I.un (Un.laid k hp (I.hok.fresh hp)) (I.hok.laid k hp new)
def Inv.write {x e:Addr} {o:HO} {t':Nat} (I:Inv X Gx σ H s) (mu:Mut (H x)) (he:e=x\/H e=some (.own x)) (k:∀ b u,b≠e->s.heap.get? b=some u->h'.get? b=some u) (heo:∃ u,h'.get? e=some u)
  (new:ObjOk X.prog X.w (upd H x o) h' x o):Inv X Gx σ (upd H x o) {s with heap:=h',toks:=t'}:=I.un (Un.write mu he k heo) (I.hok.write mu he k heo new)
def Inv.pins_of{pins':List (Addr × Obj)}(I:Inv X Gx σ H s)(h:∀ p∈pins',s.heap.get? p.1=some p.2/\H p.1=none/\p.1≠X.env.locals/\p.1∉X.fs/\∀ v,p.2.data≠.cell v):Inv X pins' σ H s:=
 ⟨I.ok,I.os,I.bare,I.base,I.loc,I.cell,I.free,I.freeC,fun p hp=>(Hc.mp hp).elim (fun z=>I.pin p (Io _ z)) (h p),I.hok,I.len⟩
def uR{N:List Str}(hN:N.Nodup){i j:Nat}{x:Str}(a:N[i]? =some x)(b:N[j]? =some x):i=j:=by
 obtain⟨h1,e1⟩:=GN.mp a;obtain⟨h2,e2⟩:=GN.mp b;exact(List.getElem_inj hN).mp (e1.trans e2.symm)
def tm {M:Model} {A:Around} {E:Value->Shared->Prop} {i:Nat} {x:Str} {v:V} {u:Value} {Q:Unit->Shared->Prop} (I:Inv X Gx σ H s) (hN:X.N.Nodup) (hi:X.N[i]? =some x) (hx:Loc X.env.scope x) (r:RelV v u)
  (h:∀ s',Inv X Gx (σ.set i (some v)) H s'->(∃ a,Heap.SameBut a s.heap s'.heap/\(a=X.env.locals\/X.env.cells.lookup x=some a))->Q () s') (hf:X.fn x=true\/X.env.scope.names.lookup x=some .local:=by first | exact .inl rfl | exact .inr rfl | assumption):wpAny M A (storeName X.env x u) Q E s:=by
 obtain⟨m,hn,hl⟩:=id I.loc;have hcls:(X.env.scope.kind==.class||(X.env.scope.kind==.module&&X.env.locals != X.env.globals))=false:=by rw[I.ok.kind];rfl
 have hiσ:i<σ.length:=by rw[I.len];exact(GN.mp hi).1
 have cne:=I.cne
 have tracked:∀{a:Addr} {h':Heap},(∃ o,s.heap.get? a=some o/\H a=none)->Heap.SameBut a s.heap h'->HOk X.prog X.w H h':=fun{a h'} ha hs b ob e=>by
  obtain⟨_,_,hfree⟩:=ha;refine(I.hok b ob e).stay (fun c w' hc q=>(hs.2 c ?_).trans q) (fun _ q=>q) fun _ _ q=>q;rintro rfl;rcases hc with rfl | hc
  . rw[hfree] at e;cases e
  . rw[hfree] at hc;cases hc
 rcases hx with hk | hk
 . refine J4 hk hn (fun h' hn' hs=>?_) hcls;obtain⟨oL,_,_,hoL,_⟩:=id hn;refine h _ ⟨I.ok,I.os,I.bare,⟨fun b o e n hb hx=>?_,fun b o e n hb hx=>?_,I.base.free,fun b o e hx=>?_,I.base.tups,I.base.frzs,I.base.tbls⟩,⟨_,hn',fun j y v' e1 e2 e3=>?_⟩,fun y c e=>?_,I.free,I.freeC,fun p hp=>?_,tracked ⟨oL,hoL,I.free⟩ hs,by simpa using I.len⟩ ⟨_,hs,.inl rfl⟩
   . exact(hs.2 b (Hk (G5 (GY e) I.ok.above))).trans (I.base.keep b o e n hb hx)
   . obtain⟨sl,e1⟩:=I.base.slot b o e n hb hx;exact⟨sl,(hs.2 b (Hk (G5 (GY e) I.ok.above))).trans e1⟩
   . obtain⟨o',e1⟩:=I.base.there b o e hx;exact⟨o',(hs.2 b (Hk (G5 (GY e) I.ok.above))).trans e1⟩
   . by_cases hj:j=i
     . subst hj;rw[hi] at e1;cases e1;rw[JR hiσ] at e2;cases e2;exact⟨u,r,.inl ⟨hk,by simp⟩⟩
     . rw[List.getElem?_set_ne (JF hj)] at e2;obtain⟨u',r',q⟩:=hl j y v' e1 e2 e3;refine⟨u',r',?_⟩;rcases q with ⟨k,e⟩ | ⟨k,c,e,z⟩
       . refine .inl ⟨k,?_⟩;have:y≠x:=fun e=>hj (uR hN e1 (e ▸ hi));simp[this,e]
       . exact .inr ⟨k,c,e,z.sameBut hs (cne y c e)⟩
   . obtain⟨w',z⟩:=I.cell y c e;exact⟨w',z.sameBut hs (cne y c e)⟩
   . obtain⟨e,n,ne,nf,d⟩:=I.pin p hp;exact⟨(hs.2 p.1 ne).trans e,n,ne,nf,d⟩
 . have hfn:X.fn x=true:=by
    rcases hf with z | z
    . exact z
    . rw[z] at hk;cases hk
   obtain⟨c,hc⟩:=I.ok.has x (.inl hk);obtain⟨w',z⟩:=I.cell x c hc;refine wpAny_storeName_cell I.ok.kind hk hc z (fun h' hc' hs=>?_);obtain⟨oc,hoc,hocd⟩:=id z;refine h {s with heap:=h'} ⟨I.ok,I.os,I.bare,⟨fun b o e n hb hx=>?_,fun b o e n hb hx=>?_,I.base.free,fun b o e hx=>?_,I.base.tups,I.base.frzs,I.base.tbls⟩,⟨m,hn.sameBut hs (JF (cne x c hc)),fun j y v' e1 e2 e3=>?_⟩,fun y c' e=>?_,I.free,I.freeC,fun p hp=>?_,tracked ⟨oc,hoc,I.freeC x c hc⟩ hs,by simpa using I.len⟩ ⟨c,hs,.inr hc⟩
   . exact(hs.2 b (Hk (G5 (GY e) (I.ok.cab x c hfn hc)))).trans (I.base.keep b o e n hb hx)
   . obtain⟨sl,e1⟩:=I.base.slot b o e n hb hx;exact⟨sl,(hs.2 b (Hk (G5 (GY e) (I.ok.cab x c hfn hc)))).trans e1⟩
   . obtain⟨o',e1⟩:=I.base.there b o e hx;exact⟨o',(hs.2 b (Hk (G5 (GY e) (I.ok.cab x c hfn hc)))).trans e1⟩
   . by_cases hj:j=i
     . subst hj;rw[hi] at e1;cases e1;rw[JR hiσ] at e2;cases e2;exact⟨u,r,.inr ⟨.inl hk,c,hc,hc'⟩⟩
     . rw[List.getElem?_set_ne (JF hj)] at e2;obtain⟨u',r',q⟩:=hl j y v' e1 e2 e3;refine⟨u',r',?_⟩;rcases q with q | ⟨k,c',e,z'⟩
       . exact .inl q
       . refine .inr ⟨k,c',e,z'.sameBut hs ?_⟩;rintro rfl;exact hj (uR hN e1 (I.ok.inj _ _ _ e hc ▸ hi))
   . by_cases hcc:c'=c
     . subst hcc;exact⟨_,hc'⟩
     . obtain⟨w2,z2⟩:=I.cell y c' e;exact⟨w2,z2.sameBut hs hcc⟩
   . obtain⟨e,n,ne,nf,d⟩:=I.pin p hp;refine⟨(hs.2 p.1 ?_).trans e,n,ne,nf,d⟩;intro q;rw[q,hoc] at e;have q':oc=p.2:=Ig e;exact d w' (by rw[← q'];exact hocd)
def uS {M:Model} {A:Around} {E:Value->Shared->Prop} {i:Nat} {x:Str} {v:V} {u:Value} {Q:Unit->Shared->Prop} (I:Inv X Gx σ H s) (hN:X.N.Nodup) (hi:X.N[i]? =some x) (hx:Loc X.env.scope x) (r:RelV v u)
  (h:∀ s',Inv X Gx (σ.set i (some v)) H s'->Q () s') (hf:X.fn x=true\/X.env.scope.names.lookup x=some .local:=by first | exact .inl rfl | exact .inr rfl | assumption):wpAny M A (storeName X.env x u) Q E s:=
 tm I hN hi hx r (fun s' I' _=>h s' I') hf
def Inv.call' {s':Shared} {ch:List Addr} (I:Inv X Gx σ H s) (ho:s'.os=s.os) (u:Un (frs X.stack) ch H H' s.heap s'.heap) (hok:HOk X.prog X.w H' s'.heap) (hg:AllBare s'.gens)
  (hch:∀ b∈ch,(b∈X.ex\/X.s₀.heap.objs.size<=b)/\b≠X.env.locals/\(∀ x c,X.env.cells.lookup x=some c->c≠b)/\∀ p∈X.pn++Gx,p.1≠b):Inv X Gx σ H' s':=by
 obtain⟨h',g',d',t',o'⟩:=s';have e:o'=s.os:=ho;subst e;exact I.call (g':=g') (t':=t') (d':=d') u hok hg hch
end
abbrev XK:=Value->Option Addr->Hp->Prop
abbrev St:=List (Option V)
abbrev VK:=V->Hp->Prop
abbrev TE:=St->Hp->VK->Prop
abbrev TT:=St->Hp->(Bool->Hp->Prop)->Prop
abbrev TA:=St->Hp->(List V->Hp->Prop)->Prop
structure Ends where
 nx:St->Hp->Prop
 rt:VK
 bk:St->Hp->Prop:=fun _ _=>False
 ct:St->Hp->Prop:=fun _ _=>False
abbrev TS:=Ends->St->Hp->Prop
def EP(X:Cx)(Gx:List (Addr × Obj))(σ:St)(Q:VK)(u:Value)(s':Shared):Prop:=∃ v H',Inv X Gx σ H' s'/\RelV v u/\Q v H'
def TP(X:Cx)(Gx:List (Addr × Obj))(σ:St)(Q:Bool->Hp->Prop)(b:Bool)(s':Shared):Prop:=∃ H',Inv X Gx σ H' s'/\Q b H'
def AP(X:Cx)(Gx:List (Addr × Obj))(σ:St)(Q:List V->Hp->Prop)(us:List Value)(s':Shared):Prop:=∃ vs H',Inv X Gx σ H' s'/\Vals vs us/\Q vs H'
def SP(X:Cx)(Gx:List (Addr × Obj))(D:Ends)(f:Flow)(s':Shared):Prop:=
 match f with
 | .next=>∃ σ' H',Inv X Gx σ' H' s'/\D.nx σ' H'
 | .brk=>∃ σ' H',Inv X Gx σ' H' s'/\D.bk σ' H'
 | .cont=>∃ σ' H',Inv X Gx σ' H' s'/\D.ct σ' H'
 | .ret u=>∃ v σ' H',Inv X Gx σ' H' s'/\RelV v u/\D.rt v H'
def PE(X:Cx)(e:Expr)(t:TE):Prop:=
 ∀(Gx:List (Addr × Obj)) (s:Shared) (σ:St) (H:Hp) (Q:VK),Inv X Gx σ H s->t σ H Q->wpAny (model X.prog X.w) X.A (eval e X.env) (EP X Gx σ Q) X.xe s
def PT(X:Cx)(e:Expr)(t:TT):Prop:=
 ∀(Gx:List (Addr × Obj)) (s:Shared) (σ:St) (H:Hp) (Q:Bool->Hp->Prop),Inv X Gx σ H s->t σ H Q->wpAny (model X.prog X.w) X.A (isTrue e X.env (eval e X.env)) (TP X Gx σ Q) X.xe s
def PW(X:Cx)(e:Expr)(t:TT):Prop:=
 ∀(GE:Sem Value) (Gx:List (Addr × Obj)) (s:Shared) (σ:St) (H:Hp) (Q:Bool->Hp->Prop),Inv X Gx σ H s->t σ H Q->wpAny (model X.prog X.w) X.A (isTrue e X.env GE) (TP X Gx σ Q) X.xe s
def PW.pt{X:Cx}{e:Expr}{t:TT}(h:PW X e t):PT X e t:=h _
abbrev JQ:=@PW.pt
def PA(X:Cx)(es:List Expr)(t:TA):Prop:=
 ∀(pos:Pos) (Gx:List (Addr × Obj)) (s:Shared) (σ:St) (H:Hp) (Q:List V->Hp->Prop),Inv X Gx σ H s->t σ H Q->wpAny (model X.prog X.w) X.A (spliced (backTo pos (starEach es X.env))) (AP X Gx σ Q) X.xe s
def PS(X:Cx)(st:Stmt)(t:TS):Prop:=
 ∀(Gx:List (Addr × Obj)) (s:Shared) (σ:St) (H:Hp) (D:Ends),Inv X Gx σ H s->t D σ H->wpAny (model X.prog X.w) X.A (exec st X.env) (SP X Gx D) X.xe s
def PSs(X:Cx)(st:List Stmt)(t:TS):Prop:=
 ∀(Gx:List (Addr × Obj)) (s:Shared) (σ:St) (H:Hp) (D:Ends),Inv X Gx σ H s->t D σ H->wpAny (model X.prog X.w) X.A (execs st X.env) (SP X Gx D) X.xe s
def thn{α:Type}{t:Sem α}{Q Q':α->Shared->Prop}{M:Model}{A:Around}{E:Value->Shared->Prop}{s:Shared}(h:wpAny M A t Q E s)(hQ:∀ a s,Q a s->Q' a s):wpAny M A t Q' E s:=HN h hQ fun _ _ x=>x
section
variable{X:Cx}
def vB:Option (Option V)->(V->Prop)->Prop
 | some (some v),k=>k v
 | _,_=>False
def Bq{o:Option (Option V)}{k:V->Prop}(h:vB o k):∃ v,o=some (some v)/\k v:=by
 rcases o with _ | _ | v
 . cases h
 . cases h
 . exact⟨v,rfl,h⟩
def iF{o:Option (Option V)}{k:V->Prop}{v:V}(e:o=some (some v))(h:k v):vB o k:=by subst e;exact h
def tVar(i:Nat):TE:=fun σ H Q=>vB σ[i]? fun v=>Q v H
def tC(v:V):TE:=fun _ H Q=>Q v H
def Cs{i:Nat}{x:Str}{pos:Pos}(hN:X.N[i]? =some x)(hv:Vis X.env.scope x)(hd:(x==("__debug__":Str))=false:=by decide)(hcd:(x==("__classdict__":Str))=false:=by decide):PE X (.Name x pos) (tVar i):=by
 intro Gx s σ H Q I h;obtain⟨v,e,h⟩:=Bq h;obtain⟨m,hn,hl⟩:=I.loc;obtain⟨u,r,l⟩:=hl i x v hN e hv;have fin:EP X Gx σ Q u s:=⟨v,H,I,r,h⟩;rcases l with ⟨hk,hm⟩ | ⟨hk,c,hc,hcell⟩
 . exact JS (wpAny_loadName_local I.ok.kind hk hn hm fin) hd
 . rcases hk with hk | hk
   . exact JS (wpAny_loadName_cell I.ok.kind hk hc hcell fin) hd
   . exact JS (wpAny_loadName_free I.ok.kind hk hc hcell fin hcd) hd
def af{i j pos}:PE X (.Constant (.int i) j pos) (tC (.int i)):=fun _ _ _ H _ I h=>wpAny_Constant_int ⟨.int i,H,I.tok _,⟨_,rfl⟩,h⟩
def cg{b j pos}:PE X (.Constant (.bool b) j pos) (tC (.bl b)):=fun _ _ _ H _ I h=>Constant_bool ⟨.bl b,H,I,rfl,h⟩
def uT{j pos}:PE X (.Constant .none j pos) (tC .non):=fun _ _ _ H _ I h=>Constant_none ⟨.non,H,I,rfl,h⟩
def aw{x j pos}:PE X (.Constant (.str x) j pos) (tC (.str x)):=fun _ _ _ H _ I h=>Calls.Constant_str ⟨.str x,H,I.tok _,⟨_,rfl⟩,h⟩
def Gl(X:Cx)(x:Str):Prop:=X.env.kindOf x=some .globalImplicit
def sh {E:Value->Shared->Prop} {Gx:List (Addr × Obj)} {s:Shared} {σ:St} {H:Hp} {x:Str} {u:Value} {pos:Pos} {Q:Value->Shared->Prop} (I:Inv X Gx σ H s) (hg:Gl X x) (hm:X.mg x=some u) (h:Q u s)
  (hd:(x==("__debug__":Str))=false:=by decide):wpAny (model X.prog X.w) X.A (eval (.Name x pos) X.env) Q E s:=
 Ju I.ok.kind hg (Calls.loadGlobal_global (by rw[I.ok.glob];exact I.mod.glob.keeps I.bk) hm h) hd
def fF {E:Value->Shared->Prop} {Gx:List (Addr × Obj)} {s:Shared} {σ:St} {H:Hp} {x:Str} {u:Value} {pos:Pos} {Q:Value->Shared->Prop} (I:Inv X Gx σ H s) (hg:Gl X x) (hm:X.mg x=none) (hv:bootBuiltins x=some u) (h:Q u s)
  (hn:x≠"__name__":=by decide) (hd:(x==("__debug__":Str))=false:=by decide):wpAny (model X.prog X.w) X.A (eval (.Name x pos) X.env) Q E s:=by
 obtain⟨mb,h1,h2⟩:=I.mod.blt;exact Ju I.ok.kind hg (Calls.loadGlobal_builtin (by rw[I.ok.glob];exact I.mod.glob.keeps I.bk) hm (by rw[I.ok.blt];exact h1.keeps I.bk) ((h2 x hn).trans hv) h) hd
def dy{x:Str}{v:V}{u:Value}{pos:Pos}(hg:Gl X x)(hm:X.mg x=some u)(r:RelV v u)(hd:(x==("__debug__":Str))=false:=by decide):PE X (.Name x pos) (tC v):=
 fun _ _ _ H _ I h=>sh I hg hm ⟨v,H,I,r,h⟩ hd
def fj{x:Str}{v:V}{u:Value}{pos:Pos}(hg:Gl X x)(hm:X.mg x=none)(hv:bootBuiltins x=some u)(r:RelV v u)(hn:x≠"__name__":=by decide)(hd:(x==("__debug__":Str))=false:=by decide):PE X (.Name x pos) (tC v):=
 fun _ _ _ H _ I h=>fF I hg hm hv ⟨v,H,I,r,h⟩ hn hd
variable{a b:Expr}{ta tb:TE}{pos:Pos}
def tB(t:TE):TT:=fun σ H Q=>t σ H fun x H1=>∃ c,x=.bl c/\Q c H1
def aS{e:Expr}{t:TE}(h:PE X e t)(he:∀ GE,isTrue e X.env GE=(do let v ← GE;standAt e.pos;holding [v] (truthy v)):=by intro _;rfl):PT X e (tB t):=by
 intro Gx s σ H Q I hw;refine isTrue_plain (thn (h Gx s σ H _ I hw) fun v s1 ⟨x,H1,I1,r1,q1⟩=>?_) (he _);obtain⟨d,rfl,q⟩:=q1;cases r1;exact Ic ⟨H1,I1,q⟩
variable{tA tB':TT}{rest:List Expr}
def tAnd(t u:TT):TT:=fun σ H Q=>t σ H fun c H1=>if c=true then u σ H1 Q else Q false H1
def tOr(t u:TT):TT:=fun σ H Q=>t σ H fun c H1=>if c=true then Q true H1 else u σ H1 Q
def tNot(t:TT):TT:=fun σ H Q=>t σ H fun c H1=>Q (!c) H1
theorem w5(ha:PT X a tA):PW X (.BoolOp .And [a] pos) tA:=by
 intro wh Gx s σ H Q I h;refine isTrue_and (thn (ha Gx s σ H Q I h) fun c s1 e=>?_)
 cases c with
 | true=>exact isTrue_and_nil e
 | false=>exact e
theorem ff(ha:PT X a tA):PW X (.BoolOp .Or [a] pos) tA:=by
 intro wh Gx s σ H Q I h;refine isTrue_or (thn (ha Gx s σ H Q I h) fun c s1 e=>?_)
 cases c with
 | false=>exact isTrue_or_nil e
 | true=>exact e
theorem zb(ha:PT X a tA)(hb:PW X (.BoolOp .And (b::rest) pos) tB'):PW X (.BoolOp .And (a::b::rest) pos) (tAnd tA tB'):=by
 intro wh Gx s σ H Q I h;refine isTrue_and (thn (ha Gx s σ H _ I h) fun c s1 ⟨H1,I1,q1⟩=>?_)
 cases c with
 | true=>exact hb wh Gx s1 σ H1 Q I1 q1
 | false=>exact⟨H1,I1,q1⟩
theorem d6(ha:PT X a tA)(hb:PW X (.BoolOp .Or (b::rest) pos) tB'):PW X (.BoolOp .Or (a::b::rest) pos) (tOr tA tB'):=by
 intro wh Gx s σ H Q I h;refine isTrue_or (thn (ha Gx s σ H _ I h) fun c s1 ⟨H1,I1,q1⟩=>?_)
 cases c with
 | true=>exact⟨H1,I1,q1⟩
 | false=>exact hb wh Gx s1 σ H1 Q I1 q1
def cE(ha:PT X a tA):PT X (.UnaryOp .Not a pos) (tNot tA):=by
 intro Gx s σ H Q I h;exact isTrue_not (ha Gx s σ H (fun c H1=>Q (!c) H1) I h)
def tAndV(ta tb:TE):TE:=fun σ H Q=>ta σ H fun x H1=>∃ c,x=.bl c/\if c=true then tb σ H1 Q else Q (.bl false) H1
def tOrV(ta tb:TE):TE:=fun σ H Q=>ta σ H fun x H1=>∃ c,x=.bl c/\if c=true then Q (.bl true) H1 else tb σ H1 Q
def tNotV(ta:TE):TE:=fun σ H Q=>ta σ H fun x H1=>∃ c,x=.bl c/\Q (.bl (!c)) H1
def dW{op}{t:TE}(h:PE X a t):PE X (.BoolOp op [a] pos) t:=fun Gx s σ H Q I hw=>BoolOp_one (h Gx s σ H Q I hw)
theorem dC(ha:PE X a ta)(hb:PE X (.BoolOp .And (b::rest) pos) tb):PE X (.BoolOp .And (a::b::rest) pos) (tAndV ta tb):=by
 intro Gx s σ H Q I h;refine BoolOp_and (thn (ha Gx s σ H _ I h) fun v s1 ⟨x,H1,I1,r1,q1⟩=>?_);obtain⟨c,rfl,q1⟩:=q1;cases r1;refine Ic ?_
 cases c with
 | true=>exact hb Gx s1 σ H1 Q I1 q1
 | false=>exact⟨.bl false,H1,I1,rfl,q1⟩
theorem xT(ha:PE X a ta)(hb:PE X (.BoolOp .Or (b::rest) pos) tb):PE X (.BoolOp .Or (a::b::rest) pos) (tOrV ta tb):=by
 intro Gx s σ H Q I h;refine BoolOp_or (thn (ha Gx s σ H _ I h) fun v s1 ⟨x,H1,I1,r1,q1⟩=>?_);obtain⟨c,rfl,q1⟩:=q1;cases r1;refine Ic ?_
 cases c with
 | false=>exact hb Gx s1 σ H1 Q I1 q1
 | true=>exact⟨.bl true,H1,I1,rfl,q1⟩
def zc(ha:PE X a ta):PE X (.UnaryOp .Not a pos) (tNotV ta):=by
 intro Gx s σ H Q I h;refine UnaryOp_ (thn (ha Gx s σ H _ I h) fun v s1 ⟨x,H1,I1,r1,q1⟩=>?_);obtain⟨c,rfl,q1⟩:=q1;cases r1;exact not_of (Ic ⟨.bl (!c),H1,I1,rfl,q1⟩)
def tIf(t:TT)(ta tb:TE):TE:=fun σ H Q=>t σ H fun c H1=>if c=true then ta σ H1 Q else tb σ H1 Q
theorem pU{c:Expr}(hc:PT X c tA)(ha:PE X a ta)(hb:PE X b tb):PE X (.IfExp c a b pos) (tIf tA ta tb):=by
 intro Gx s σ H Q I h;refine wpAny_IfExp (thn (hc Gx s σ H _ I h) fun d s1 ⟨H1,I1,q1⟩=>?_)
 cases d with
 | true=>exact ha Gx s1 σ H1 Q I1 q1
 | false=>exact hb Gx s1 σ H1 Q I1 q1
end
def SqL(K:Frag)(H:Hp)(a:Addr)(xs:List V):Prop:=
 Rd H a (.lst xs)\/
  ∃(o:Obj) (GB:Array Value) (n:Nat),K.lookup a=some o/\o.cls=.type "list"/\o.dict=none/\o.data=.seq GB n/\GB.size<=sizeLine/\Vals xs GB.toList
def SqT(K:Frag)(H:Hp)(a:Addr)(xs:List V):Prop:=
 Rd H a (.tup xs)\/
  ∃(o:Obj) (GB:Array Value) (n:Nat),K.lookup a=some o/\o.cls=.type "tuple"/\o.data=.seq GB n/\GB.size<=sizeLine/\Vals xs GB.toList
def absV:Value->Option V
 | .none=>some .non
 | .bool b=>some (.bl b)
 | .int i _=>⇑i
 | .str x _=>some (.str x)
 | .bytes b _=>some (.byt b)
 | .float b _=>some (.flt b)
 | .ref a=>↑a
 | .type n=>some (.ty n)
 | _=>none
variable{u:Value}
theorem RelV.abs{x:V}(r:RelV x u):absV u=some x:=by
 cases x with
 | non=>cases r;rfl
 | bl _=>cases r;rfl
 | int _=>obtain⟨t,rfl⟩:=r;rfl
 | str _=>obtain⟨t,rfl⟩:=r;rfl
 | byt _=>obtain⟨t,rfl⟩:=r;rfl
 | flt _=>obtain⟨t,rfl⟩:=r;rfl
 | ref _=>cases r;rfl
 | ty _=>cases r;rfl
def RelV.inj{x y:V}(r:RelV x u)(q:RelV y u):x=y:=Ig (r.abs.symm.trans q.abs)
theorem Vals.inj:∀{xs ys:List V} {us:List Value},Vals xs us->Vals ys us->xs=ys
 | _,_,_,.nil,.nil=>rfl
 | _,_,_,.cons r t,.cons r' t'=>by rw[r.inj r',Vals.inj t t']
section
variable{X:Cx}{Gx:List (Addr × Obj)}{σ:St}{H:Hp}{s:Shared}{a:Addr}{xs ys:List V}
def SqL.of{K:Frag}(h:H a=↥xs):SqL K H a xs:=.inl (.inl h)
abbrev G6:=@SqL.of
def SqT.of{K:Frag}(h:H a=some (.tup xs)):SqT K H a xs:=.inl (.inl h)
abbrev Kc:=@SqT.of
def Inv.list(I:Inv X Gx σ H s)(h:SqL X.K H a xs):∃ GB:List Value,Vals xs GB/\PlainL s.heap a GB.toArray/\xs.length<=sizeLine:=by
 rcases h with h | ⟨o,GB,n,hk,hc,hd,hs,hz,r⟩
 . obtain⟨z,GB,n,r,e⟩:=h.ok I.hok;exact⟨GB,r,⟨_,n,e,rfl,rfl,rfl⟩,z⟩
 . refine⟨GB.toList,r,⟨o,n,I.kIn a o hk,hc,hd,by simpa using hs⟩,?_⟩;have e:=r.length;simp only[IN] at e;omega
def Inv.tuple(I:Inv X Gx σ H s)(h:SqT X.K H a xs):∃ GB:List Value,Vals xs GB/\IsTup s.heap a GB.toArray/\xs.length<=sizeLine:=by
 rcases h with h | ⟨o,GB,n,hk,hc,hs,hz,r⟩
 . obtain⟨z,GB,r,p⟩:=h.ok I.hok;exact⟨GB,r,p,z⟩
 . refine⟨GB.toList,r,⟨o,I.kIn a o hk,hc,n,by simpa using hs⟩,?_⟩;have e:=r.length;simp only[IN] at e;omega
def Inv.list_inj(I:Inv X Gx σ H s)(h:SqL X.K H a xs)(h':SqL X.K H a ys):xs=ys:=by
 obtain⟨GB,r,⟨o,n,e,_,_,d⟩,_⟩:=I.list h;obtain⟨its',r',⟨o',n',e',_,_,d'⟩,_⟩:=I.list h';rw[e] at e';cases e';rw[d] at d';injection d' with d1 _;have:GB=its':=by simpa using congrArg Array.toList d1
 subst this;exact r.inj r'
def Inv.tuple_inj(I:Inv X Gx σ H s)(h:SqT X.K H a xs)(h':SqT X.K H a ys):xs=ys:=by
 obtain⟨GB,r,⟨o,e,_,n,d⟩,_⟩:=I.tuple h;obtain⟨its',r',⟨o',e',_,n',d'⟩,_⟩:=I.tuple h';rw[e] at e';cases e';rw[d] at d';injection d' with d1 _;have:GB=its':=by simpa using congrArg Array.toList d1
 subst this;exact r.inj r'
end
abbrev Cx.wish(X:Cx)(E:Value->Shared->Prop):Cx:={X with xe:=E}
abbrev Cx.nox(X:Cx):Cx:=X.wish fun _ _=>False
variable{X:Cx}
def Cx.Ok.wish(ok:X.Ok)(E:Value->Shared->Prop):(X.wish E).Ok:=
 ⟨ok.mod,ok.kind,ok.glob,ok.blt,ok.above,ok.inj,ok.has,ok.cab,ok.hd,ok.frames,ok.stk,ok.exf,ok.bs,ok.bsz,ok.noex,ok.exfs,ok.funs,ok.frf⟩
variable{E:Value->Shared->Prop}
def Cx.Ok.unwish(ok:(X.wish E).Ok):X.Ok:=
 ⟨ok.mod,ok.kind,ok.glob,ok.blt,ok.above,ok.inj,ok.has,ok.cab,ok.hd,ok.frames,ok.stk,ok.exf,ok.bs,ok.bsz,ok.noex,ok.exfs,ok.funs,ok.frf⟩
section
variable{X:Cx}{Gx:List (Addr × Obj)}{σ:St}{H:Hp}{s:Shared}{E:Value->Shared->Prop}
def Inv.wish(I:Inv X Gx σ H s)(E:Value->Shared->Prop):Inv (X.wish E) Gx σ H s:=⟨I.ok.wish E,I.os,I.bare,I.base,I.loc,I.cell,I.free,I.freeC,I.pin,I.hok,I.len⟩
def Inv.unwish(I:Inv (X.wish E) Gx σ H s):Inv X Gx σ H s:=⟨I.ok.unwish,I.os,I.bare,I.base,I.loc,I.cell,I.free,I.freeC,I.pin,I.hok,I.len⟩
theorem SP.unwish{D:Ends}{f:Flow}{s':Shared}(h:SP (X.wish E) Gx D f s'):SP X Gx D f s':=by
 cases f with
 | next=>obtain⟨σ',H',I,q⟩:=h;exact⟨σ',H',I.unwish,q⟩
 | brk=>obtain⟨σ',H',I,q⟩:=h;exact⟨σ',H',I.unwish,q⟩
 | cont=>obtain⟨σ',H',I,q⟩:=h;exact⟨σ',H',I.unwish,q⟩
 | ret u=>obtain⟨v,σ',H',I,r,q⟩:=h;exact⟨v,σ',H',I.unwish,r,q⟩
def PSs.nox{st:List Stmt}{t:TS}(h:PSs X.nox st t):PSs X st t:=fun Gx s σ H D I hw=>
 HN (h Gx s σ H D (I.wish _) hw) (fun _ _ q=>q.unwish) fun _ _ z=>False.elim z
end
section
variable{X:Cx}{st:Stmt}{rest:List Stmt}{t u:TS}{e:Expr}{te:TE}{pos:Pos}
def tNext:TS:=fun D σ H=>D.nx σ H
def tSeq(t u:TS):TS:=fun D σ H=>t {D with nx:=u D} σ H
def am:PSs X [] tNext:=fun _ _ σ H _ I h=>Jh ⟨σ,H,I,h⟩
theorem ad(h1:PS X st t)(h2:PSs X rest u):PSs X (st::rest) (tSeq t u):=by
 intro Gx s σ H D I h;refine wpAny_execs_cons (thn (h1 Gx s σ H {D with nx:=u D} I h) fun f s1 q=>?_)
 cases f with
 | next=>
  obtain⟨σ',H',I',q⟩:=q;exact h2 Gx s1 σ' H' D I' q
 | ret v=>exact q
 | brk=>exact q
 | cont=>exact q
theorem ae(h1:PS X st t):PSs X [st] t:=by
 intro Gx s σ H D I h;refine wpAny_execs_cons (thn (h1 Gx s σ H D I h) fun f s1 q=>?_)
 cases f with
 | next=>exact Jh q
 | ret v=>exact q
 | brk=>exact q
 | cont=>exact q
def Inv.quiet{Gx:List (Addr × Obj)}{σ:St}{H:Hp}{s:Shared}(I:Inv X Gx σ H s):interactive X.env=false:=by simp[interactive,I.ok.kind]
def tDrop(te:TE):TS:=fun D σ H=>te σ H fun _ H1=>D.nx σ H1
def dz(he:PE X e te)(hs:swapsWith e none pos.line X.env=pure false:=by rfl):PS X (.Expr e pos) (tDrop te):=by
 intro Gx s σ H D I h;exact wpAny_Expr_any (thn (he Gx s σ H _ I h) fun v s1 ⟨x,H1,I1,r1,q1⟩=>⟨σ,H1,I1,q1⟩) I.quiet hs
def tRet(te:TE):TS:=fun D σ H=>te σ H D.rt
def ai(he:PE X e te):PS X (.Return (some e) pos) (tRet te):=by
 intro Gx s σ H D I h;exact wpAny_Return_some (thn (he Gx s σ H _ I h) fun v s1 ⟨x,H1,I1,r1,q1⟩=>⟨x,σ,H1,I1,r1,q1⟩)
def tRetN:TS:=fun D _ H=>D.rt .non H
def tIfS(c:TT)(t u:TS):TS:=fun D σ H=>c σ H fun b H1=>if b=true then t D σ H1 else u D σ H1
theorem ar{c:Expr}{a b:List Stmt}{tc:TT}(hc:PT X c tc)(ha:PSs X a t)(hb:PSs X b u):PS X (.If c a b pos) (tIfS tc t u):=by
 intro Gx s σ H D I h;refine wpAny_If (thn (hc Gx s σ H _ I h) fun d s1 ⟨H1,I1,q1⟩=>?_)
 cases d with
 | true=>exact ha Gx s1 σ H1 D I1 q1
 | false=>exact hb Gx s1 σ H1 D I1 q1
def cP:TS:=fun _ _ _=>False
def bB:PS X st cP:=fun _ _ _ _ _ _ h=>h.elim
end
abbrev TG:=V->St->Hp->(St->Hp->Prop)->Prop
abbrev TGs:=List V->St->Hp->(St->Hp->Prop)->Prop
def PG(X:Cx)(target:Expr)(t:TG):Prop:=
 ∀(Gx:List (Addr × Obj)) (s:Shared) (σ:St) (H:Hp) (v:V) (u:Value) (Q:St->Hp->Prop),Inv X Gx σ H s->RelV v u->t v σ H Q->
  wpAny (model X.prog X.w) X.A (assign target X.env u) (fun _ s'=>∃ σ' H',Inv X Gx σ' H' s'/\Q σ' H') X.xe s
def PGs(X:Cx)(ts:List Expr)(t:TGs):Prop:=
 ∀(Gx:List (Addr × Obj)) (s:Shared) (σ:St) (H:Hp) (vs:List V) (us:List Value) (Q:St->Hp->Prop),Inv X Gx σ H s->Vals vs us->t vs σ H Q->
  wpAny (model X.prog X.w) X.A (assignInOrder ((assignEach ts X.env).map (·.2)) us) (fun _ s'=>∃ σ' H',Inv X Gx σ' H' s'/\Q σ' H') X.xe s
abbrev TSet:=V->V->V->Hp->(Hp->Prop)->Prop
section
variable{X:Cx}{pos:Pos}
def gName(i:Nat):TG:=fun v σ H Q=>Q (σ.set i (some v)) H
def au{i:Nat}{x:Str}(hN:X.N.Nodup)(hi:X.N[i]? =some x)(hx:Loc X.env.scope x)(hf:X.fn x=true\/X.env.scope.names.lookup x=some .local:=by first | exact .inl rfl | exact .inr rfl | assumption):PG X (.Name x pos) (gName i):=by
 intro Gx s σ H v u Q I r h;exact wpAny_assign_Name (uS I hN hi hx r (fun s' I'=>⟨_,H,I',h⟩) hf)
def gNil:TGs:=fun vs σ H Q=>vs=[]/\Q σ H
def gCons(t:TG)(u:TGs):TGs:=fun vs σ H Q=>∃ v r,vs=v::r/\t v σ H fun σ' H'=>u r σ' H' Q
def w9:PGs X [] gNil:=by
 intro Gx s σ H vs us Q I r h;obtain⟨e,h⟩:=h;subst e;cases r;exact assignInOrder_nil ⟨σ,H,I,h⟩
theorem l8 {e:Expr} {es:List Expr} {t:TG} {u:TGs} (h1:PG X e t) (h2:PGs X es u)
  (hs:(assignEach (e::es) X.env).map (·.2)=assign e X.env::(assignEach es X.env).map (·.2):=by rfl):PGs X (e::es) (gCons t u):=by
 intro Gx s σ H vs us Q I r h;obtain⟨v,vr,e1,h⟩:=h;subst e1
 cases r with
 | cons r rr=>
  rw[hs];refine assignInOrder_cons (thn (h1 Gx s σ H _ _ _ I r h) fun _ s1 ⟨σ1,H1,I1,q1⟩=>?_);exact h2 Gx s1 σ1 H1 _ _ Q I1 rr q1
def gTup(K:Frag)(n:Nat)(t:TGs):TG:=fun v σ H Q=>∃ a xs,v=.ref a/\SqT K H a xs/\xs.length=n/\t xs σ H Q
def zd {es:List Expr} {k:Nat} {t:TGs} {n:Nat} (hc:X.calm=true) (h:PGs X es t)
  (hn:(assignEach es X.env).length=n:=by rfl) (hst:(assignEach es X.env).findIdx? (·.1)=none:=by rfl):PG X (.Tuple es k pos) (gTup X.K n t):=by
 intro Gx s σ H v u Q I r hw;obtain⟨a,xs,e1,hq,hl,hw⟩:=hw;subst e1;cases r;obtain⟨GB,rv,ht,hz⟩:=I.tuple hq;refine assign_Tuple_tuple (I.ok.hd hc) ht (by simp[hn,← hl,rv.length]) hst fun h' hx=>?_;have I1:Inv X Gx σ H {s with heap:=h'}:=I.kept (t':=s.toks) fun b o e=>hx b o (Hk (GY e)) e;exact h Gx _ σ H xs _ Q I1 (by simpa using rv) hw
def gSub(to ti:TE)(t:TSet):TG:=fun v σ H Q=>to σ H fun o H1=>ti σ H1 fun i H2=>t o i v H2 fun H3=>Q σ H3
def tAsg(te:TE)(g:TG):TS:=fun D σ H=>te σ H fun x H1=>g x σ H1 D.nx
def Ct {tg e:Expr} {te:TE} {g:TG} (he:PE X e te) (hg:PG X tg g) (hs:swapsWithSole [tg] e pos.line X.env=pure false:=by rfl) (hw:swappedStores [tg] e X.env=pure none:=by rfl)
  (h1:(assignEach [tg] X.env).map (·.2)=[assign tg X.env]:=by rfl):PS X (.Assign [tg] e pos) (tAsg te g):=by
 intro Gx s σ H D I h;refine wpAny_Assign_stores (thn (he Gx s σ H _ I h) fun v s1 ⟨x,H1,I1,r1,q1⟩=>?_) hs hw;rw[h1];exact thn (hg Gx s1 σ H1 x v _ I1 r1 q1) fun _ s2 q=>q
def lC{i:Nat}{x:Str}{e:Expr}{te:TE}{pos':Pos}(hN:X.N.Nodup)(hi:X.N[i]? =some x)(hx:Loc X.env.scope x)(he:PE X e te)(hs:swapsWith e (some (.Name x pos')) pos.line X.env=pure false:=by rfl)(hf:X.fn x=true\/X.env.scope.names.lookup x=some .local:=by first | exact .inl rfl | exact .inr rfl | assumption):
  PS X (.Assign [.Name x pos'] e pos) (tAsg te (gName i)):=by
 intro Gx s σ H D I h;refine wpAny_Assign_Name (thn (he Gx s σ H _ I h) fun v s1 ⟨y,H1,I1,r1,q1⟩=>?_) hs;exact uS I1 hN hi hx r1 (fun s2 I2=>⟨_,H1,I2,q1⟩) hf
end
section
variable{X:Cx}{pos:Pos}
def ze(c:TT)(tb:TS):TS:=fun D σ H=>∃ W:Nat->St->Hp->Prop,(∃ m,W m σ H)/\∀ m σ H,W m σ H->
 c σ H fun b H1=>if b=true then ∃ N:St->Hp->Prop,(∀ σ' H',N σ' H'->∃ m',m'<m/\W m' σ' H')/\tb {D with nx:=N,ct:=N,bk:=D.nx} σ H1 else D.nx σ H1
theorem AI{c:Expr}{body:List Stmt}{tc:TT}{tb:TS}(hp:PassesOwn (model X.prog X.w) X.A X.env X.xe)(hc:PT X c tc)(hb:PSs X body tb):PS X (.While c body [] pos) (ze tc tb):=by
 intro Gx s σ H D I h;obtain⟨W,⟨m0,w0⟩,turn⟩:=h;refine wpAny_While (codeAny_whileLoop (fun n s'=>∃ σ' H',Inv X Gx σ' H' s'/\W n σ' H') ?_ m0 ⟨σ,H,I,w0⟩);rintro n s1 ⟨σ1,H1,I1,w1⟩;refine Il hp (thn (hc Gx s1 σ1 H1 _ I1 (turn n σ1 H1 w1)) fun b s2 ⟨H2,I2,q2⟩=>?_)
 cases b with
 | true=>
  obtain⟨N,hN,q2⟩:=q2;rw[G9 rfl];refine Il hp (thn (hb Gx s2 σ1 H2 _ I2 q2) fun f s3 q3=>?_)
  cases f with
  | next=>
   obtain⟨σ3,H3,I3,n3⟩:=q3;obtain⟨m',hm,w3⟩:=hN σ3 H3 n3;exact⟨m',hm,σ3,H3,I3,w3⟩
  | cont=>
   obtain⟨σ3,H3,I3,n3⟩:=q3;obtain⟨m',hm,w3⟩:=hN σ3 H3 n3;exact⟨m',hm,σ3,H3,I3,w3⟩
  | brk=>exact q3
  | ret v=>exact q3
 | false=>
  rw[G3 GM];exact Jh ⟨σ1,H2,I2,q2⟩
end
structure It where
 go:Nat->Hp->Prop
 yld:Nat->Hp->V->Hp->Prop
 stop:Nat->Hp->Prop
def FpOk(X:Cx)(Gx:List (Addr × Obj))(H:Hp)(b:Addr):Prop:=
 H b=none/\b≠X.env.locals/\b∉X.fs/\(b∈X.ex\/X.s₀.heap.objs.size<=b)/\(∀ x c,X.env.cells.lookup x=some c->c≠b)/\∀ p∈X.pn++Gx,p.1≠b
variable{s:Shared}
def Inv.fpOk{Gx:List (Addr × Obj)}{σ:St}{H H':Hp}{b:Addr}(I:Inv X Gx σ H s)(hb:s.heap.objs.size<=b)(hn:H' b=none):FpOk X Gx H' b:=by
 refine⟨hn,Jr (G5 I.lt hb),I.nofs hb,.inr (GS I.sz hb),fun x c e z=>?_,fun p hp z=>?_⟩
 . obtain⟨v,q⟩:=I.cell x c e;exact absurd (G5 q.lt (by rw[z];exact hb)) (HP _)
 . exact absurd (G5 (GY (I.pin p hp).1) (by rw[z];exact hb)) (HP _)
structure Turn(P:Program)(w:World)(K:Frag)(tg:Expr)(J:It)(fp:List Addr)(it:Addr)(tn:Nat->Heap->Prop):Prop where
 mem:it∈fp
 obj:∀ i h,tn i h->∀ b∈fp,∃ o,h.get? b=some o/\∀ v,o.data≠.cell v
 keep:∀ i h h',tn i h->(∀ b∈fp,∀ o,h.get? b=some o->h'.get? b=some o)->tn i h'
 item:∀(X:Cx),X.prog=P->X.w=w->X.K=K->X.calm=true->∀(i:Nat) (Gx:List (Addr × Obj)) (s:Shared) (σ:St) (H:Hp) (E:Value->Shared->Prop),Inv X Gx σ H s->(∀ b∈fp,FpOk X Gx H b)->tn i s.heap->J.go i H->
  wpAny (model P w) X.A (pyNext (.ref it)) (fun r s1=>∃ u,r=some u/\
   wpAny (model P w) X.A (letOwnedTupleGo tg (.ref it) u) (fun _ s2=>∃ x H',Inv X Gx σ H' s2/\RelV x u/\J.yld i H x H'/\tn (i+1) s2.heap/\∀ b∈fp,H' b=none) E s1) E s
 done:∀(X:Cx),X.prog=P->X.w=w->X.K=K->X.calm=true->∀(i:Nat) (Gx:List (Addr × Obj)) (s:Shared) (σ:St) (H:Hp) (E:Value->Shared->Prop),Inv X Gx σ H s->(∀ b∈fp,FpOk X Gx H b)->tn i s.heap->J.stop i H->
  wpAny (model P w) X.A (pyNext (.ref it)) (fun r s1=>r=none/\Inv X Gx σ H s1) E s
 self:∀(A:Around) (i:Nat) (s:Shared) (Q:Value->Shared->Prop) (E:Value->Shared->Prop),tn i s.heap->Q (.ref it) s->wpAny (model P w) A (pyIter (.ref it)) Q E s
abbrev TI:=St->Hp->(It->Hp->Prop)->Prop
def PIE(X:Cx)(Gx:List (Addr × Obj))(σ:St)(tg:Expr)(R:It->Hp->Prop)(itv:Value)(s2:Shared):Prop:=
 ∃(it:Addr) (fp:List Addr) (tn:Nat->Heap->Prop) (J:It) (H':Hp),itv=.ref it/\Inv X Gx σ H' s2/\Turn X.prog X.w X.K tg J fp it tn/\tn 0 s2.heap/\(∀ b∈fp,FpOk X Gx H' b)/\R J H'
def PI(X:Cx)(tg iter:Expr)(wi:TI):Prop:=
 ∀(Gx:List (Addr × Obj)) (s:Shared) (σ:St) (H:Hp) (R:It->Hp->Prop),Inv X Gx σ H s->wi σ H R->
  wpAny (model X.prog X.w) X.A (eval iter X.env) (fun v s1=>wpAny (model X.prog X.w) X.A (pyIter v) (PIE X Gx σ tg R) X.xe s1) X.xe s
variable{tg:Expr}
def uI {M:Model} {A:Around} {it:Addr} {o:Obj} {n:String} {vs:Array Value} {Q:Unit->Shared->Prop} (ho:s.heap.get? it=some o) (hc:o.cls=.type n) (hd:o.data=.fields vs)
  (hn:["enumerate","zip","dict_itemiterator","dict_reverseitemiterator","odict_iterator","itertools.zip_longest","itertools.pairwise"].contains n=false) (hQ:Q () s):wpAny M A (letOwnedTupleGo tg (.ref it) u) Q E s:=by
 unfold letOwnedTupleGo
 cases tg <;> first
  | exact HE hQ
  | (cases u <;> first
    | exact HE hQ
    | (refine Hl (wpAny_load ho ?_)
       rw[hc,hd];show wpAny M A (if (["enumerate","zip","dict_itemiterator","dict_reverseitemiterator","odict_iterator","itertools.zip_longest","itertools.pairwise"].contains n&&vs[0]? ==some (rawInt _))=true then _ else _) Q E s;rw[G3 (by intro h;rw[hn,Hz] at h;cases h)];exact HE hQ))
def Itl(K:Frag)(a:Addr):It:=
 ⟨fun i H=>∃ xs x,SqL K H a xs/\xs[i]? =some x,fun i H x H'=>H'=H/\∀ xs,SqL K H a xs->xs[i]? =some x,fun i H=>∃ xs,SqL K H a xs/\xs.length<=i⟩
def Itt(K:Frag)(a:Addr):It:=
 ⟨fun i H=>∃ xs x,SqT K H a xs/\xs[i]? =some x,fun i H x H'=>H'=H/\∀ xs,SqT K H a xs->xs[i]? =some x,fun i H=>∃ xs,SqT K H a xs/\xs.length<=i⟩
def Itr(lo:Int)(n:Nat):It:=⟨fun i _=>i<n,fun i H x H'=>H'=H/\x=.int (lo+i),fun i _=>n<=i⟩
variable{P:Program}{w:World}{K:Frag}
def zf(a it:Addr):Turn P w K tg (Itl K a) [it] it (fun i h=>h.IsListIter it a i) where
 mem:=by simp
 obj:=fun i h st b hb=>by
  have e:b=it:=by simpa using hb
  subst e;obtain⟨o,e,c,d⟩:=st;exact⟨o,e,fun v z=>by rw[d] at z;cases z⟩
 keep:=fun i h h' st k=>st.at fun o e=>k it (by simp) o e
 item:=by
  intro X hP hw hK hc i Gx s σ H E I hf st hg;subst hP hw hK;obtain⟨xs,x,hq,hx⟩:=hg;obtain⟨GB,rv,p,hz⟩:=I.list hq;obtain⟨u,hu,ru⟩:=rv.get hx;obtain⟨f0,f1,f2,f3,f4,f5⟩:=hf it (by simp);refine wpAny_pyNext_list_item st p.isList (x:=u) (by simpa using hu) fun h' st' sb=>?_;have I1:Inv X Gx σ H {s with heap:=h'}:=I.turned (t':=s.toks) (fun b o hb e=>(sb.2 b hb).trans e) f0 f1 f3 f4 f5;obtain⟨o,e,c,d⟩:=id st';exact⟨u,rfl,uI (s:={s with heap:=h'}) e c d #[1] ⟨x,H,I1,ru,⟨rfl,fun ys hy=>by rw[I.list_inj hy hq];exact hx⟩,st',fun b hb=>(hf b hb).1⟩⟩
 done:=by
  intro X hP hw hK hc i Gx s σ H E I hf st hg;subst hP hw hK;obtain⟨xs,hq,hx⟩:=hg;obtain⟨GB,rv,p,hz⟩:=I.list hq;obtain⟨f0,f1,f2,f3,f4,f5⟩:=hf it (by simp);have hl:=rv.length;exact wpAny_pyNext_list_end (I.ok.hd hc) st p.isList (by simp;omega) fun h' eb=>⟨rfl,I.turned (t':=s.toks) (fun b o hb e=>eb b o hb e) f0 f1 f3 f4 f5⟩
 self:=fun _ _ _ _ _ st h=>wpAny_pyIter_listiter st h
def xU(a it:Addr):Turn P w K tg (Itt K a) [it] it (fun i h=>h.IsTupleIter it a i) where
 mem:=by simp
 obj:=fun i h st b hb=>by
  have e:b=it:=by simpa using hb
  subst e;obtain⟨o,e,c,d⟩:=st;exact⟨o,e,fun v z=>by rw[d] at z;cases z⟩
 keep:=fun i h h' st k=>st.at fun o e=>k it (by simp) o e
 item:=by
  intro X hP hw hK hc i Gx s σ H E I hf st hg;subst hP hw hK;obtain⟨xs,x,hq,hx⟩:=hg;obtain⟨GB,rv,p,hz⟩:=I.tuple hq;obtain⟨u,hu,ru⟩:=rv.get hx;obtain⟨f0,f1,f2,f3,f4,f5⟩:=hf it (by simp);refine wpAny_pyNext_tuple_item st (show s.heap.IsTuple a GB.toArray from p) (x:=u) (by simpa using hu) fun h' st' sb=>?_;have I1:Inv X Gx σ H {s with heap:=h'}:=I.turned (t':=s.toks) (fun b o hb e=>(sb.2 b hb).trans e) f0 f1 f3 f4 f5;obtain⟨o,e,c,d⟩:=id st';exact⟨u,rfl,uI (s:={s with heap:=h'}) e c d #[1] ⟨x,H,I1,ru,⟨rfl,fun ys hy=>by rw[I.tuple_inj hy hq];exact hx⟩,st',fun b hb=>(hf b hb).1⟩⟩
 done:=by
  intro X hP hw hK hc i Gx s σ H E I hf st hg;subst hP hw hK;obtain⟨xs,hq,hx⟩:=hg;obtain⟨GB,rv,p,hz⟩:=I.tuple hq;obtain⟨f0,f1,f2,f3,f4,f5⟩:=hf it (by simp);have hl:=rv.length;exact wpAny_pyNext_tuple_end (I.ok.hd hc) st (show s.heap.IsTuple a GB.toArray from p) (by simp;omega) fun h' eb=>⟨rfl,I.turned (t':=s.toks) (fun b o hb e=>eb b o hb e) f0 f1 f3 f4 f5⟩
 self:=fun _ _ _ _ _ st h=>wpAny_pyIter_tupleiter st h
def xV(it:Addr)(lo:Int)(n:Nat):Turn P w K tg (Itr lo n) [it] it (fun i h=>IsRangeIter h it (lo+(i:Nat)*1) ((n:Int) - (i:Nat)) 1) where
 mem:=by simp
 obj:=fun i h st b hb=>by
  have e:b=it:=by simpa using hb
  subst e
  exact⟨_,st,fun v z=>by
   have z':Data.fields _=Data.cell v:=z;cases z'⟩
 keep:=fun i h h' st k=>k it (by simp) _ st
 item:=by
  intro X hP hw hK hc i Gx s σ H E I hf st hg;subst hP hw hK;obtain⟨f0,f1,f2,f3,f4,f5⟩:=hf it (by simp);have W:=Walks.range (prog:=X.prog) (w:=X.w) (I.ok.hd hc) it lo 1 n;refine W.item i s _ _ hg st fun v h' tk hv st' kk=>?_;obtain⟨t,rfl⟩:=hv;have I1:Inv X Gx σ H {s with heap:=h',toks:=tk}:=I.turned (fun b o hb e=>kk b o (by simpa using hb) e) f0 f1 f3 f4 f5;refine⟨_,rfl,uI (s:={s with heap:=h',toks:=tk}) (n:="range_iterator") st' rfl rfl #[1] ⟨.int (lo+i),H,I1,⟨t,?_⟩,⟨rfl,rfl⟩,st',fun b hb=>(hf b hb).1⟩⟩;rw[Int.mul_one]
 done:=by
  intro X hP hw hK hc i Gx s σ H E I hf st hg;subst hP hw hK;obtain⟨f0,f1,f2,f3,f4,f5⟩:=hf it (by simp);exact wpAny_pyNext_range_end (I.ok.hd hc) st (by have:n<=i:=hg;omega) fun h' eb=>⟨rfl,I.turned (t':=s.toks) (fun b o hb e=>eb b o hb e) f0 f1 f3 f4 f5⟩
 self:=fun _ _ _ _ _ st h=>wpAny_pyIter_rangeiter st h
section
variable{X:Cx}{tg:Expr}
def iList(K:Frag)(tl:TE):TI:=fun σ H R=>tl σ H fun x H1=>∃ a,x=.ref a/\(∃ xs,SqL K H1 a xs)/\R (Itl K a) H1
def iTup(K:Frag)(tl:TE):TI:=fun σ H R=>tl σ H fun x H1=>∃ a,x=.ref a/\(∃ xs,SqT K H1 a xs)/\R (Itt K a) H1
def aE{l:Expr}{tl:TE}(hl:PE X l tl):PI X tg l (iList X.K tl):=by
 intro Gx s σ H R I h;refine thn (hl Gx s σ H _ I h) fun v s1 ⟨x,H1,I1,r1,q1⟩=>?_;obtain⟨a,e,⟨xs,hq⟩,q⟩:=q1;subst e;cases r1;obtain⟨GB,rv,p,hz⟩:=I1.list hq;refine ID p.isList ?_;refine⟨s1.heap.objs.size,[s1.heap.objs.size],_,_,H1,rfl,I1.kept (t':=s1.toks) fun b o e=>GO _ e,zf a _,⟨_,G8 _ rfl,rfl,rfl⟩,fun b hb=>?_,q⟩;have e:b=s1.heap.objs.size:=by simpa using hb
 subst e;exact I1.fpOk (GP _) (I1.hok.fresh (GP _))
def zg{l:Expr}{tl:TE}(hl:PE X l tl):PI X tg l (iTup X.K tl):=by
 intro Gx s σ H R I h;refine thn (hl Gx s σ H _ I h) fun v s1 ⟨x,H1,I1,r1,q1⟩=>?_;obtain⟨a,e,⟨xs,hq⟩,q⟩:=q1;subst e;cases r1;obtain⟨GB,rv,p,hz⟩:=I1.tuple hq;refine wpAny_pyIter_tuple (show s1.heap.IsTuple a GB.toArray from p) ?_;refine⟨s1.heap.objs.size,[s1.heap.objs.size],_,_,H1,rfl,I1.kept (t':=s1.toks) fun b o e=>GO _ e,xU a _,⟨_,G8 _ rfl,rfl,rfl⟩,fun b hb=>?_,q⟩;have e:b=s1.heap.objs.size:=by simpa using hb
 subst e;exact I1.fpOk (GP _) (I1.hok.fresh (GP _))
def uU {Gx:List (Addr × Obj)} {σ:St} {H:Hp} {s:Shared} {R:It->Hp->Prop} {E:Value->Shared->Prop} {lo hi:Int} {t u v:Tok} {tk:Nat} (I:Inv X Gx σ H s) (h1: -(2^62)<=lo) (h2:lo<2^62) (h3: -(2^62)<=hi) (h4:hi<2^62)
  (q:R (Itr lo (hi-lo).toNat) H):wpAny (model X.prog X.w) X.A (pyIter (.ref s.heap.objs.size)) (PIE X Gx σ tg R) E {s with heap:=s.heap.push {cls:=.type "range",data:=.fields #[.int lo t,.int hi u,.int 1 v]},toks:=tk}:=by
 refine wpAny_pyIter_range (IsRange.new ..) (small_one h1 h2 h3 h4) ?_;have I1:Inv X Gx σ H {s with heap:=s.heap.push {cls:=.type "range",data:=.fields #[.int lo t,.int hi u,.int 1 v]},toks:=tk}:=I.kept fun b o e=>GO _ e
 refine⟨(s.heap.push {cls:=.type "range",data:=.fields #[.int lo t,.int hi u,.int 1 v]}).objs.size,[(s.heap.push {cls:=.type "range",data:=.fields #[.int lo t,.int hi u,.int 1 v]}).objs.size],_,_,H,rfl,
  I1.kept (t':=tk) fun b o e=>GO _ e,xV _ lo (hi-lo).toNat,?_,fun b hb=>?_,q⟩
 . have e1:lo+((0:Nat):Int)*1=lo:=by simp
   have e2:(((hi-lo).toNat:Nat):Int) - ((0:Nat):Int)=Builtin.Range.rangeSize lo hi 1:=by rw[rangeSize_one];split <;> omega
   show IsRangeIter _ _ (lo+((0:Nat):Int)*1) ((((hi-lo).toNat:Nat):Int) - ((0:Nat):Int)) 1;rw[e1,e2];exact G8 _ rfl
 . have e:b=(s.heap.push {cls:=.type "range",data:=.fields #[.int lo t,.int hi u,.int 1 v]}).objs.size:=by simpa using hb
   subst e;exact I1.fpOk (GP _) (I1.hok.fresh (GP _))
def dU(ta:TA):TI:=fun σ H R=>ta σ H fun vs H1=>∃ j:Int,vs=[.int j]/\ -(2^62)<=j/\j<2^62/\R (Itr 0 j.toNat) H1
def oK(ta:TA):TI:=fun σ H R=>ta σ H fun vs H1=>∃ i j:Int,vs=[.int i,.int j]/\(-(2^62)<=i/\i<2^62/\ -(2^62)<=j/\j<2^62)/\R (Itr i (j-i).toNat) H1
theorem cm{a:Expr}{ta:TA}{p pos:Pos}(hg:Gl X "range")(hm:X.mg "range"=none)(ha:PA X [a] ta)(hs:starEach [a] X.env=[(false,eval a X.env)]:=by rfl):PI X tg (.Call (.Name "range" p) [a] [] pos) (dU ta):=by
 intro Gx s σ H R I h;refine Call_ (fF I hg hm boot_range (HF (thn (ha pos Gx s σ H _ I h) fun us s1 ⟨vs,H1,I1,r1,q1⟩=>?_) hs rfl));obtain⟨j,e,q1,q2,q⟩:=q1;subst e
 cases r1 with
 | cons r rr=>
  cases rr;obtain⟨t,rfl⟩:=r;exact call_range_1 (uU I1 #[0] #[0] q1 q2 (by simpa using q))
theorem tp{a b:Expr}{ta:TA}{p pos:Pos}(hg:Gl X "range")(hm:X.mg "range"=none)(ha:PA X [a,b] ta)(hs:starEach [a,b] X.env=[(false,eval a X.env),(false,eval b X.env)]:=by rfl)(hs2:starEach [b] X.env=[(false,eval b X.env)]:=by rfl):
  PI X tg (.Call (.Name "range" p) [a,b] [] pos) (oK ta):=by
 intro Gx s σ H R I h;refine Call_ (fF I hg hm boot_range (HF (thn (ha pos Gx s σ H _ I h) fun us s1 ⟨vs,H1,I1,r1,q1⟩=>?_) (by rw[hs,hs2]) (by rw[hs2];rfl)));obtain⟨i,j,e,⟨q1,q2,q3,q4⟩,q⟩:=q1;subst e
 cases r1 with
 | cons r rr=>
  cases rr with
  | cons r' rr=>
   cases rr;obtain⟨t,rfl⟩:=r;obtain⟨t',rfl⟩:=r';exact call_range_2 (uU I1 q1 q2 q3 q4 q)
def tFor(wi:TI)(g:TG)(tb:TS):TS:=fun D σ H=>wi σ H fun J H1=>∃ W:Nat->Nat->St->Hp->Prop,(∃ m,W 0 m σ H1)/\∀ i m σ H,W i m σ H->
 (J.stop i H/\D.nx σ H)\/(J.go i H/\∃ N:St->Hp->Prop,(∀ σ' H',N σ' H'->∃ m',m'<m/\W (i+1) m' σ' H')/\∀ x H',J.yld i H x H'->g x σ H' fun σ2 H2=>tb {D with nx:=N,ct:=N,bk:=D.nx} σ2 H2)
def ni(fp:List Addr)(h:Heap):List (Addr × Obj):=fp.filterMap fun b=>(h.get? b).map fun o=>(b,o)
def jt{fp:List Addr}{h:Heap}{b:Addr}{o:Obj}(hb:b∈fp)(e:h.get? b=some o):(b,o)∈ni fp h:=IP.mpr ⟨b,hb,by rw[e];rfl⟩
theorem zh{fp:List Addr}{h:Heap}{p:Addr × Obj}(hp:p∈ni fp h):p.1∈fp/\h.get? p.1=some p.2:=by
 obtain⟨b,hb,e⟩:=IP.mp hp
 cases q:h.get? b with
 | none=>rw[q] at e;cases e
 | some o=>
  rw[q] at e;have e':(b,o)=p:=Ig e;subst e';exact⟨hb,q⟩
def Inv.pinned{Gx:List (Addr × Obj)}{σ:St}{H:Hp}{s:Shared}{fp:List Addr}(I:Inv X Gx σ H s)(hf:∀ b∈fp,FpOk X Gx H b)(ho:∀ b∈fp,∃ o,s.heap.get? b=some o/\∀ v,o.data≠.cell v):Inv X (Gx++ni fp s.heap) σ H s:=
 I.pins_of fun p hp=>(Hc.mp hp).elim (fun z=>I.pin p (Hh _ z)) fun z=>by
  obtain⟨hb,e⟩:=zh z;obtain⟨f0,f1,f2,_⟩:=hf p.1 hb;obtain⟨o,e',d⟩:=ho p.1 hb;rw[e] at e';cases e';exact⟨e,f0,f1,f2,d⟩
def Inv.unpinned{Gx pl:List (Addr × Obj)}{σ:St}{H:Hp}{s:Shared}(I:Inv X (Gx++pl) σ H s):Inv X Gx σ H s:=I.pins_of fun p hp=>I.pin p (Hh _ (Io _ hp))
def cF {iter:Expr} {body:List Stmt} {wi:TI} {g:TG} {tb:TS} {pos:Pos} (hp:PassesOwn (model X.prog X.w) X.A X.env X.xe) (hc:X.calm=true) (hi:PI X tg iter wi) (hg:PG X tg g) (hb:PSs X body tb)
  (hs:∀ x,foldedSetIterable iter X.env x=pure x:=by intro _;rfl):PS X (.For tg iter body [] pos) (tFor wi g tb):=by
 intro Gx s σ H D I h;refine wpAny_For (thn (hi Gx s σ H _ I h) fun v s1 h1=>thn h1 fun itv s2 h2=>?_) hs;obtain⟨it,fp,tn,J,H2,e,I2,T,st2,f2,W,⟨m0,w0⟩,turn⟩:=h2;subst e;have stat:∀{H':Hp},(∀ b∈fp,H' b=none)->∀ b∈fp,FpOk X Gx H' b:=fun hn b hb=>⟨hn b hb,(f2 b hb).2⟩;refine codeAny_forLoop_any (fun n s'=>∃ i σ' H',Inv X Gx σ' H' s'/\tn i s'.heap/\(∀ b∈fp,H' b=none)/\W i n σ' H') ?_ m0 ⟨0,σ,H2,I2,st2,fun b hb=>(f2 b hb).1,w0⟩;rintro n s3 ⟨i,σ3,H3,I3,st3,fr3,w3⟩;rcases turn i n σ3 H3 w3 with ⟨stop,qn⟩ | ⟨go,N,hN,step⟩
 . refine Il hp (thn (T.done X rfl rfl rfl hc i Gx s3 σ3 H3 X.xe I3 (stat fr3) st3 stop) fun r s4 ⟨hr,I4⟩=>?_);subst hr;exact Jh ⟨σ3,H3,I4,qn⟩
 . refine Il hp (thn (T.item X rfl rfl rfl hc i Gx s3 σ3 H3 X.xe I3 (stat fr3) st3 go) fun r s4 ⟨u,hr,h4⟩=>?_);subst hr;refine Il hp (thn h4 fun _ s5 ⟨x,H5,I5,r5,y5,st5,fr5⟩=>?_);have I5':=I5.pinned (stat fr5) (T.obj _ _ st5);refine Il hp (thn (hg _ s5 σ3 H5 x u _ I5' r5 (step x H5 y5)) fun _ s6 ⟨σ6,H6,I6,q6⟩=>?_);refine Il hp (thn (hb _ s6 σ6 H6 _ I6 q6) fun f s7 q7=>?_)
   have again:∀{σ7:St} {H7:Hp},Inv X (Gx++ni fp s5.heap) σ7 H7 s7->N σ7 H7->∃ m,m<n/\∃ i σ' H',Inv X Gx σ' H' s7/\tn i s7.heap/\(∀ b∈fp,H' b=none)/\W i m σ' H':=fun{σ7 H7} I7 n7=>by
    obtain⟨m',hm,w7⟩:=hN σ7 H7 n7;refine⟨m',hm,i+1,σ7,H7,I7.unpinned,T.keep _ _ _ st5 fun b hb o e=>(I7.pin (b,o) (Hh _ (Hh _ (jt hb e)))).1,fun b hb=>?_,w7⟩;obtain⟨o,e,d⟩:=T.obj _ _ st5 b hb;exact(I7.pin (b,o) (Hh _ (Hh _ (jt hb e)))).2.1
   cases f with
   | next=>obtain⟨σ7,H7,I7,n7⟩:=q7;exact again I7 n7
   | cont=>obtain⟨σ7,H7,I7,n7⟩:=q7;exact again I7 n7
   | brk=>obtain⟨σ7,H7,I7,q7⟩:=q7;exact⟨σ7,H7,I7.unpinned,q7⟩
   | ret v=>obtain⟨x7,σ7,H7,I7,r7,q7⟩:=q7;exact⟨x7,σ7,H7,I7.unpinned,r7,q7⟩
end
def fG {K:Frag} {a:Addr} {xs:List V} {g:TG} {tb:TS} {D:Ends} {σ:St} {H:Hp} (Pv:Nat->St->Hp->Prop) (h0:Pv 0 σ H) (hl:∀ i σ H,i<=xs.length->Pv i σ H->SqL K H a xs)
  (hs:∀ i x σ H,xs[i]? =some x->Pv i σ H->g x σ H fun σ2 H2=>tb {D with nx:=Pv (i+1),ct:=Pv (i+1),bk:=D.nx} σ2 H2) (hd:∀ σ H,Pv xs.length σ H->D.nx σ H):
  ∃ W:Nat->Nat->St->Hp->Prop,(∃ m,W 0 m σ H)/\∀ i m σ H,W i m σ H->
   ((Itl K a).stop i H/\D.nx σ H)\/((Itl K a).go i H/\∃ N:St->Hp->Prop,(∀ σ' H',N σ' H'->∃ m',m'<m/\W (i+1) m' σ' H')/\∀ x H',(Itl K a).yld i H x H'->g x σ H' fun σ2 H2=>tb {D with nx:=N,ct:=N,bk:=D.nx} σ2 H2):=by
 refine⟨fun i m σ H=>m=xs.length-i/\i<=xs.length/\Pv i σ H,⟨xs.length,by simp,HG _,h0⟩,?_⟩;rintro i m σ H ⟨rfl,hi,p⟩;have q:=hl i σ H hi p;by_cases hlt:i<xs.length
 . refine .inr ⟨⟨xs,xs[i],q,by simp[hlt]⟩,Pv (i+1),fun σ' H' p'=>⟨xs.length - (i+1),by omega,rfl,hlt,p'⟩,fun x H' y=>?_⟩;obtain⟨e,y⟩:=y;subst e;exact hs i x σ _ (y xs q) p
 . have e:i=xs.length:=by omega
   subst e;exact .inl ⟨⟨xs,q,GP _⟩,hd σ H p⟩
def d3 {lo:Int} {n:Nat} {g:TG} {tb:TS} {D:Ends} {σ:St} {H:Hp} (Pv:Nat->St->Hp->Prop) (h0:Pv 0 σ H)
  (hs:∀ i σ H,i<n->Pv i σ H->g (.int (lo+i)) σ H fun σ2 H2=>tb {D with nx:=Pv (i+1),ct:=Pv (i+1),bk:=D.nx} σ2 H2) (hd:∀ σ H,Pv n σ H->D.nx σ H):
  ∃ W:Nat->Nat->St->Hp->Prop,(∃ m,W 0 m σ H)/\∀ i m σ H,W i m σ H->
   ((Itr lo n).stop i H/\D.nx σ H)\/((Itr lo n).go i H/\∃ N:St->Hp->Prop,(∀ σ' H',N σ' H'->∃ m',m'<m/\W (i+1) m' σ' H')/\∀ x H',(Itr lo n).yld i H x H'->g x σ H' fun σ2 H2=>tb {D with nx:=N,ct:=N,bk:=D.nx} σ2 H2):=by
 refine⟨fun i m σ H=>m=n-i/\i<=n/\Pv i σ H,⟨n,by simp,HG _,h0⟩,?_⟩;rintro i m σ H ⟨rfl,hi,p⟩;by_cases hlt:i<n
 . refine .inr ⟨hlt,Pv (i+1),fun σ' H' p'=>⟨n - (i+1),by omega,rfl,hlt,p'⟩,fun x H' y=>?_⟩;obtain⟨e,y⟩:=y;subst e y;exact hs i σ _ hlt p
 . have e:i=n:=by omega
   subst e;exact .inl ⟨GP _,hd σ H p⟩
abbrev R2:=V->V->Hp->VK->Prop
def OpR(X:Cx)(f:Value->Value->Sem Value)(r:R2):Prop:=
 ∀(Gx:List (Addr × Obj)) (s:Shared) (σ:St) (H:Hp) (x y:V) (v u:Value) (Q:VK),Inv X Gx σ H s->RelV x v->RelV y u->r x y H Q->
  wpAny (model X.prog X.w) X.A (f v u) (EP X Gx σ Q) X.xe s
def UnR(X:Cx)(f:Value->Sem Value)(r:V->Hp->VK->Prop):Prop:=
 ∀(Gx:List (Addr × Obj)) (s:Shared) (σ:St) (H:Hp) (x:V) (v:Value) (Q:VK),Inv X Gx σ H s->RelV x v->r x H Q->
  wpAny (model X.prog X.w) X.A (f v) (EP X Gx σ Q) X.xe s
def CallR(X:Cx)(f:Value)(r:List V->Hp->VK->Prop):Prop:=
 ∀(Gx:List (Addr × Obj)) (s:Shared) (σ:St) (H:Hp) (xs:List V) (us:List Value) (Q:VK),Inv X Gx σ H s->Vals xs us->r xs H Q->
  wpAny (model X.prog X.w) X.A (call f us) (EP X Gx σ Q) X.xe s
def tOp(r:R2)(ta tb:TE):TE:=fun σ H Q=>ta σ H fun x H1=>tb σ H1 fun y H2=>r x y H2 Q
def tUn(r:V->Hp->VK->Prop)(ta:TE):TE:=fun σ H Q=>ta σ H fun x H1=>r x H1 Q
def rI(C:Int->Int->Prop)(g:Int->Int->V):R2:=fun x y H Q=>∃ i j,x=.int i/\y=.int j/\C i j/\Q (g i j) H
def rI0(g:Int->Int->V):R2:=fun x y H Q=>∃ i j,x=.int i/\y=.int j/\Q (g i j) H
def rU(g:Int->V):V->Hp->VK->Prop:=fun x H Q=>∃ i,x=.int i/\Q (g i) H
section
variable{X:Cx}{a b c:Expr}{ta tb tc:TE}{pos:Pos}
def binT (ha:PE X a ta) (hb:PE X b tb) {Gx:List (Addr × Obj)} {s:Shared} {σ:St} {H:Hp} {R:V->V->Hp->Prop} (I:Inv X Gx σ H s)
  (h:ta σ H fun x H1=>tb σ H1 fun y H2=>R x y H2) {Q:Value->Shared->Prop} {f:Value->Value->Sem Value}
  (hf:∀ v u s2 x y H2,Inv X Gx σ H2 s2->RelV x v->RelV y u->R x y H2->wpAny (model X.prog X.w) X.A (f v u) Q X.xe s2):
  wpAny (model X.prog X.w) X.A (eval a X.env) (fun v s₁=>wpAny (model X.prog X.w) X.A (eval b X.env) (fun u s₂=>wpAny (model X.prog X.w) X.A (f v u) Q X.xe s₂) X.xe s₁) X.xe s:=by
 refine thn (ha Gx s σ H _ I h) fun v s1 ⟨x,H1,I1,r1,q1⟩=>?_;refine thn (hb Gx s1 σ H1 _ I1 q1) fun u s2 ⟨y,H2,I2,r2,q2⟩=>?_;exact hf v u s2 x y H2 I2 r1 r2 q2
def ao{op:Operator}{r:R2}(ho:OpR X (binaryOp op) r)(ha:PE X a ta)(hb:PE X b tb):PE X (.BinOp a op b pos) (tOp r ta tb):=by
 intro Gx s σ H Q I h;exact wpAny_BinOp (binT ha hb I h fun v u s2 x y H2 I2 rx ry q=>ho Gx s2 σ H2 x y v u Q I2 rx ry q)
def Dw{op:UnaryOp}{r:V->Hp->VK->Prop}(ho:UnR X (unaryOp op) r)(ha:PE X a ta):PE X (.UnaryOp op a pos) (tUn r ta):=by
 intro Gx s σ H Q I h;exact UnaryOp_ (thn (ha Gx s σ H _ I h) fun v s1 ⟨x,H1,I1,r1,q1⟩=>ho Gx s1 σ H1 x v Q I1 r1 q1)
def opI {f:Value->Value->Sem Value} {C:Int->Int->Prop} {g:Int->Int->Int}
  (rule:∀(i j:Int) (t u:Tok) (s:Shared) (Q:Value->Shared->Prop) (E:Value->Shared->Prop),C i j->Q (.int (g i j) s.toks) {s with toks:=s.toks+1}->wpAny (model X.prog X.w) X.A (f (.int i t) (.int j u)) Q E s):
  OpR X f (rI C fun i j=>.int (g i j)):=by
 intro Gx s σ H x y v u Q I rx ry h;obtain⟨i,j,rfl,rfl,hc,q⟩:=h;obtain⟨t,rfl⟩:=rx;obtain⟨t',rfl⟩:=ry;exact rule i j t t' s _ _ hc ⟨.int (g i j),H,I.tok _,⟨_,rfl⟩,q⟩
def AJ {f:Value->Value->Sem Value} {g:Int->Int->Int}
  (rule:∀(i j:Int) (t u:Tok) (s:Shared) (Q:Value->Shared->Prop) (E:Value->Shared->Prop),Q (.int (g i j) s.toks) {s with toks:=s.toks+1}->wpAny (model X.prog X.w) X.A (f (.int i t) (.int j u)) Q E s):
  OpR X f (rI0 fun i j=>.int (g i j)):=by
 intro Gx s σ H x y v u Q I rx ry h;obtain⟨i,j,rfl,rfl,q⟩:=h;obtain⟨t,rfl⟩:=rx;obtain⟨t',rfl⟩:=ry;exact rule i j t t' s _ _ ⟨.int (g i j),H,I.tok _,⟨_,rfl⟩,q⟩
def xW {f:Value->Value->Sem Value} {g:Int->Int->Bool}
  (rule:∀(i j:Int) (t u:Tok) (s:Shared) (Q:Value->Shared->Prop) (E:Value->Shared->Prop),Q (.bool (g i j)) s->wpAny (model X.prog X.w) X.A (f (.int i t) (.int j u)) Q E s):
  OpR X f (rI0 fun i j=>.bl (g i j)):=by
 intro Gx s σ H x y v u Q I rx ry h;obtain⟨i,j,rfl,rfl,q⟩:=h;obtain⟨t,rfl⟩:=rx;obtain⟨t',rfl⟩:=ry;exact rule i j t t' s _ _ ⟨.bl (g i j),H,I,rfl,q⟩
def CDiv(i j:Int):Prop:=0<j/\j<1073741824
def CPow(i j:Int):Prop:=0<=j/\j<=1000000/\i.natAbs<2^64
def CMul(i j:Int):Prop:=(-(2^64)<i/\i<2^64)\/(-(2^64)<j/\j<2^64)
def CMul.ok{i j:Int}(h:CMul i j):IntMulOk i j:=by
 rcases h with ⟨h1,h2⟩ | ⟨h1,h2⟩
 . exact .of_left (intBits_le_64 h1 h2)
 . exact .of_right (intBits_le_64 h1 h2)
def xX(k:Nat):(0:Int)<=2^k:=by
 rw[two_pow_cast];exact Int.natCast_nonneg _
def Cu:OpR X (binaryOp .Add) (rI0 fun i j=>.int (i+j)):=AJ fun _ _ _ _ _ _ _ q=>add_int q
def Cv:OpR X (binaryOp .Sub) (rI0 fun i j=>.int (i-j)):=AJ fun _ _ _ _ _ _ _ q=>sub_int q
def Cw:OpR X (binaryOp .Mult) (rI CMul fun i j=>.int (i*j)):=opI fun _ _ _ _ _ _ _ hc q=>mul_int q hc.ok
def BG:OpR X (binaryOp .FloorDiv) (rI CDiv fun i j=>.int (i/j)):=opI fun i j _ _ _ _ _ hc q=>by
 have h1:(0:Int)<j:=hc.1;have h2:j<1073741824:=hc.2;exact floordiv_int #[0] (by rw[Jv i #[0]];exact q) (.inl (PyProof.noPylong_small #[0]))
def Cy:OpR X (binaryOp .Mod) (rI (fun _ j=>0<j) fun i j=>.int (i%j)):=opI fun i j _ _ _ _ _ hc q=>by
 have h1:(0:Int)<j:=hc;exact mod_int' #[0] (by rw[Int.fmod_eq_emod_of_nonneg i #[0]];exact q)
def Cz:OpR X (binaryOp .RShift) (rI (fun _ j=>0<=j) fun i j=>.int (i/2^j.toNat)):=opI fun i j _ _ _ _ _ hc q=>
 rshift_int hc (by rw[Jv i (xX _)];exact q)
def Dx:OpR X (binaryOp .BitOr) (rI0 fun i j=>.int (Builtin.bitOr i j)):=AJ fun _ _ _ _ _ _ _ q=>or_int q
def unI {f:Value->Sem Value} {g:Int->Int}
  (rule:∀(i:Int) (t:Tok) (s:Shared) (Q:Value->Shared->Prop) (E:Value->Shared->Prop),Q (.int (g i) s.toks) {s with toks:=s.toks+1}->wpAny (model X.prog X.w) X.A (f (.int i t)) Q E s):
  UnR X f (rU fun i=>.int (g i)):=by
 intro Gx s σ H x v Q I rx h;obtain⟨i,rfl,q⟩:=h;obtain⟨t,rfl⟩:=rx;exact rule i t s _ _ ⟨.int (g i),H,I.tok _,⟨_,rfl⟩,q⟩
def CA:UnR X (unaryOp .USub) (rU fun i=>.int (-i)):=unI fun _ _ _ _ _ q=>neg_int q
end
def scal:V->V->Bool
 | .non,.non=>true | .non,.int _=>true | .int _,.non=>true | .non,.bl _=>true | .bl _,.non=>true | .non,.str _=>true | .str _,.non=>true
 | .int _,.int _=>true | .bl _,.bl _=>true | .str _,.str _=>true | .byt _,.byt _=>true
 | .int _,.str _=>true | .str _,.int _=>true | .bl _,.str _=>true | .str _,.bl _=>true
 | _,_=>false
def rEq:R2:=fun x y H Q=>scal x y=true/\Q (.bl (decide (x=y))) H
def rNe:R2:=fun x y H Q=>scal x y=true/\Q (.bl (!decide (x=y))) H
def xa{i j:Int}:decide (V.int i=V.int j)=(i==j):=by
 rw[Hx];simp
def zi{i j:Bool}:decide (V.bl i=V.bl j)=(i==j):=by
 rw[Hx];simp
def xc{i j:Str}:decide (V.str i=V.str j)=(i==j):=by
 rw[Hx];simp
def xf{i j:Array UInt8}:decide (V.byt i=V.byt j)=(i.toList==j.toList):=by
 rw[Hx];cases i;cases j;simp
section
variable{X:Cx}{a b c:Expr}{ta tb tc:TE}{pos:Pos}
def aN{Gx:List (Addr × Obj)}{σ:St}{H:Hp}{s:Shared}{Q:VK}{k k':Bool}(I:Inv X Gx σ H s)(q:Q (.bl k) H)(e:k=k'):EP X Gx σ Q (.bool k') s:=by
 subst e;exact⟨.bl k,H,I,rfl,q⟩
theorem xY:OpR X (compareOp .Eq) rEq:=by
 intro Gx s σ H x y v u Q I rx ry h;obtain⟨hs,q⟩:=h
 cases x with
 | non=>
  cases rx
  cases y with
  | non=>cases ry;exact PySem.EqNone.eq_none_none (aN I q (by simp))
  | bl j=>cases ry;exact PySem.EqNone.eq_none_bool (aN I q (by simp))
  | int j=>obtain⟨t',rfl⟩:=ry;exact PySem.EqNone.eq_none_int (aN I q (by simp))
  | str j=>obtain⟨t',rfl⟩:=ry;exact PySem.EqNone.eq_none_str (aN I q (by simp))
  | _=>exact absurd (show false=true from hs) GM
 | bl i=>
  cases rx
  cases y with
  | non=>cases ry;exact PySem.EqNone.eq_bool_none (aN I q (by simp))
  | bl j=>cases ry;exact eq_bool (aN I q zi)
  | str j=>obtain⟨t',rfl⟩:=ry;exact PySem.EqMixed.eq_bool_str (aN I q (by simp))
  | _=>exact absurd (show false=true from hs) GM
 | int i=>
  obtain⟨t,rfl⟩:=rx
  cases y with
  | non=>cases ry;exact PySem.EqNone.eq_int_none (aN I q (by simp))
  | int j=>obtain⟨t',rfl⟩:=ry;exact eq_int (aN I q xa)
  | str j=>obtain⟨t',rfl⟩:=ry;exact PySem.EqMixed.eq_int_str (aN I q (by simp))
  | _=>exact absurd (show false=true from hs) GM
 | str i=>
  obtain⟨t,rfl⟩:=rx
  cases y with
  | non=>cases ry;exact PySem.EqNone.eq_str_none (aN I q (by simp))
  | bl j=>cases ry;exact PySem.EqMixed.eq_str_bool (aN I q (by simp))
  | int j=>obtain⟨t',rfl⟩:=ry;exact PySem.EqMixed.eq_str_int (aN I q (by simp))
  | str j=>obtain⟨t',rfl⟩:=ry;exact eq_str (aN I q xc)
  | _=>exact absurd (show false=true from hs) GM
 | byt i=>
  obtain⟨t,rfl⟩:=rx
  cases y with
  | byt j=>obtain⟨t',rfl⟩:=ry;exact PySem.W.eq_bytes (aN I q xf)
  | _=>exact absurd (show false=true from hs) GM
 | _=>cases y <;> exact absurd (show false=true from hs) GM
theorem xZ:OpR X (compareOp .NotEq) rNe:=by
 intro Gx s σ H x y v u Q I rx ry h;obtain⟨hs,q⟩:=h
 cases x with
 | non=>
  cases rx
  cases y with
  | non=>cases ry;exact PySem.EqNone.ne_none_none (aN I q (by simp))
  | bl j=>cases ry;exact PySem.EqNone.ne_none_bool (aN I q (by simp))
  | int j=>obtain⟨t',rfl⟩:=ry;exact PySem.EqNone.ne_none_int (aN I q (by simp))
  | str j=>obtain⟨t',rfl⟩:=ry;exact PySem.EqNone.ne_none_str (aN I q (by simp))
  | _=>exact absurd (show false=true from hs) GM
 | bl i=>
  cases rx
  cases y with
  | non=>cases ry;exact PySem.EqNone.ne_bool_none (aN I q (by simp))
  | bl j=>cases ry;exact ne_bool (aN I q (congrArg not zi))
  | str j=>obtain⟨t',rfl⟩:=ry;exact PySem.EqMixed.ne_bool_str (aN I q (by simp))
  | _=>exact absurd (show false=true from hs) GM
 | int i=>
  obtain⟨t,rfl⟩:=rx
  cases y with
  | non=>cases ry;exact PySem.EqNone.ne_int_none (aN I q (by simp))
  | int j=>obtain⟨t',rfl⟩:=ry;exact ne_int (aN I q (congrArg not xa))
  | str j=>obtain⟨t',rfl⟩:=ry;exact PySem.EqMixed.ne_int_str (aN I q (by simp))
  | _=>exact absurd (show false=true from hs) GM
 | str i=>
  obtain⟨t,rfl⟩:=rx
  cases y with
  | non=>cases ry;exact PySem.EqNone.ne_str_none (aN I q (by simp))
  | bl j=>cases ry;exact PySem.EqMixed.ne_str_bool (aN I q (by simp))
  | int j=>obtain⟨t',rfl⟩:=ry;exact PySem.EqMixed.ne_str_int (aN I q (by simp))
  | str j=>obtain⟨t',rfl⟩:=ry;exact ne_str (aN I q (congrArg not xc))
  | _=>exact absurd (show false=true from hs) GM
 | byt i=>
  obtain⟨t,rfl⟩:=rx
  cases y with
  | byt j=>obtain⟨t',rfl⟩:=ry;exact PySem.W.ne_bytes (aN I q (congrArg not xf))
  | _=>exact absurd (show false=true from hs) GM
 | _=>cases y <;> exact absurd (show false=true from hs) GM
def Dy:OpR X (compareOp .Lt) (rI0 fun i j=>.bl (decide (i<j))):=xW fun _ _ _ _ _ _ _ q=>lt_int q
def Dz:OpR X (compareOp .LtE) (rI0 fun i j=>.bl (decide (i<=j))):=xW fun _ _ _ _ _ _ _ q=>le_int q
def DA:OpR X (compareOp .Gt) (rI0 fun i j=>.bl (decide (j<i))):=xW fun _ _ _ _ _ _ _ q=>gt_int q
def DB:OpR X (compareOp .GtE) (rI0 fun i j=>.bl (decide (j<=i))):=xW fun _ _ _ _ _ _ _ q=>ge_int q
def zj:OpR X (compareOp .In) (fun x y H Q=>∃ i j,x=.str i/\y=.str j/\Q (.bl (!(Builtin.Str.occurrences j i 0 j.length 1).isEmpty)) H):=by
 intro Gx s σ H x y v u Q I rx ry h;obtain⟨i,j,rfl,rfl,q⟩:=h;obtain⟨t,rfl⟩:=rx;obtain⟨t',rfl⟩:=ry;exact in_str (aN I q rfl)
def CB:OpR X (compareOp .Is) (fun x y H Q=>y=.non/\Q (.bl (decide (x=.non))) H):=by
 intro Gx s σ H x y v u Q I rx ry h;obtain⟨rfl,q⟩:=h;cases ry;refine is_none_gen (aN I q ?_)
 cases x <;> first
  | (cases rx;rfl)
  | (obtain⟨t,rfl⟩:=rx;rfl)
def ak(b:Expr){op:CmpOp}(h:op≠.In:=by decide)(h2:op≠.NotIn:=by decide):behindInMarks op b=false:=by
 have e1:(op==CmpOp.In)=false:=by cases op <;> first | rfl | exact absurd rfl h
 have e2:(op==CmpOp.NotIn)=false:=by cases op <;> first | rfl | exact absurd rfl h2
 cases b <;> simp[behindInMarks,e1,e2]
def aF{op:CmpOp}{r:R2}(ho:OpR X (compareOp op) r)(ha:PE X a ta)(hb:PE X b tb)(hm:behindInMarks op b=false):PE X (.Compare a [op] [b] pos) (tOp r ta tb):=by
 intro Gx s σ H Q I h;exact wpAny_Compare1 (binT ha hb I h fun v u s2 x y H2 I2 rx ry q=>ho Gx s2 σ H2 x y v u Q I2 rx ry q) hm
def tTest(t:TE):TT:=fun σ H Q=>t σ H fun x H'=>∃ k,x=.bl k/\Q k H'
def ap{op:CmpOp}{r:R2}(ho:OpR X (compareOp op) r)(ha:PE X a ta)(hb:PE X b tb)(hm:behindInMarks op b=false):PT X (.Compare a [op] [b] pos) (tTest (tOp r ta tb)):=by
 intro Gx s σ H Q I h
 refine wpAny_isTrue_Compare1 (thn (ha Gx s σ H _ I h) fun v s1 ⟨x,H1,I1,r1,q1⟩=>thn (hb Gx s1 σ H1 _ I1 q1) fun u s2 ⟨y,H2,I2,r2,q2⟩=>
  thn (ho Gx s2 σ H2 x y v u _ I2 r1 r2 q2) fun c s3 ⟨z,H3,I3,r3,k,e,q3⟩=>?_) hm
 subst e;cases r3;exact Ic ⟨H3,I3,q3⟩
def nj:(sizeLine:Nat)<2^63:=by rw[sizeLine_eq];decide
def x9:OpR X (binaryOp .Add) (fun x y H Q=>∃ i j,x=.str i/\y=.str j/\i.length+j.length<=sizeLine/\Q (.str (i++j)) H):=by
 intro Gx s σ H x y v u Q I rx ry h;obtain⟨i,j,rfl,rfl,hz,q⟩:=h;obtain⟨t,rfl⟩:=rx;obtain⟨t',rfl⟩:=ry;exact add_str (fun t' tk=>⟨.str (i++j),H,I.tok _,⟨_,rfl⟩,q⟩) hz
theorem c5{x:V}{us:List Value}(r:Vals [x] us):∃ u,us=[u]/\RelV x u:=by
 cases r with
 | cons r1 r2=>cases r2;exact⟨_,rfl,r1⟩
theorem Br{x y:V}{us:List Value}(r:Vals [x,y] us):∃ u w',us=[u,w']/\RelV x u/\RelV y w':=by
 cases r with
 | cons r1 r2=>
  cases r2 with
  | cons r3 r4=>cases r4;exact⟨_,_,rfl,r1,r3⟩
def zk(hc:X.calm=true):CallR X (.builtin "max") (fun xs H Q=>∃ i j,xs=[.int i,.int j]/\Q (.int (if j>i then j else i)) H):=by
 intro Gx s σ H xs us Q I r h;obtain⟨i,j,rfl,q⟩:=h;obtain⟨u,w',rfl,⟨t,rfl⟩,⟨t',rfl⟩⟩:=Br r;refine max_two_ints (I.ok.hd hc) fun h' tk k=>⟨_,H,I.kept k,?_,q⟩;by_cases hj:j>i
 . rw[G9 hj,G9 hj];exact⟨_,rfl⟩
 . rw[G3 hj,G3 hj];exact⟨_,rfl⟩
def tq:CallR X (.type "int") (fun xs H Q=>(∃ i,xs=[.int i]/\Q (.int i) H)\/∃ k,xs=[.bl k]/\Q (.int (if k then 1 else 0)) H):=by
 intro Gx s σ H xs us Q I r h;rcases h with ⟨i,rfl,q⟩ | ⟨k,rfl,q⟩
 . obtain⟨u,rfl,t,rfl⟩:=c5 r;exact call_int_int ⟨.int i,H,I,⟨_,rfl⟩,q⟩
 . obtain⟨u,rfl,r1⟩:=c5 r;cases r1;exact call_int_bool ⟨.int (if k then 1 else 0),H,I.tok _,⟨_,rfl⟩,q⟩
end
structure ObjM(h:Heap)(x dx C:Addr)(mA:Str->Option Value):Prop where
 obj:h.get? x=some (PySem.W.instObj C dx)
 ns:h.Ns1 dx mA
 ne:dx≠x
variable{mA:Str->Option Value}
def zl{h:Heap}{dx:Addr}(n:h.Ns1 dx mA):∃ od,h.get? dx=some od/\∀ name,PySem.W.lookIn name od=some (mA name):=by
 obtain⟨o,es,ep,ho,hd,hk,_,hm⟩:=n;refine⟨o,ho,fun name=>?_⟩;have e:=hm name;unfold nsFind findBy at e;rw[← Array.find?_toList] at e;unfold PySem.W.lookIn;rw[hd];dsimp only
 split
 . rename_i y q
   rw[q] at e;exact congrArg some e
 . rename_i q
   rw[q] at e
   have a:es.toList.any (·.refKey)=false:=by
    rw[JG];intro y hy;obtain⟨z,t,hkey⟩:=hk y (Array.mem_toList_iff.mp hy);simp[DictEntry.refKey,hkey]
   have a':¬ es.toList.any (·.refKey)=true:=by rw[a];exact GM
   rw[G3 a'];exact congrArg some e
variable{C:Addr}
def ObjM.look{h:Heap}{x dx:Addr}(I:ObjM h x dx C mA):∃ od,PySem.W.InstAt h x (PySem.W.instObj C dx) C (some od)/\∀ name,PySem.W.lookIn name od=some (mA name):=
 let ⟨od,ho,hl⟩:=zl I.ns
 ⟨od,⟨I.obj,rfl,rfl,ho⟩,hl⟩
section
variable{prog:Program}{w:World}{A:Around}{E:Value->Shared->Prop}{s:Shared}{K:Frag}{x dx C f:Addr}{mA:Str->Option Value}{name:Str}{v:Value}
def BH {expr:Bool} {Q:Value->Shared->Prop} (X:K.In s.heap) (I:ObjM s.heap x dx C mA) (hg:PySem.W.plainGet K C name=true) (hh:PySem.W.hasDictIn K C=true)
  (ha:findIn K (.ref C) name=some none) (hv:mA name=some v) (hv':PySem.W.handedIn v=true) (h:Q v {s with toks:=s.toks+1}):
  wpAny (model prog w) A (getAttr (.ref x) name expr) Q E s:=by
 obtain⟨od,J,hl⟩:=I.look;exact PySem.W.get_value X J (Jn hg).1 (PySem.W.findObj_own hh ha rfl (by rw[hl,hv])) hv' h
def AK {pl:Sem Bool} {Q:Value × List Value->Shared->Prop} (X:K.In s.heap) (I:ObjM s.heap x dx C mA) (hg:PySem.W.plainGet K C name=true)
  (hf:findIn K (.ref C) name=some ↑f) (ht:isFn K (.ref f)=true) (hv:mA name=none) (h:Q (.ref f,[.ref x]) s):
  wpAny (model prog w) A (getMethod (.ref x) name pl) Q E s:=by
 obtain⟨od,J,hl⟩:=I.look;exact PySem.W.method_fn X J (Jn hg).1 (Jn hg).2 hf (IF.mp ht) (by show(PySem.W.lookIn name od).map (·.isSome)=some false;rw[hl,hv];rfl) h
def BK {ns:List Str} {Q:Unit->Shared->Prop} (X:K.In s.heap) (I:ObjM s.heap x dx C mA)
  (hs:findIn K (.ref C) "__setattr__"=some (some (.builtin "object.__setattr__"))) (hp:PySem.W.plainOver K C=true) (ht:PySem.W.takerIn K C name=some none) (hh:PySem.W.hasDictIn K C=true)
  (hw:PySem.Within mA ns) (hsz:ns.length<=sizeLine)
  (h:∀ h',ObjM h' x dx C (fun y=>if y=name then some v else mA y)->Heap.SameBut dx s.heap h'->Q () {s with heap:=h',toks:=s.toks+2}):
  wpAny (model prog w) A (setAttr (.ref x) name v) Q E s:=by
 obtain⟨od,J,hl⟩:=I.look;refine PySem.W.set_plain X J hs (PySem.W.osa_open (s:={s with toks:=s.toks+1}) (r:=none) X J hp ht fun b=>?_);obtain⟨cd,hc,hd'⟩:=PySem.W.any_some hh;have hx:s.heap.get? x=some ⟨.ref C,some dx,.plain,#[]⟩:=I.obj;refine Hl (HE (Hl (Hl (wpAny_loadPart hx (Hl (PySem.W.Looks.here (s:={s with toks:=s.toks+1}) (PySem.W.looks_clsIn X hc) ?_))))));rw[hd'];refine HE (a:=some dx) (Hl (HE (Hl ?_)));refine wpAny_nsSet1 (s:={s with toks:=s.toks+1}) I.ns fun h' hn2 hs2=>?_;obtain⟨oD,esD,epD,hoD,hdD,hcD⟩:=hn2.count (PySem.Within.cons name v hw);refine Hl (wpAny_lookBehind hoD (by rw[hdD];exact pastItsLine_dict (GS hcD (by rw[He];omega))) ?_);exact HE (h _ ⟨(hs2.2 _ (JF I.ne)).trans I.obj,hn2,I.ne⟩ hs2)
def AL {R:Result->Shared->Prop} {vs:List Value} {kw:List (Str × Value)} (X:K.In s.heap) (hm:PySem.W.makesIn K C=true)
  (hi:findIn K (.ref C) "__init__"=some ↑f) (hf:PySem.W.typeIn K (.ref f)=some (.type "function"))
  (h:codeAny (model prog w) (A.under (.builtin "type.__call__" ⟨.ref C::vs,kw⟩)) (.call (.ref f) ⟨.ref (s.heap.objs.size+1)::vs,kw⟩) (PySem.W.InitBack (s.heap.objs.size+1) R)
   {s with heap:=(s.heap.push PySem.W.emptyDict).push (PySem.W.instObj C s.heap.objs.size)}):
  codeAny (model prog w) A (.call (.ref C) ⟨vs,kw⟩) R s:=by
 obtain⟨hh,g,d,t,os⟩:=s;exact PySem.W.make_core (PySem.W.makes_of X hm) (PySem.W.looks_findIn X hi) (fun self=>PySem.W.bind_fn X self hf) (.inl rfl) h
end
def putF(f:Str)(v:V):List (Str × V)->List (Str × V)
 | []=>[(f,v)]
 | (g,x)::r=>if g=f then(g,v)::r else(g,x)::putF f v r
theorem pb(f g:Str)(v:V):∀ fs:List (Str × V),(putF f v fs).lookup g=if g=f then some v else fs.lookup g
 | []=>by
  show List.lookup g [(f,v)]=_;by_cases h:g=f
  . have hb:(g==f)=true:=IF.mpr h;simp only[List.lookup,hb,G9 h]
  . have hb:(g==f)=false:=IM.mpr h;simp only[List.lookup,hb,G3 h]
 | (k,x)::r=>by
  have ih:=pb f g v r;rw[show putF f v ((k,x)::r)=(if k=f then(k,v)::r else(k,x)::putF f v r) from rfl];by_cases hk:k=f
  . rw[G9 hk];by_cases h:g=k
    . have hb:(g==k)=true:=IF.mpr h;simp only[List.lookup,hb,G9 (h.trans hk)]
    . have hb:(g==k)=false:=IM.mpr h;simp only[List.lookup,hb,G3 (fun e:g=f=>h (e.trans hk.symm))]
  . rw[G3 hk];by_cases h:g=k
    . have hb:(g==k)=true:=IF.mpr h;simp only[List.lookup,hb,G3 (fun e:g=f=>hk (h.symm.trans e))]
    . have hb:(g==k)=false:=IM.mpr h;simp only[List.lookup,hb];exact ih
theorem nk(f:Str)(v:V):∀ fs:List (Str × V),f∈(putF f v fs).map (·.1)/\∀ g,g∈fs.map (·.1)->g∈(putF f v fs).map (·.1)
 | []=>⟨by simp[putF],fun g h=>by simp at h⟩
 | (k,x)::r=>by
  obtain⟨i1,i2⟩:=nk f v r;rw[show putF f v ((k,x)::r)=(if k=f then(k,v)::r else(k,x)::putF f v r) from rfl];by_cases hk:k=f
  . rw[G9 hk];subst hk;exact⟨by simp,fun g h=>by simpa using h⟩
  . rw[G3 hk];refine⟨?_,fun g h=>?_⟩
    . rw[Hd];exact GR _ i1
    . rw[Hd] at h ⊢;rcases GU.mp h with e | e
      . exact GU.mpr (.inl e)
      . exact GR _ (i2 g e)
theorem pc(f:Str)(v:V):∀ fs:List (Str × V),(putF f v fs).length<=fs.length+1
 | []=>by simp[putF]
 | (k,x)::r=>by
  have ih:=pc f v r;rw[show putF f v ((k,x)::r)=(if k=f then(k,v)::r else(k,x)::putF f v r) from rfl];by_cases hk:k=f
  . rw[G9 hk,He,He];omega
  . rw[G3 hk,He,He];omega
variable{o:Option Value}
theorem RelO.some_of{v:V}(r:RelO (some v) o):∃ u,o=some u/\RelV v u:=by
 cases o with
 | none=>exact(show False from r).elim
 | some u=>exact⟨u,rfl,r⟩
abbrev Kd:=@RelO.some_of
theorem RelO.none_of(r:RelO none o):o=none:=by
 cases o with
 | none=>rfl
 | some u=>exact(show False from r).elim
theorem zn{v:V}{u:Value}(r:RelV v u):PySem.W.handedIn u=true:=by
 cases v with
 | non=>cases (show u=Value.none from r);rfl
 | bl b=>cases (show u=Value.bool b from r);rfl
 | int i=>obtain⟨t,e⟩:=(show ∃ t,u=Value.int i t from r);cases e;rfl
 | str x=>obtain⟨t,e⟩:=(show ∃ t,u=Value.str x t from r);cases e;rfl
 | byt b=>obtain⟨t,e⟩:=(show ∃ t,u=Value.bytes b t from r);cases e;rfl
 | flt b=>obtain⟨t,e⟩:=(show ∃ t,u=Value.float b t from r);cases e;rfl
 | ref a=>cases (show u=Value.ref a from r);rfl
 | ty n=>cases (show u=Value.type n from r);rfl
section
variable{P:Program}{w:World}{H H':Hp}{h h':Heap}{a C dx:Addr}{fs fs':List (Str × V)}
def oM(hok:HOk P w H h)(e:H a=some (.ins C dx fs)):∃ mA,ObjM h a dx C mA/\(∀ f,RelO (fs.lookup f) (mA f))/\PySem.Within mA (fs.map (·.1))/\fs.length<=1000/\H dx=some (.own a):=by
 obtain⟨d,z,ne,ob,mA,n,r,q⟩:=(show ObjOk P w H h a (.ins C dx fs) from hok a _ e);exact⟨mA,⟨ob,n,ne⟩,r,q,z,d⟩
end
structure Cls(K:Frag)(C:Addr):Prop where
 pg:PySem.W.plainGet K C Str.empty=true
 hd:PySem.W.hasDictIn K C=true
 po:PySem.W.plainOver K C=true
 sa:findIn K (.ref C) "__setattr__"=some (some (.builtin "object.__setattr__"))
def Cls.get{K:Frag}(c:Cls K C)(f:Str):PySem.W.plainGet K C f=true:=c.pg
def NoAttr(K:Frag)(C:Addr)(f:Str):Prop:=findIn K (.ref C) f=some none
def NoAttr.taker{K:Frag}{f:Str}(n:NoAttr K C f):PySem.W.takerIn K C f=some none:=by
 unfold PySem.W.takerIn;rw[show findIn K (.ref C) f=some none from n];rfl
structure Meth(K:Frag)(C:Addr)(m:Str)(f:Addr):Prop where
 at_:findIn K (.ref C) m=some ↑f
 fn:isFn K (.ref f)=true
 kp:keepIn K (.ref f)=true
section
variable{X:Cx}{Gx:List (Addr × Obj)}{σ:St}{H:Hp}{s:Shared}{a C dx:Addr}{fs:List (Str × V)}{f:Str}{v:V}{A:Around}{E:Value->Shared->Prop}
def ya {b:Bool} {Q:Value->Shared->Prop} (I:Inv X Gx σ H s) (e:H a=some (.ins C dx fs)) (c:Cls X.K C) (n:NoAttr X.K C f) (l:fs.lookup f=some v)
  (h:∀ u s',Inv X Gx σ H s'->RelV v u->Q u s'):wpAny (model X.prog X.w) A (getAttr (.ref a) f b) Q E s:=by
 obtain⟨mA,O,r,_,_,_⟩:=oM I.hok e;obtain⟨u,hu,ru⟩:=Kd (v:=v) (o:=mA f) (by rw[← l];exact r f);exact BH I.kIn O (c.get f) c.hd n hu (zn ru) (h u _ (I.tok _) ru)
def qu {m:Str} {g:Addr} {pl:Sem Bool} {Q:Value × List Value->Shared->Prop} (I:Inv X Gx σ H s) (e:H a=some (.ins C dx fs)) (c:Cls X.K C) (k:Meth X.K C m g) (l:fs.lookup m=none)
  (h:Q (.ref g,[.ref a]) s):wpAny (model X.prog X.w) A (getMethod (.ref a) m pl) Q E s:=by
 obtain⟨mA,O,r,_,_,_⟩:=oM I.hok e;have hn:mA m=none:=RelO.none_of (by rw[← l];exact r m);exact AK I.kIn O (c.get m) k.at_ k.fn hn h
def yb {y:V} {u:Value} {Q:Unit->Shared->Prop} (I:Inv X Gx σ H s) (e:H a=some (.ins C dx fs)) (c:Cls X.K C) (n:NoAttr X.K C f) (hl:fs.length<1000) (ry:RelV y u)
  (h:∀ s',Inv X Gx σ (upd H a (.ins C dx (putF f y fs))) s'->Q () s'):wpAny (model X.prog X.w) A (setAttr (.ref a) f u) Q E s:=by
 obtain⟨mA,O,r,wi,_,ho⟩:=oM I.hok e;have hz:(fs.map (·.1)).length<=sizeLine:=by rw[GG,sizeLine_eq];omega
 refine BK I.kIn O c.sa c.po n.taker c.hd wi hz fun h' O' sb=>h _ ?_;have hd:∃ o,h'.get? dx=some o:=let ⟨o,_,_,e',_⟩:=O'.ns;⟨o,e'⟩;refine I.write (x:=a) (e:=dx) (by rw[e];exact True.intro) (.inr ho) (fun b q hb z=>(sb.2 b hb).trans z) hd ?_;refine⟨by rw[aj O.ne];exact ho,?_,O.ne,O'.obj,_,O'.ns,fun g=>?_,fun g hg=>?_⟩
 . have:=pc f y fs;omega
 . show RelO ((putF f y fs).lookup g) (if g=f then some u else mA g);rw[pb];by_cases q:g=f
   . rw[G9 q,G9 q];exact ry
   . rw[G3 q,G3 q];exact r g
 . by_cases q:g=f
   . rw[q];exact(nk f y fs).1
   . refine(nk f y fs).2 g (wi g fun z=>hg ?_);show(if g=f then some u else mA g)=none;rw[G3 q];exact z
def Inv.made(I:Inv X Gx σ H s):Inv X Gx σ (upd (upd H s.heap.objs.size (.own (s.heap.objs.size+1))) (s.heap.objs.size+1) (.ins C s.heap.objs.size []))
  {s with heap:=(s.heap.push PySem.W.emptyDict).push (PySem.W.instObj C s.heap.objs.size)}:=by
 have e1:(s.heap.push PySem.W.emptyDict).get? s.heap.objs.size=some PySem.W.emptyDict:=G8 s.heap rfl
 have e2:((s.heap.push PySem.W.emptyDict).push (PySem.W.instObj C s.heap.objs.size)).get? (s.heap.objs.size+1)=some (PySem.W.instObj C s.heap.objs.size):=by
  have:=G8 (s.heap.push PySem.W.emptyDict) (o:=PySem.W.instObj C s.heap.objs.size) rfl
  rwa [Ik] at this
 have e3:(s.heap.push PySem.W.emptyDict).Ns s.heap.objs.size (fun _=>none):=⟨PySem.W.emptyDict,#[],_,e1,rfl,(fun e he=>absurd he (by simp)),fun _=>rfl⟩;have I1:=I.laid (a:=s.heap.objs.size) (o:=.own (s.heap.objs.size+1)) (h':=s.heap.push PySem.W.emptyDict) (t':=s.toks) (fun b u q=>GO _ q) (GP _) ⟨_,e1⟩;refine I1.laid (a:=s.heap.objs.size+1) (o:=.ins C s.heap.objs.size []) (t':=s.toks) (fun b u q=>GO _ q) (Nat.le_of_eq (Ik _ _)) ?_;have ne:s.heap.objs.size≠s.heap.objs.size+1:=Hk (II _);refine⟨by rw[aj ne,ah],HG _,ne,e2,fun _=>none,(Heap.Ns1.of_empty e3).at fun o q=>GO _ q,fun _=>True.intro,fun y hy=>absurd rfl hy⟩
def BL {prog:Program} {w:World} {env:Env} {e:Expr} {f:Str} {pos:Pos} {s:Shared} {Q:Value->Shared->Prop} (hb:attributeBase e f env (eval e env)=eval e env)
  (h:wpAny (model prog w) A (eval e env) (fun o s₁=>wpAny (model prog w) A (getAttr o f true) Q E s₁) E s):wpAny (model prog w) A (eval (.Attribute e f pos) env) Q E s:=
 Attribute_any_ h (by rw[arm_eval_Attribute,hb])
end
section
variable{X:Cx}{o e value:Expr}{f:Str}{pos pos' tpos:Pos}{ta tv:TE}
end
section
variable{X:Cx}{Gx:List (Addr × Obj)}{σ:St}{H:Hp}{s:Shared}{A:Around}{E:Value->Shared->Prop}{Q:Value->Shared->Prop}{c:Value}{b:Bool}
inductive TyOf(K:Frag)(H:Hp):V->Value->Prop where
 | non:TyOf K H .non (.type "NoneType")
 | bl (x:Bool):TyOf K H (.bl x) (.type "bool")
 | int (i:Int):TyOf K H (.int i) (.type "int")
 | str (x:Str):TyOf K H (.str x) (.type "str")
 | flt (x:UInt64):TyOf K H (.flt x) (.type "float")
 | lst {a:Addr} {xs:List V} (e:H a=↥xs):TyOf K H (.ref a) (.type "list")
 | frz {a:Addr} {o:Obj} {xs:List V} (e:H a=some (.frz o (.lst xs))):TyOf K H (.ref a) (.type "list")
 | tup {a:Addr} {xs:List V} (e:H a=some (.tup xs)):TyOf K H (.ref a) (.type "tuple")
 | dK {a:Addr} {GA:List (Key × V)} (e:H a=some (.dK GA)):TyOf K H (.ref a) (.type "dict")
 | dT {a:Addr} {GA:List (List Key × V)} (e:H a=some (.dT GA)):TyOf K H (.ref a) (.type "dict")
 | ins {a C dx:Addr} {fs:List (Str × V)} (e:H a=some (.ins C dx fs)) (cl:Cls K C) (ha:findIn K (.ref C) "__class__"=some (some (.builtin "object.__class__")))
   (hn:PySem.W.specialIn K (.builtin "object.__class__") "__get__"=some (some (.builtin "getset_descriptor.__get__"))) (htk:PySem.W.takesIn K (.builtin "object.__class__")=some true)
   (hm:PySem.W.mroIn K C (.type "object")=some true):TyOf K H (.ref a) (.ref C)
theorem zo{x:V}{u t:Value}(I:Inv X Gx σ H s)(rx:RelV x u)(ty:TyOf X.K H x t)(e:PySem.W.kitOne X.K t c=some b)(h:∀ tk,Q (.bool b) {s with toks:=tk}):
  wpAny (model X.prog X.w) A (call (.builtin "isinstance") [u,c]) Q E s:=by
 cases ty with
 | non=>cases (show u=Value.none from rx);exact HQ PySem.W.kitx_none I.kIn True.intro e (fun z=>nomatch z) h
 | bl y=>cases (show u=Value.bool y from rx);exact HQ PySem.W.kitx_bool I.kIn True.intro e (fun z=>nomatch z) h
 | int i=>obtain⟨t,q⟩:=(show ∃ t,u=Value.int i t from rx);cases q;exact HQ PySem.W.kitx_int I.kIn True.intro e (fun z=>nomatch z) h
 | str y=>obtain⟨t,q⟩:=(show ∃ t,u=Value.str y t from rx);cases q;exact HQ PySem.W.kitx_str I.kIn True.intro e (fun z=>nomatch z) h
 | flt y=>obtain⟨t,q⟩:=(show ∃ t,u=Value.float y t from rx);cases q;exact HQ PySem.W.kitx_float I.kIn True.intro e (fun z=>nomatch z) h
 | @lst a xs ea=>
  cases (show u=Value.ref a from rx);obtain⟨_,_,n,_,h1⟩:=(show ObjOk X.prog X.w H s.heap a (.lst xs) from I.hok a _ ea);exact HQ PySem.W.kitx_list I.kIn ⟨_,h1,rfl⟩ e (fun z=>nomatch z) h
 | @frz a ob xs ea=>
  cases (show u=Value.ref a from rx);obtain⟨_,_,_,n,_,h1⟩:=(show ObjOk X.prog X.w H s.heap a (.frz ob (.lst xs)) from I.hok a _ ea);exact HQ PySem.W.kitx_list I.kIn ⟨_,h1,rfl⟩ e (fun z=>nomatch z) h
 | @tup a xs ea=>
  cases (show u=Value.ref a from rx);obtain⟨_,_,_,p⟩:=(show ObjOk X.prog X.w H s.heap a (.tup xs) from I.hok a _ ea);obtain⟨o,h1,h2,_⟩:=p;exact HQ PySem.W.kitx_tuple I.kIn ⟨o,h1,h2⟩ e (fun z=>nomatch z) h
 | @dK a GA ea=>
  cases (show u=Value.ref a from rx);obtain⟨_,_,vs,_,p⟩:=(show ObjOk X.prog X.w H s.heap a (.dK GA) from I.hok a _ ea);obtain⟨o,es,ep,h1,h2,_⟩:=p;exact HQ PySem.W.kitx_dict I.kIn ⟨o,h1,h2.1⟩ e (fun z=>nomatch z) h
 | @dT a GA ea=>
  cases (show u=Value.ref a from rx);obtain⟨_,_,xs,_,o,es,ep,h1,h2,_⟩:=(show ObjOk X.prog X.w H s.heap a (.dT GA) from I.hok a _ ea);exact HQ PySem.W.kitx_dict I.kIn ⟨o,h1,h2.1⟩ e (fun z=>nomatch z) h
 | @ins a C dx fs ea cl ha hn htk hm=>
  cases (show u=Value.ref a from rx);obtain⟨mA,O,_⟩:=oM I.hok ea;obtain⟨od,J,_⟩:=O.look;exact HQ (PySem.W.kitx_own (cl.get _) cl.hd ha hn htk hm) I.kIn J e (fun z=>nomatch z) h
end
structure Room(k:Nat)(A:Around):Prop where
 hd:A.handled=none
 dp:A.depth+3*k+5<recursionLimit
 un:A.units+16*k+200<cLine
variable{A:Around}
def Room.mono{j k:Nat}(r:Room k A)(h:j<=k):Room j A:=⟨r.hd,by have:=r.dp;omega,by have:=r.un;omega⟩
def Room.deeper{k:Nat}(r:Room (k+1) A)(env:Env):Room k (A.deeper env):=
 ⟨r.hd,by have:=r.dp;show A.depth+1+3*k+5<_;omega,by have:=r.un;show A.units+3+16*k+200<_;omega⟩
variable{us:List Value}{kw:List (Str × Value)}
def yc{C:Addr}:(A.under (.builtin "type.__call__" ⟨.ref C::us,kw⟩)).depth=A.depth+1:=by
 first | rfl | simp[Around.under,Code.weight,Code.isCreation,Code.isGuard,Code.isCaller,Code.frames,Code.isFrame,guardIds]
def yd{C:Addr}:(A.under (.builtin "type.__call__" ⟨.ref C::us,kw⟩)).units=A.units+1:=by
 first | rfl | simp[Around.under,Code.cUnits,Code.frames,Code.isFrame]
def Room.make{k:Nat}(r:Room (k+1) A)(C:Addr)(us:List Value)(kw:List (Str × Value)):Room k (A.under (.builtin "type.__call__" ⟨.ref C::us,kw⟩)):=
 ⟨r.hd,by have:=r.dp;rw[yc];omega,by have:=r.un;rw[yd];omega⟩
def Room.depth{k:Nat}(r:Room k A):A.depth<recursionLimit:=by have:=r.dp;omega
def Room.units{k:Nat}(r:Room k A):A.units+64<cLine:=by have:=r.un;omega
def tNil:TA:=fun _ H Q=>Q [] H
def tCons(ta:TE)(tr:TA):TA:=fun σ H Q=>ta σ H fun x H1=>tr σ H1 fun xs H2=>Q (x::xs) H2
section
variable{X:Cx}{e:Expr}{es:List Expr}{te:TE}{t:TA}{pos:Pos}
def ac:PA X [] tNil:=fun _ _ _ _ H Q I h=>IE ⟨[],H,I,.nil,h⟩
def aa(ha:PE X e te)(hr:PA X es t)(hs:starEach (e::es) X.env=(false,eval e X.env)::starEach es X.env:=by rfl):PA X (e::es) (tCons te t):=by
 intro pos Gx s σ H Q I h;rw[hs];show wpAny _ _ (spliced ((false,eval e X.env)::backTo pos (starEach es X.env))) _ _ s;refine Iz (thn (ha Gx s σ H _ I h) fun u s1 ⟨x,H1,I1,r1,q1⟩=>?_);exact thn (hr pos Gx s1 σ H1 _ I1 q1) fun us s2 ⟨xs,H2,I2,r2,q2⟩=>⟨x::xs,H2,I2,.cons r1 r2,q2⟩
def tTup(t:TA):TE:=fun σ H Q=>t σ H fun xs H1=>xs.length<=sizeLine/\∀ p,H1 p=none->Q (.ref p) (upd H1 p (.tup xs))
def tLst(t:TA):TE:=fun σ H Q=>t σ H fun xs H1=>xs.length<=sizeLine/\∀ p,H1 p=none->Q (.ref p) (upd H1 p (.lst xs))
def dD{x1}(h:PA X es t):PE X (.Tuple es x1 pos) (tTup t):=by
 intro Gx s σ H Q I hq;refine wpAny_Tuple_spliced (thn (h pos Gx s σ H _ I hq) fun us s1 ⟨xs,H1,I1,r,z,q⟩=>⟨by rw[← r.length];exact z,?_⟩);have hf:H1 s1.heap.objs.size=none:=I1.hok.fresh (GP _);refine⟨.ref s1.heap.objs.size,upd H1 s1.heap.objs.size (.tup xs),I1.laid (t':=s1.toks) (fun b u e=>GO _ e) (GP _) ?_,rfl,q _ hf⟩;exact⟨z,us,r,⟨_,G8 _ rfl,rfl,_,rfl⟩⟩
def aG(h:PA X es t):PE X (.List es pos) (tLst t):=by
 intro Gx s σ H Q I hq;refine wpAny_List_spliced (thn (h pos Gx s σ H _ I hq) fun us s1 ⟨xs,H1,I1,r,z,q⟩=>⟨by rw[← r.length];exact z,?_⟩);have hf:H1 s1.heap.objs.size=none:=I1.hok.fresh (GP _);refine⟨.ref s1.heap.objs.size,upd H1 s1.heap.objs.size (.lst xs),I1.laid (t':=s1.toks) (fun b u e=>GO _ e) (GP _) ?_,rfl,q _ hf⟩;exact⟨z,us,0,r,G8 _ rfl⟩
end
abbrev Sp:=List V->Hp->VK->XK->Prop
abbrev CXT:=List Env->Hp->Shared->XK->Value->Shared->Prop
structure Env0(P:Program)(w:World)(K:Frag)(mg:Str->Option Value)(base:Heap)(A:Around)(outer:List Env)(s:Shared)(H:Hp):Prop where
 frames:A.frames=some outer
 mod:Mod K mg base
 bs:∀ b o,base.get? b=some o->s.heap.get? b=some o/\H b=none
 bsz:base.objs.size<=s.heap.objs.size
 funs:s.heap.FunFrames base outer
 frf:∀ b∈frs outer,H b=none
 hok:HOk P w H s.heap
 bare:AllBare s.gens
def CE(outer:List Env)(P:Program)(w:World)(H:Hp)(s:Shared)(Q:VK)(u:Value)(s':Shared):Prop:=
 ∃ v H',s'.os=s.os/\AllBare s'.gens/\Un (frs outer) [] H H' s.heap s'.heap/\HOk P w H' s'.heap/\RelV v u/\Q v H'
def CR(CX:CXT)(outer:List Env)(P:Program)(w:World)(H:Hp)(s:Shared)(Q:VK)(E:XK)(r:Result)(s':Shared):Prop:=
 match r with
 | .ok (.ret u)=>CE outer P w H s Q u s'
 | .ok _=>False
 | .error e=>CX outer H s E e s'
structure FnOk(P:Program)(w:World)(K:Frag)(mg:Str->Option Value)(base:Heap)(CX:CXT)(k:Nat)(f:Addr)(fd:FuncData)(ps:List Str)(sp:Sp):Prop where
 len:∀ vs H Q E,sp vs H Q E->vs.length=ps.length
 run:∀(A:Around) (outer:List Env) (s:Shared) (H:Hp) (args:Args) (us:List Value) (vs:List V) (Q:VK) (E:XK),Room k A->Env0 P w K mg base A outer s H->BindsTo s fd args (ps.zip us)->Vals vs us->sp vs H Q E->
  codeAny (model P w) A (.call (.ref f) args) (CR CX outer P w H s Q E) s
variable{P:Program}{w:World}{K:Frag}{mg:Str->Option Value}{base:Heap}{CX:CXT}{f:Addr}{fd:FuncData}{ps:List Str}
def FnOk.mono{j k:Nat}{sp:Sp}(F:FnOk P w K mg base CX j f fd ps sp)(h:j<=k):
  FnOk P w K mg base CX k f fd ps sp:=⟨F.len,fun A outer s H args us vs Q E hr=>F.run A outer s H args us vs Q E (hr.mono h)⟩
def FnOk.imp {k:Nat} {sp sp':Sp} (F:FnOk P w K mg base CX k f fd ps sp)
  (h:∀ vs H Q E,sp' vs H Q E->sp vs H Q E):FnOk P w K mg base CX k f fd ps sp':=
 ⟨fun vs H Q E q=>F.len vs H Q E (h _ _ _ _ q),fun A outer s H args us vs Q E hr he hb hv hs=>F.run A outer s H args us vs Q E hr he hb hv (h _ _ _ _ hs)⟩
variable{outer:List Env}
def Env0.make{s:Shared}{H:Hp}(e:Env0 P w K mg base A outer s H)(C:Addr)(us:List Value)(kw:List (Str × Value)):
  Env0 P w K mg base (A.under (.builtin "type.__call__" ⟨.ref C::us,kw⟩)) outer s H:=⟨by first | exact e.frames | (simpa [Around.under,Code.envs,Code.isFrame,pushEnvs] using e.frames),e.mod,e.bs,e.bsz,e.funs,e.frf,e.hok,e.bare⟩
section
variable{X:Cx}{Gx:List (Addr × Obj)}{σ:St}{H:Hp}{s s':Shared}
def Inv.env0(I:Inv X Gx σ H s):Env0 X.prog X.w X.K X.mg X.base X.A X.stack s H:=
 ⟨I.ok.frames,I.ok.mod,I.bs,GS I.ok.bsz I.sz,I.stack,I.stkFree,I.hok,I.bare⟩
def Inv.after{Q:VK}{u:Value}(I:Inv X Gx σ H s)(h:CE X.stack X.prog X.w H s Q u s'):EP X Gx σ Q u s':=by
 obtain⟨v,H',os,bare,un,hok,r,q⟩:=h;obtain⟨hh,g,d,t,os'⟩:=s';obtain rfl:os'=s.os:=os;exact⟨v,H',I.call (h':=hh) (g':=g) (d':=d) (t':=t) (ch:=[]) un hok bare (fun b z=>absurd z (by simp)),r,q⟩
end
def tCall(sp:Sp)(dvs:List V)(E:XK)(t:TA):TE:=fun σ H Q=>t σ H fun vs H1=>sp (vs++dvs) H1 Q E
def tMake(C:Addr)(sp:Sp)(dvs:List V)(E:XK)(t:TA):TE:=fun σ H Q=>t σ H fun vs H1=>∀ x dx,H1 x=none->H1 dx=none->dx≠x->
 sp (.ref x::(vs++dvs)) (upd (upd H1 dx (.own x)) x (.ins C dx [])) (fun v H2=>v=.non/\Q (.ref x) H2) E
def Binds(K:Frag)(fd:FuncData)(ps:List Str)(ds:List Value):Prop:=
 ∀(s:Shared) (us:List Value),K.In s.heap->(us++ds).length=ps.length->BindsTo s fd ⟨us,[]⟩ (ps.zip (us++ds))
def Binds.all(h:∀ us:List Value,us.length=ps.length->bindArgs fd ⟨us,[]⟩=pure (ps.zip us)):Binds K fd ps []:=fun s us _ hl=>by
 rw[List.append_nil] at hl ⊢;exact .of_eq (h us hl)
def nn(CX:CXT)(X:Cx)(E:XK):Prop:=∀(Gx:List (Addr × Obj)) (σ:St) (H:Hp) (s:Shared) (e:Value) (s':Shared),Inv X Gx σ H s->CX X.stack H s E e s'->X.xe e s'
section
variable{X:Cx}{CX:CXT}{k:Nat}{f C:Addr}{fd:FuncData}{ps:List Str}{sp:Sp}{dvs:List V}{ds:List Value}{E:XK}{x m:Str}{p pos apos:Pos}{e o:Expr}{es:List Expr}{ta:TE}{t:TA}
theorem uV {Gx:List (Addr × Obj)} {σ:St} {H:Hp} {s:Shared} {Q:VK} {us:List Value} {vs:List V} (F:FnOk X.prog X.w X.K X.mg X.base CX k f fd ps sp) (hr:Room k X.A) (hb:Binds X.K fd ps ds) (hd:Vals dvs ds) (hx:nn CX X E)
  (I:Inv X Gx σ H s) (r:Vals vs us) (h:sp (vs++dvs) H Q E):wpAny (model X.prog X.w) X.A (call (.ref f) us) (EP X Gx σ Q) X.xe s:=by
 have r2:Vals (vs++dvs) (us++ds):=r.append hd;have hl:(us++ds).length=ps.length:=by rw[← r2.length];exact F.len _ _ _ _ h
 refine wpAny_call (Ke (F.run X.A X.stack s H ⟨us,[]⟩ (us++ds) (vs++dvs) Q E hr I.env0 (hb s us I.kIn hl) r2 h) fun r s' hq=>?_)
 cases r with
 | error e=>exact hx Gx σ H s e s' I hq
 | ok fl=>
  cases fl with
  | ret u=>exact I.after hq
  | next=>exact False.elim hq
  | brk=>exact False.elim hq
  | cont=>exact False.elim hq
def BM (F:FnOk X.prog X.w X.K X.mg X.base CX k f fd ps sp) (hr:Room k X.A) (hg:Gl X x) (hm:X.mg x=↑f) (hk:keepIn X.K (.ref f)=true) (hb:Binds X.K fd ps ds) (hd:Vals dvs ds) (hx:nn CX X E)
  (ha:PA X (e::es) t) (hdb:(x==("__debug__":Str))=false:=by decide) (he:starEach (e::es) X.env=(false,eval e X.env)::starEach es X.env:=by rfl) (hpl:(backTo pos (starEach es X.env)).any (·.1)=false:=by rfl):
  PE X (.Call (.Name x p) (e::es) [] pos) (tCall sp dvs E t):=by
 intro Gx s σ H Q I h;refine HS (sh I hg hm ?_ hdb);refine Jw (h₀:=X.base) I.ok.mod.kin hk (thn (ha pos Gx s σ H _ I h) fun us s1 ⟨vs,H1,I1,r,q⟩=>⟨I1.kIn,?_⟩) he hpl;exact uV F hr hb hd hx I1 r q
structure Mk(K:Frag)(C f:Addr):Prop where
 makes:PySem.W.makesIn K C=true
 init:findIn K (.ref C) "__init__"=some ↑f
 fn:isFn K (.ref f)=true
 kp:keepIn K (.ref C)=true
theorem AM {Gx:List (Addr × Obj)} {σ:St} {H:Hp} {s:Shared} {Q:VK} {us:List Value} {vs:List V} (M:Mk X.K C f) (F:FnOk X.prog X.w X.K X.mg X.base CX k f fd ps sp) (hr:Room (k+1) X.A) (hb:Binds X.K fd ps ds) (hd:Vals dvs ds)
  (hx:nn CX X E) (I:Inv X Gx σ H s) (r:Vals vs us)
  (h:∀ x dx,H x=none->H dx=none->dx≠x->sp (.ref x::(vs++dvs)) (upd (upd H dx (.own x)) x (.ins C dx [])) (fun v H2=>v=.non/\Q (.ref x) H2) E):
  wpAny (model X.prog X.w) X.A (call (.ref C) us) (EP X Gx σ Q) X.xe s:=by
 have hq:=h (s.heap.objs.size+1) s.heap.objs.size (I.hok.fresh (Je _)) (I.hok.fresh (GP _)) (Hk (II _));have I2:=Inv.made (C:=C) I;have r2:Vals (V.ref (s.heap.objs.size+1)::(vs++dvs)) (Value.ref (s.heap.objs.size+1)::(us++ds)):=.cons rfl (r.append hd)
 have hl:(Value.ref (s.heap.objs.size+1)::us++ds).length=ps.length:=by
  have e:=r2.length;rw[F.len _ _ _ _ hq] at e;exact e.symm
 refine wpAny_call (AL (f:=f) I.kIn M.makes M.init (IF.mp M.fn) (Ke (F.run _ X.stack _ _ ⟨Value.ref (s.heap.objs.size+1)::us,[]⟩ (Value.ref (s.heap.objs.size+1)::(us++ds)) _ _ E (hr.make C us [])
  (I2.env0.make C us []) (hb _ (Value.ref (s.heap.objs.size+1)::us) I2.kIn hl) r2 hq) fun r s' hq'=>?_))
 cases r with
 | error e=>exact hx Gx σ _ _ e s' I2 hq'
 | ok fl=>
  cases fl with
  | ret u=>
   obtain⟨v,H',I3,rv,ev,q3⟩:=I2.after hq';subst ev;exact⟨rv,⟨V.ref (s.heap.objs.size+1),H',I3,rfl,q3⟩⟩
  | next=>exact False.elim hq'
  | brk=>exact False.elim hq'
  | cont=>exact False.elim hq'
def BN (M:Mk X.K C f) (F:FnOk X.prog X.w X.K X.mg X.base CX k f fd ps sp) (hr:Room (k+1) X.A) (hg:Gl X x) (hm:X.mg x=↑C) (hb:Binds X.K fd ps ds) (hd:Vals dvs ds) (hx:nn CX X E)
  (ha:PA X (e::es) t) (hdb:(x==("__debug__":Str))=false:=by decide) (he:starEach (e::es) X.env=(false,eval e X.env)::starEach es X.env:=by rfl) (hpl:(backTo pos (starEach es X.env)).any (·.1)=false:=by rfl):
  PE X (.Call (.Name x p) (e::es) [] pos) (tMake C sp dvs E t):=by
 intro Gx s σ H Q I h;refine HS (sh I hg hm ?_ hdb);refine Jw (h₀:=X.base) I.ok.mod.kin M.kp (thn (ha pos Gx s σ H _ I h) fun us s1 ⟨vs,H1,I1,r,q⟩=>⟨I1.kIn,?_⟩) he hpl;exact AM M F hr hb hd hx I1 r q
end
section
variable{X:Cx}{CX:CXT}{k:Nat}{f C:Addr}{fd:FuncData}{ps ks:List Str}{sp:Sp}{E:XK}{x m:Str}{p pos apos kpos:Pos}{e o:Expr}{es:List Expr}{kws:List Keyword}{te ta:TE}{t tk:TA}{nm:Option Str}
variable{g:List Value->List Value->List Value}{gV:List V->List V->List V}
end
structure gz(N P:List Str)(sc:Scope):Prop where
 kind:sc.kind=.function
 co:sc.isCoroutine=false
 gen:sc.isGenerator=false
 nd:N.Nodup
 pre:N.take P.length=P
 par:∀ x∈P,sc.names.lookup x=some .local\/sc.names.lookup x=some .cell
 nofree:∀ y∈sc.names,y.2≠.free
theorem tu{kindOf:Str->Option NameKind}{x:Str}:∀{binds:List (Str × Value)} {m:Str->Option Value},(∀ v,(x,v)∉binds)->bindL kindOf binds m x=m x
 | [],_,_=>rfl
 | (n,v)::r,m,h=>by
  unfold bindL;rw[tu fun w hw=>h w (GR _ hw)]
  split
  . have:x≠n:=by rintro rfl;exact h v GV
    simp[this]
  . rfl
theorem tw{kindOf:Str->Option NameKind}{x:Str}:∀{binds:List (Str × Value)} {m:Str->Option Value},(∀ v,(x,v)∉binds)->bindC kindOf binds m x=m x
 | [],_,_=>rfl
 | (n,v)::r,m,h=>by
  unfold bindC;rw[tw fun w hw=>h w (GR _ hw)]
  split
  . rfl
  . have:x≠n:=by rintro rfl;exact h v GV
    simp[this]
theorem tz{kindOf:Str->Option NameKind}{x:Str}{v:Value}:∀{P:List Str} {vs:List Value} {i:Nat} {m:Str->Option Value},P.Nodup->P[i]? =some x->vs[i]? =some v->kindOf x=some .local->
  bindL kindOf (P.zip vs) m x=some v
 | [],_,_,_,_,h,_,_=>by simp at h
 | _::_,[],_,_,_,_,h,_=>by simp at h
 | p::P,w::vs,0,m,nd,h1,h2,hk=>by
  simp at h1 h2;subst h1;subst h2;show bindL kindOf ((p,w)::P.zip vs) m p=_;unfold bindL;rw[tu fun v hv=>(HK.mp nd).1 (J1 hv).1,G9 hk];simp
 | p::P,w::vs,i+1,m,nd,h1,h2,hk=>by
  show bindL kindOf ((p,w)::P.zip vs) m x=_;unfold bindL;exact tz (i:=i) (HK.mp nd).2 (by simpa using h1) (by simpa using h2) hk
theorem tD{kindOf:Str->Option NameKind}{x:Str}{v:Value}:∀{P:List Str} {vs:List Value} {i:Nat} {m:Str->Option Value},P.Nodup->P[i]? =some x->vs[i]? =some v->kindOf x≠some .local->
  bindC kindOf (P.zip vs) m x=some v
 | [],_,_,_,_,h,_,_=>by simp at h
 | _::_,[],_,_,_,_,h,_=>by simp at h
 | p::P,w::vs,0,m,nd,h1,h2,hk=>by
  simp at h1 h2;subst h1;subst h2;show bindC kindOf ((p,w)::P.zip vs) m p=_;unfold bindC;rw[tw fun v hv=>(HK.mp nd).1 (J1 hv).1,G3 hk];simp
 | p::P,w::vs,i+1,m,nd,h1,h2,hk=>by
  show bindC kindOf ((p,w)::P.zip vs) m x=_;unfold bindC;exact tD (i:=i) (HK.mp nd).2 (by simpa using h1) (by simpa using h2) hk
def start(N:List Str)(vs:List V):St:=vs.map some++List.replicate (N.length-vs.length) none
def cxOf(CX:CXT)(P:Program)(w:World)(K:Frag)(mg:Str->Option Value)(base:Heap)(N:List Str)(qual:Str)(scope:Scope)(f:Addr)(cd:Value)(A:Around)(outer:List Env)(s:Shared)(H:Hp)(E:XK):Cx where
 prog:=P
 w:=w
 K:=K
 mg:=mg
 base:=base
 A:=A.deeper (envOfC qual scope s.heap.objs.size f cd)
 N:=N
 s₀:=s
 H₀:=H
 env:=envOfC qual scope s.heap.objs.size f cd
 outer:=outer
 stack:=envOfC qual scope s.heap.objs.size f cd::outer
 ex:=[]
 calm:=true
 fn:=fun _=>true
 pn:=[]
 xe:=fun e s'=>wpAny (model P w) (A.deeper (envOfC qual scope s.heap.objs.size f cd)) (leaving (envOfC qual scope s.heap.objs.size f cd) e) (fun _ s''=>CX outer H s E e s'') (fun e' s''=>CX outer H s E e' s'') s'
def l9{sc:Scope}{n:Nat}{x:Str}(h:sc.names.lookup x=some .cell):∃ c,(cellsFrom n sc.names []).lookup x=some c:=by
 have q:=JT sc.names n [] (.inl h);exact Option.isSome_iff_exists.mp q
variable{scope:Scope}
def zp {N:List Str} {qual:Str} {cd:Value} {s s1:Shared} {H:Hp} {E:XK} {vs:List V}
  (S:gz N ps scope) (hd:A.handled=none) (e0:Env0 P w K mg base A outer s H) (hl:vs.length=ps.length) (r:Vals vs us)
  (x:InCallC s s.heap.objs.size (bindL (envOfC qual scope s.heap.objs.size f cd).kindOf (ps.zip us) fun _=>none) (cellsFrom (s.heap.objs.size+1) scope.names []) (bindC (envOfC qual scope s.heap.objs.size f cd).kindOf (ps.zip us) fun _=>none) s1):
  Inv (cxOf CX P w K mg base N qual scope f cd A outer s H E) [] (start N vs) H s1:=by
 have hpl:ps.length<=N.length:=by have:=congrArg List.length S.pre;rw[HV] at this;omega
 obtain⟨h1,tk,rfl,hk⟩:=x.done;have noA:∀ b:Addr,b∉(cxOf CX P w K mg base N qual scope f cd A outer s H E).ex:=fun b z=>absurd (show b∈([]:List Addr) from z) (by simp)
 refine⟨⟨e0.mod,S.kind,rfl,rfl,GP _,fun y z c h1 h2=>?_,fun y hy=>?_,fun y c _ h=>?_,fun _=>hd,Around.frames_deeper e0.frames,.inr ⟨rfl,rfl⟩,fun b z=>absurd z (noA b),e0.bs,e0.bsz,fun b _ _=>noA b,fun b z=>absurd z (noA b),e0.funs,e0.frf⟩,
  rfl,e0.bare,Un.kept hk,⟨_,x.toInCall.ns,fun i y v h1 h2 h3=>?_⟩,fun y c h=>⟨_,x.cell y c h⟩,e0.hok.fresh (GP _),fun y c h=>?_,fun p hp=>absurd (show p∈([]:List (Addr × Obj)) from hp) (by simp),e0.hok.kept hk,?_⟩
 . exact name_of_addr x.apart (HL h1) (HL h2)
 . have hy:scope.names.lookup y=some .cell\/scope.names.lookup y=some .free:=hy;rcases hy with hy | hy
   . exact l9 hy
   . exact absurd rfl (S.nofree _ (HL hy))
 . exact Hs (x.above y c (HL h))
 . have hi:i<vs.length:=by
    unfold start at h2;by_cases hi:i<vs.length
    . exact hi
    . rw[Hu (by simpa using hi)] at h2;rw[List.getElem?_replicate] at h2
      split at h2 <;> cases h2
   have ha:vs[i]? =some v:=by
    unfold start at h2;rw[Ho (by simpa using hi),GK] at h2
    cases e:vs[i]? with
    | none=>rw[e] at h2;cases h2
    | some a=>rw[e] at h2;cases h2;rfl
   obtain⟨u,hu,rv⟩:=r.get ha
   have hp:ps[i]? =some y:=by
    rw[← S.pre,List.getElem?_take_of_lt #[0]];exact h1
   have ndP:ps.Nodup:=by rw[← S.pre];exact S.nd.sublist (List.take_sublist _ _)
   refine⟨u,rv,?_⟩;rcases S.par y (GQ hp) with k | k
   . exact .inl ⟨k,tz ndP hp hu k⟩
   . obtain⟨c,e⟩:=l9 (n:=s.heap.objs.size+1) k;refine .inr ⟨.inl k,c,e,?_⟩;have q:=x.cell y c e;rw[tD ndP hp hu (by show scope.names.lookup y≠_;rw[k];decide)] at q;exact q
 . exact e0.hok.fresh (Hs (x.above y c (HL h)))
 . unfold start;show _=N.length;rw[Ha,GG,IY];omega
theorem Bs {k:Nat} {name qual:Str} {params:Arguments} {body:List Stmt} {dV kV doc pm Gz ct oc:Value} {an od:Option Addr}
  {osl:Array (Option Value)} {N ps:List Str} {sp:Sp} (lk:K.lookup f=some ⟨oc,od,.func (fnOf name qual params body scope dV kV doc pm an Gz ct),osl⟩) (hcd:codeIn K Gz qual=true) (S:gz N ps scope)
  (len:∀ vs H Q E,sp vs H Q E->vs.length=ps.length)
  (hbody:∀(A:Around) (outer:List Env) (s:Shared) (H:Hp) (vs:List V) (Q:VK) (E:XK),Room k (A.deeper (envOfC qual scope s.heap.objs.size f Gz))->sp vs H Q E->
   ∃ t,PSs (cxOf CX P w K mg base N qual scope f Gz A outer s H E) body t/\t {nx:=fun _ H'=>Q .non H',rt:=Q} (start N vs) H):
  FnOk P w K mg base CX (k+1) f (fnOf name qual params body scope dV kV doc pm an Gz ct) ps sp:=by
 refine⟨len,fun A outer s H args us vs Q E hr e0 hb r hsp=>?_⟩;have hl:=len _ _ _ _ hsp;have KX:K.In s.heap:=e0.mod.kin.keeps fun b o e=>(e0.bs b o e).1;have lim:s.heap.NoLimit:=e0.mod.nolimit.keeps fun b o e=>(e0.bs b o e).1
 have hkind:∀ y∈ps.zip us,scope.names.lookup y.1=some .local\/(scope.names.lookup y.1=some .cell/\((cellsFrom (s.heap.objs.size+1) scope.names []).lookup y.1).isSome=true):=fun⟨n,v⟩ hy=>by
  rcases S.par n (J1 hy).1 with q | q
  . exact .inl q
  . exact .inr ⟨q,JT _ _ _ (.inl q)⟩
 refine codeAny_call_function hr.depth (KX _ _ lk) rfl S.co S.gen rfl (PySem.W.codeRec_of KX hcd) (hb _ _ _ _ ?_);refine wpAny_newFunctionEnv_cells S.kind hkind fun env he s1 x=>?_;subst he;refine⟨lim.keeps x.toInCall.keep,codeAny_func ?_⟩;obtain⟨t,ht,hq⟩:=hbody A outer s H vs Q E (hr.deeper _) hsp;have I:Inv (cxOf CX P w K mg base N qual scope f Gz A outer s H E) [] (start N vs) H s1:=zp S hr.hd e0 hl r x;refine HN (ht [] s1 (start N vs) H _ I hq) (fun fl s' hs=>?_) fun e s' hs=>hs
 have fin:∀{σ':St} {H':Hp} {v:V} {u:Value},Inv (cxOf CX P w K mg base N qual scope f Gz A outer s H E) [] σ' H' s'->RelV v u->Q v H'->CE outer P w H s Q u s':=
  fun{σ' H' v u} J rv q=>⟨v,H',J.os,J.bare,J.base,J.hok,rv,q⟩
 cases fl with
 | ret u=>
  obtain⟨v,σ',H',J,rv,q⟩:=hs;exact fin J rv q
 | next=>
  obtain⟨σ',H',J,q⟩:=hs;exact fin (v:=V.non) (u:=Value.none) J rfl q
 | brk=>
  obtain⟨_,_,_,q⟩:=hs;exact False.elim q
 | cont=>
  obtain⟨_,_,_,q⟩:=hs;exact False.elim q
section
variable{X:Cx}{x:Str}{p pos:Pos}{e:Expr}{es:List Expr}{t:TA}{id T:String}{r:List V->Hp->VK->Prop}
def tCB(r:List V->Hp->VK->Prop)(t:TA):TE:=fun σ H Q=>t σ H fun vs H1=>r vs H1 Q
def aq (hc:CallR X (.builtin id) r) (hg:Gl X x) (hm:X.mg x=none) (hv:bootBuiltins x=some (.builtin id)) (ha:PA X (e::es) t) (hn:x≠"__name__":=by decide) (hdb:(x==("__debug__":Str))=false:=by decide)
  (he:starEach (e::es) X.env=(false,eval e X.env)::starEach es X.env:=by rfl) (hpl:(backTo pos (starEach es X.env)).any (·.1)=false:=by rfl):PE X (.Call (.Name x p) (e::es) [] pos) (tCB r t):=by
 intro Gx s σ H Q I h;refine HS (fF I hg hm hv ?_ hn hdb);exact Ja (thn (ha pos Gx s σ H _ I h) fun us s1 ⟨vs,H1,I1,r1,q1⟩=>hc Gx s1 σ H1 vs us Q I1 r1 q1) he hpl
def dE (hc:CallR X (.type T) r) (hg:Gl X x) (hm:X.mg x=none) (hv:bootBuiltins x=some (.type T)) (ha:PA X (e::es) t) (hn:x≠"__name__":=by decide) (hdb:(x==("__debug__":Str))=false:=by decide)
  (he:starEach (e::es) X.env=(false,eval e X.env)::starEach es X.env:=by rfl) (hpl:(backTo pos (starEach es X.env)).any (·.1)=false:=by rfl):PE X (.Call (.Name x p) (e::es) [] pos) (tCB r t):=by
 intro Gx s σ H Q I h;refine HS (fF I hg hm hv ?_ hn hdb);exact HF (thn (ha pos Gx s σ H _ I h) fun us s1 ⟨vs,H1,I1,r1,q1⟩=>hc Gx s1 σ H1 vs us Q I1 r1 q1) he hpl
end
end L2
namespace HT
open PySem PyProof.Rows
section
open PySem.SeqAt
open PySem.AutoSeq1 (wpAny_loadPart')
open PySem.MeetsSeq PySem.MeetsSeq2 PySem.MeetsSeq3
end
section
variable{prog:Program}{w:World}{A:Around}{E:Value->Shared->Prop}{s:Shared}
def cat_tup {t b:Addr} {vs ws:List Value} {Q:Value->Shared->Prop} (ht:IsTup s.heap t vs.toArray) (hb:IsTup s.heap b ws.toArray) (hv:vs≠[])
  (h1:ws=[]->Q (.ref t) s) (h2:ws≠[]->Q (.ref s.heap.objs.size) {s with heap:=s.heap.push {cls:=.type "tuple",data:=.seq (vs++ws).toArray}})
  (hsz:vs.length+ws.length<=sizeLine):wpAny (model prog w) A (binaryOp .Add (.ref t) (.ref b)) Q E s:=by
 obtain⟨⟨cls,dd,data,sl⟩,ho,hc,n,hd⟩:=id ht;obtain⟨⟨cls2,dd2,data2,sl2⟩,ho2,hc2,n2,hd2⟩:=id hb;simp only at hc hd hc2 hd2;subst hc hd hc2 hd2;have e:vs.toArray++ws.toArray=(vs++ws).toArray:=by simp
 by_cases hw:ws=[]
 . exact concat_meets ⟨_,ho,rfl⟩ ⟨_,ho2,rfl⟩ noFill_tuple_add seq_tuple_add PySem.F.slot_tuple_add PySem.F.entry_tuple_add (PySem.F.args_tuple_add_2 _ _)
    (tuple_addW1 t b vs.toArray ws.toArray n n2 dd dd2 sl sl2 (by simpa using hv) (by simp[hw])) ⟨ho,ho2,h1 hw⟩
 . refine concat_meets ⟨_,ho,rfl⟩ ⟨_,ho2,rfl⟩ noFill_tuple_add seq_tuple_add PySem.F.slot_tuple_add PySem.F.entry_tuple_add (PySem.F.args_tuple_add_2 _ _)
    (tuple_addW2 t b vs.toArray ws.toArray n n2 dd dd2 sl sl2 (by simpa using hv) (by simpa using hw) (by rw[List.size_toArray,List.size_toArray];exact hsz)) ⟨ho,ho2,?_⟩
   rw[e];exact h2 hw
def sIx(n d:Nat):Option Int->Nat
 | none=>d
 | some v=>if v<0 then(v+(n:Int)).toNat else min v.toNat n
def sIx_none(n d:Nat):sIx n d none=d:=rfl
def sIx_nat(n d k:Nat):sIx n d (some (k:Int))=min k n:=by
 show(if (k:Int)<0 then((k:Int)+(n:Int)).toNat else min (k:Int).toNat n)=min k n;rw[if_neg #[0],Int.toNat_natCast]
theorem sIx_le(n d:Nat)(hd:d<=n)(o:Option Int):sIx n d o<=n:=by
 cases o with
 | none=>exact hd
 | some v=>
  show(if v<0 then(v+(n:Int)).toNat else min v.toNat n)<=n;by_cases hv:v<0
  . rw[if_pos hv];omega
  . rw[if_neg hv];exact Nat.min_le_right _ _
def clip_eq(v:Int)(n d:Nat):(if v<0 then max (v+(n:Int)) 0 else min v (n:Int))=((sIx n d (some v):Nat):Int):=by
 show(if v<0 then max (v+(n:Int)) 0 else min v (n:Int))=(((if v<0 then(v+(n:Int)).toNat else min v.toNat n):Nat):Int);by_cases hv:v<0
 . simp only[if_pos hv];omega
 . simp only[if_neg hv];omega
def adjust_gen(lo hi:Option Int)(n:Nat):Builtin.Slice.sliceAdjust lo hi 1 (n:Int)=(((sIx n 0 lo:Nat):Int),((sIx n n hi:Nat):Int)):=by
 have h1:¬ ((1:Int)<0):=by omega
 unfold Builtin.Slice.sliceAdjust;simp only[h1,if_false];refine Prod.ext ?_ ?_
 . cases lo with
   | none=>rfl
   | some v=>exact clip_eq v n 0
 . cases hi with
   | none=>rfl
   | some v=>exact clip_eq v n n
def places_gen(i j:Nat):Builtin.Slice.slicePlaces (i:Int) (j:Int) 1=j-i:=by
 unfold Builtin.Slice.slicePlaces;have h1:(1:Int)>0:=by omega
 simp only[h1,if_true,Int.ediv_one]
 split <;> omega
theorem slicePart_{v:Value}{o:Option Int}{Q:Option Int->Shared->Prop}(p:IsPart v o)(h:Q o s):wpAny (model prog w) A (Builtin.Slice.slicePartIndex v) Q E s:=by
 cases p with
 | none=>exact slicePart_none h
 | int i t=>exact slicePart_int h
def sliceApplied_gen {sl:Addr} {vl vu:Value} {lo hi:Option Int} {n:Nat} {Q:Int × Int × Nat->Shared->Prop} (hs:s.heap.IsSliceOf sl vl vu .none) (pl:IsPart vl lo) (pu:IsPart vu hi)
  (h:Q (((sIx n 0 lo:Nat):Int),1,sIx n n hi-sIx n 0 lo) s):wpAny (model prog w) A (Builtin.Slice.sliceApplied (.ref sl) (pure (n:Int))) Q E s:=by
 obtain⟨os,hos,hcs,hds⟩:=id hs;unfold Builtin.Slice.sliceApplied Builtin.Slice.sliceFields;refine wpAny_bind (wpAny_bind (wpAny_field hos hds (x:=vl) rfl (wpAny_bind (wpAny_field hos hds (x:=vu) rfl (wpAny_bind (wpAny_field hos hds (x:=.none) rfl (wpAny_pure ?_)))))));refine wpAny_bind (slicePart_none ?_);show wpAny _ _ (if ((1:Int)==0)=true then _ else _) _ _ s;rw[if_neg #[1]];refine wpAny_bind (slicePart_ pl (wpAny_bind (slicePart_ pu (wpAny_bind (wpAny_pure ?_)))));show wpAny _ _ (match Builtin.Slice.sliceAdjust lo hi 1 (n:Int) with | (lo,hi)=>pure (lo,(1:Int),Builtin.Slice.slicePlaces lo hi 1)) _ _ s;rw[adjust_gen lo hi n];show wpAny _ _ (pure (((sIx n 0 lo:Nat):Int),(1:Int),Builtin.Slice.slicePlaces ((sIx n 0 lo:Nat):Int) ((sIx n n hi:Nat):Int) 1)) _ _ s;rw[places_gen];exact wpAny_pure h
def pick_gen(xs:Array Value)(i k:Nat):((List.range k).filterMap fun(m:Nat)=>xs[((i:Int)+(m:Int)*1).toNat]?).toArray=((xs.toList.drop i).take k).toArray:=by
 have e:(fun(m:Nat)=>xs[((i:Int)+(m:Int)*1).toNat]?)=fun m=>xs[i+m]? :=by
  funext m
  have:((i:Int)+(m:Int)*1).toNat=i+m:=by omega
  rw[this]
 rw[e];have:=pick_run xs i k;rw[List.filterMap_map] at this;have e2:((fun x=>xs[x]?) ∘ fun x=>i+x)=fun m=>xs[i+m]? :=rfl;rw[e2] at this;rw[this]
def getItem_tuple_cut {t sl:Addr} {items:Array Value} {vl vu:Value} {lo hi:Option Int} {Q:Value->Shared->Prop} (ht:IsTup s.heap t items) (hs:s.heap.IsSliceOf sl vl vu .none) (pl:IsPart vl lo) (pu:IsPart vu hi)
  (hw:¬ (sIx items.size 0 lo=0/\sIx items.size items.size hi=items.size))
  (h:Q (.ref s.heap.objs.size) {s with heap:=s.heap.push {cls:=.type "tuple",data:=.seq ((items.toList.drop (sIx items.size 0 lo)).take (sIx items.size items.size hi-sIx items.size 0 lo)).toArray}})
  (hsz:items.size<=sizeLine):wpAny (model prog w) A (getItem (.ref t) (.ref sl)) Q E s:=by
 have htake:sizeOk (.seq ((items.toList.drop (sIx items.size 0 lo)).take (sIx items.size items.size hi-sIx items.size 0 lo)).toArray):=by
  show((items.toList.drop (sIx items.size 0 lo)).take (sIx items.size items.size hi-sIx items.size 0 lo)).toArray.size<=sizeLine;rw[List.size_toArray,List.length_take,List.length_drop,Array.length_toList];omega
 have hj:sIx items.size items.size hi<=items.size:=sIx_le _ _ (Nat.le_refl _) hi;obtain⟨os,hos,hcs,hds⟩:=id hs;have hTs:s.TypeIs (.ref sl) "slice":=⟨os,hos,hcs⟩;unfold getItem
 try with_reducible refine wpAny_holding ?_
 first | refine wpAny_bind (wpAny_pure ?_) | skip
 refine wpAny_bind (wpAny_sequenceKey ht.typeIs #[1] ?_)
 refine wpAny_bind (wpAny_callSpecial?_slot (name:=Str.ofString "__getitem__") ht.typeIs PyProof.Rows.slot_tuple_getitem
  (wpAny_call_entry PyProof.Rows.slot_tuple_getitem ht.typeIs entry_tuple_getitem ?_ (args_tuple_getitem _ _)))
 show wpAny _ _ (Builtin.Tuple.tupleItemsOf (.ref t) >>= _) _ _ s;refine wpAny_bind (tupleItemsOf_ ht ?_);refine wpAny_bind (wpAny_typeOf hTs ?_);rw[if_pos #[1]];refine wpAny_bind (sliceApplied_gen hs pl pu ?_)
 have hno:¬ ((((sIx items.size 0 lo:Nat):Int)==0&&(1:Int)==1&&(sIx items.size items.size hi-sIx items.size 0 lo)==items.size)=true):=by
  intro q;rw[Bool.and_eq_true,Bool.and_eq_true] at q;have q1:((sIx items.size 0 lo:Nat):Int)=0:=eq_of_beq q.1.1;have q2:sIx items.size items.size hi-sIx items.size 0 lo=items.size:=eq_of_beq q.2;exact hw ⟨by omega,by omega⟩
 show wpAny _ _ (if (((sIx items.size 0 lo:Nat):Int)==0&&(1:Int)==1&&(sIx items.size items.size hi-sIx items.size 0 lo)==items.size)=true then _ else _) _ _ s;rw[if_neg hno,pick_gen]
 first
  | exact wpAny_bind (m:=Builtin.Tuple.tupleExact _) (wpAny_newObj_type (wpAny_pure ⟨_,rfl,wpAny_pure h⟩) htake)
  | exact wpAny_bind (m:=Builtin.Tuple.tupleExact _) (wpAny_newObj_type (wpAny_bind (wpAny_pure (wpAny_pure ⟨_,rfl,wpAny_pure h⟩))) htake)
  | exact wpAny_bind (wpAny_bind (m:=Builtin.Tuple.tupleExact _) (wpAny_newObj_type (wpAny_pure (wpAny_pure ⟨_,rfl,wpAny_pure h⟩)) htake))
  | exact wpAny_bind (wpAny_bind (m:=Builtin.Tuple.tupleExact _) (wpAny_newObj_type (wpAny_pure ⟨_,rfl,wpAny_pure h⟩) htake))
end
end HT
namespace L2
open PySem PySem.Spec PyProof.Rows
abbrev TO:=St->Hp->(Option Int->Hp->Prop)->Prop
def PO(X:Cx)(e:Option Expr)(t:TO):Prop:=
 ∀(Gx:List (Addr × Obj)) (s:Shared) (σ:St) (H:Hp) (Q:Option Int->Hp->Prop),Inv X Gx σ H s->t σ H Q->
  wpAny (model X.prog X.w) X.A (evalPart e X.env) (fun u s'=>∃ o H',Inv X Gx σ H' s'/\IsPart u o/\Q o H') X.xe s
def fU:TO:=fun _ H Q=>Q none H
def tPart(t:TE):TO:=fun σ H Q=>t σ H fun x H1=>∃ i,x=.int i/\Q (some i) H1
theorem qv{ns:∅}:∀{us:List Value},Vals (ns.map V.int) us->IntsAre us ns:=by
 induction ns with
 | nil=>intro us r;rw[List.map_nil] at r;cases r;exact .nil
 | cons n ns ih=>
  intro us r;rw[Hd] at r
  cases r with
  | cons r1 r2=>
   obtain⟨t,e⟩:=r1;subst e;exact .cons n t (ih r2)
section
variable{X:Cx}{e:Expr}{te:TE}{lo hi:Option Expr}{tl th:TO}{pos p2:Pos}
def jD:PO X none fU:=by
 intro Gx s σ H Q I h;rw[evalPart_none];exact HE ⟨none,H,I,.none,h⟩
def cu(h:PE X e te):PO X (some e) (tPart te):=by
 intro Gx s σ H Q I hw;rw[evalPart_some];refine thn (h Gx s σ H _ I hw) fun u s1 ⟨x,H1,I1,r1,q1⟩=>?_;obtain⟨i,rfl,q⟩:=q1;obtain⟨t,rfl⟩:=r1;exact⟨some i,H1,I1,.int i t,q⟩
def SlR(X:Cx)(r:V->Option Int->Option Int->Hp->VK->Prop):Prop:=
 ∀(Gx:List (Addr × Obj)) (s:Shared) (σ:St) (H:Hp) (x:V) (v vl vu:Value) (lo hi:Option Int) (sl:Addr) (Q:VK),Inv X Gx σ H s->RelV x v->s.heap.IsSliceOf sl vl vu .none->IsPart vl lo->IsPart vu hi->r x lo hi H Q->
  ∃ T id,typeLookup (.type T) "__getitem__"=pure (some (.builtin id))/\s.TypeIs v T/\wpAny (model X.prog X.w) X.A (getItem v (.ref sl)) (EP X Gx σ Q) X.xe s
def tSl(r:V->Option Int->Option Int->Hp->VK->Prop)(te:TE)(tl th:TO):TE:=fun σ H Q=>te σ H fun x H1=>tl σ H1 fun l H2=>th σ H2 fun u H3=>r x l u H3 Q
def dM{r:V->Option Int->Option Int->Hp->VK->Prop}(hr:SlR X r)(he:PE X e te)(hl:PO X lo tl)(hu:PO X hi th):PE X (.Subscript e (.Slice lo hi none p2) pos) (tSl r te tl th):=by
 intro Gx s σ H Q I h;refine Subscript_ (thn (he Gx s σ H _ I h) fun v s1 ⟨x,H1,I1,r1,q1⟩=>?_);refine wpAny_Slice (thn (hl Gx s1 σ H1 _ I1 q1) fun vl s2 ⟨l,H2,I2,pl,q2⟩=>thn (hu Gx s2 σ H2 _ I2 q2) fun vu s3 ⟨u,H3,I3,pu,q3⟩=>?_);rw[evalPart_none];refine HE ?_;have I4:Inv X Gx σ H3 {s3 with heap:=s3.heap.push {cls:=.type "slice",data:=.fields #[vl,vu,.none]}}:=I3.kept (t':=s3.toks) fun b ob q=>GO _ q;obtain⟨T,id,hT,ht,hg⟩:=hr Gx {s3 with heap:=s3.heap.push {cls:=.type "slice",data:=.fields #[vl,vu,.none]}} σ H3 x v vl vu l u s3.heap.objs.size Q I4 r1 (Heap.IsSliceOf.new ..) pl pu q3;show wpAny (model X.prog X.w) X.A (subscriptTail e (.Slice lo hi none p2) v (.ref s3.heap.objs.size)) (EP X Gx σ Q) X.xe {s3 with heap:=s3.heap.push {cls:=.type "slice",data:=.fields #[vl,vu,.none]}};exact tail_any (ops:=[.ref s3.heap.objs.size,v]) ht hT hg (by with_unfolding_all rfl)
def cutV(xs:List V)(lo hi:Option Int):List V:=(xs.drop (HT.sIx xs.length 0 lo)).take (HT.sIx xs.length xs.length hi-HT.sIx xs.length 0 lo)
def pe(xs:List V)(lo hi:Option Int):(cutV xs lo hi).length<=xs.length:=by
 unfold cutV;rw[HV,List.length_drop];omega
def rSlT(K:Frag):V->Option Int->Option Int->Hp->VK->Prop:=fun x lo hi H Q=>∃ a xs,x=.ref a/\SqT K H a xs/\
 ¬ (HT.sIx xs.length 0 lo=0/\HT.sIx xs.length xs.length hi=xs.length)/\∀ p,H p=none->Q (.ref p) (upd H p (.tup (cutV xs lo hi)))
def CD:SlR X (rSlT X.K):=by
 intro Gx s σ H x v vl vu lo hi sl Q I rx hs pl pu h;obtain⟨a,xs,rfl,hx,hw,q⟩:=h;cases rx;obtain⟨GB,r,ht,hz⟩:=I.tuple hx;have GD:GB.toArray.size=xs.length:=by rw[GT];exact r.length.symm
 refine⟨"tuple",_,PyProof.Rows.slot_tuple_getitem.lookup,ht.typeIs,?_⟩;refine HT.getItem_tuple_cut ht hs pl pu (by rw[GD];exact hw) ?_ (by rw[GD];exact hz);rw[GD];refine⟨.ref s.heap.objs.size,_,I.laid (t':=s.toks) (o:=.tup (cutV xs lo hi)) (fun b ob q=>GO _ q) (GP _) ?_,rfl,q _ (I.hok.fresh (GP _))⟩;exact⟨GS (pe xs lo hi) hz,_,(r.drop (HT.sIx xs.length 0 lo)).take (HT.sIx xs.length xs.length hi-HT.sIx xs.length 0 lo),IsTup.new _ _⟩
def rCatT(K:Frag):R2:=fun x y H Q=>∃ a b xs ys,x=.ref a/\y=.ref b/\SqT K H a xs/\SqT K H b ys/\xs≠[]/\xs.length+ys.length<=sizeLine/\
 (ys=[]->Q (.ref a) H)/\(ys≠[]->∀ p,H p=none->Q (.ref p) (upd H p (.tup (xs++ys))))
theorem Vals.nil_iff{xs:List V}{us:List Value}(r:Vals xs us):us=[]↔xs=[]:=by
 cases r with
 | nil=>simp
 | cons _ _=>simp
def BO:OpR X (binaryOp .Add) (rCatT X.K):=by
 intro Gx s σ H x y v u Q I rx ry h;obtain⟨a,b,xs,ys,rfl,rfl,ha,hb,hx,hz,q1,q2⟩:=h;cases rx;cases ry;obtain⟨GB,r1,p1,_⟩:=I.tuple ha;obtain⟨its2,r2,p2,_⟩:=I.tuple hb;refine HT.cat_tup p1 p2 (fun z=>hx (r1.nil_iff.mp z)) (fun z=>⟨.ref a,H,I,rfl,q1 (r2.nil_iff.mp z)⟩) (fun z=>?_) (by rw[← r1.length,← r2.length];exact hz);refine⟨.ref s.heap.objs.size,_,I.laid (t':=s.toks) (o:=.tup (xs++ys)) (fun b ob q=>GO _ q) (GP _) ?_,rfl,q2 (fun w=>z (r2.nil_iff.mpr w)) _ (I.hok.fresh (GP _))⟩;exact⟨by rw[Ha];exact hz,_,r1.append r2,IsTup.new _ _⟩
end
def ixN(n:Nat)(i:Int):Option Nat:=if 0<=i then(if i<n then some i.toNat else none) else if -(n:Int)<=i then some (i+n).toNat else none
def atI{α:Type}(xs:List α)(i:Int):Option α:=(ixN xs.length i).bind fun j=>xs[j]?
def BP{n:Nat}{i:Int}{j:Nat}(h:ixN n i=some j):seqIndex? i n=some j/\j<n/\ -(n:Int)<=i/\i<n:=by
 unfold ixN at h;by_cases h0:0<=i
 . rw[G9 h0] at h;by_cases h1:i<n
   . rw[G9 h1] at h;have e:i.toNat=j:=Ig h;exact⟨by rw[seqIndex_of h0 h1,e],by omega,by omega,h1⟩
   . rw[G3 h1] at h;cases h
 . rw[G3 h0] at h;by_cases h1: -(n:Int)<=i
   . rw[G9 h1] at h;have e:(i+n).toNat=j:=Ig h;exact⟨by rw[seqIndex_neg #[0] h1,e],by omega,h1,by omega⟩
   . rw[G3 h1] at h;cases h
theorem si{α:Type}{xs:List α}{i:Int}{v:α}(h:atI xs i=some v):∃ j,seqIndex? i xs.length=some j/\xs[j]? =some v/\j<xs.length/\ -(xs.length:Int)<=i/\i<xs.length:=by
 unfold atI at h
 cases e:ixN xs.length i with
 | none=>rw[e] at h;cases h
 | some j=>
  rw[e] at h;obtain⟨h1,h2,h3,h4⟩:=BP e;exact⟨j,h1,h,h2,h3,h4⟩
def fk{α:Type}{xs:List α}{j:Nat}{v:α}(h:xs[j]? =some v):atI xs (j:Int)=some v:=by
 have hj:j<xs.length:=(GN.mp h).1
 have e:ixN xs.length (j:Int)=some j:=by
  unfold ixN;rw[G9 #[0],G9 #[0]];simp
 unfold atI;rw[e];exact h
def sj(b:Expr):Prop:=∀ o i,subscripted b false o i=operate [o,i] (getItem o i)
def IxR(X:Cx)(r:R2):Prop:=
 ∀(value slice:Expr) (Gx:List (Addr × Obj)) (s:Shared) (σ:St) (H:Hp) (x y:V) (v u:Value) (Q:VK),Inv X Gx σ H s->RelV x v->RelV y u->r x y H Q->
  subscripted slice false v u=operate [v,u] (getItem v u)->wpAny (model X.prog X.w) X.A (subscriptTail value slice v u) (EP X Gx σ Q) X.xe s
def MtR(X:Cx)(id:String)(r:V->List V->Hp->VK->Prop):Prop:=
 ∀(Gx:List (Addr × Obj)) (s:Shared) (σ:St) (H:Hp) (x:V) (xs:List V) (v:Value) (us:List Value) (Q:VK),Inv X Gx σ H s->RelV x v->Vals xs us->r x xs H Q->
  wpAny (model X.prog X.w) X.A (call (.builtin id) (v::us)) (EP X Gx σ Q) X.xe s
section
variable{X:Cx}{a b:Expr}{ta tb:TE}{pos:Pos}
def uJ{r:R2}(hr:IxR X r)(ha:PE X a ta)(hb:PE X b tb)(hs:sj b):PE X (.Subscript a b pos) (tOp r ta tb):=by
 intro Gx s σ H Q I h;exact Subscript_ (binT ha hb I h fun v u s2 x y H2 I2 rx ry q=>hr a b Gx s2 σ H2 x y v u Q I2 rx ry q (hs _ _))
def rIxL(K:Frag):R2:=fun x y H Q=>∃ p xs i v,x=.ref p/\y=.int i/\SqL K H p xs/\atI xs i=some v/\Q v H
def rIxT(K:Frag):R2:=fun x y H Q=>∃ p xs i v,x=.ref p/\y=.int i/\SqT K H p xs/\atI xs i=some v/\Q v H
def rIxS:R2:=fun x y H Q=>∃ z i c,x=.str z/\y=.int i/\z.length<=sizeLine/\atI z.cps.toList i=some c/\Q (.str ⟨#[c]⟩) H
def xg:IxR X (rIxL X.K):=by
 intro value slice Gx s σ H x y v u Q I rx ry h hs;obtain⟨p,xs,i,z,rfl,rfl,hq,he,q⟩:=h;cases rx;obtain⟨t,rfl⟩:=ry;obtain⟨GB,r,pl,hz⟩:=I.list hq;obtain⟨j,h1,h2,h3,h4,h5⟩:=si he;obtain⟨w,ew,rw'⟩:=r.get h2;have hl:=r.length;have hn:=nj;have fin:EP X Gx σ Q w s:=⟨z,H,I,rw',q⟩;by_cases h0:0<=i
 . have hj:i.toNat=j:=by
    rw[seqIndex_of h0 h5] at h1;exact Ig h1
   exact item_listR pl.isList h0 #[0] (by rw[hj];simpa using ew) fin hs
 . have hj:(i+(GB.toArray.size:Int)).toNat=j:=by
    rw[seqIndex_neg #[0] h4] at h1;rw[GT,← hl];exact Ig h1
   exact JU (x:=w) pl.isList.typeIs slot_list_getitem.lookup
    (wpAny_getItem_list_neg (Q:=fun r s'=>r=w/\EP X Gx σ Q r s') pl.isList #[0] (by rw[GT] <;> omega) #[0] (by rw[hj];simpa using ew) ⟨rfl,fin⟩) hs
def CF:IxR X (rIxT X.K):=by
 intro value slice Gx s σ H x y v u Q I rx ry h hs;obtain⟨p,xs,i,z,rfl,rfl,hq,he,q⟩:=h;cases rx;obtain⟨t,rfl⟩:=ry;obtain⟨GB,r,pl,hz⟩:=I.tuple hq;obtain⟨j,h1,h2,h3,h4,h5⟩:=si he;obtain⟨w,ew,rw'⟩:=r.get h2;have hl:=r.length;have hn:=nj;have fin:EP X Gx σ Q w s:=⟨z,H,I,rw',q⟩
 exact JU (x:=w) pl.typeIs slot_tuple_getitem.lookup
  (getItem_tuple (j:=j) (Q:=fun r s'=>r=w/\EP X Gx σ Q r s') pl #[0] #[0] (by rw[GT,← hl];exact h1) (by simpa using ew) ⟨rfl,fin⟩) hs
def CG:IxR X rIxS:=by
 intro value slice Gx s σ H x y v u Q I rx ry h hs;obtain⟨z,i,c,rfl,rfl,hz,he,q⟩:=h;obtain⟨t,rfl⟩:=rx;obtain⟨t',rfl⟩:=ry;obtain⟨j,h1,h2,h3,h4,h5⟩:=si he;have hl:z.cps.toList.length=z.length:=by simp[Str.length]
 rw[hl] at h1 h4 h5;have hn:=nj
 exact tail_any (Jb s z t) slot_str_getitem.lookup (getItem_str (c:=c) (by
  have e1:decide (i < -(2^63:Int))=false:=GI #[0];have e2:decide (i ≥ 2^63)=false:=GI #[0];rw[e1,e2,Bool.or_false]) (by rw[h1];simpa using h2) ⟨.str ⟨#[c]⟩,H,I.tok _,⟨_,rfl⟩,q⟩) hs
def Inv.lst{Gx:List (Addr × Obj)}{σ:St}{H:Hp}{s:Shared}{p:Addr}{xs:List V}(I:Inv X Gx σ H s)(h:H p=↥xs):
  ∃(GB:List Value) (n:Nat),Vals xs GB/\s.heap.get? p=some {cls:=.type "list",data:=.seq GB.toArray n}/\xs.length<=sizeLine:=by
 obtain⟨z,GB,n,r,e⟩:=I.hok p _ h;exact⟨GB,n,r,e,z⟩
def uW(lo hi:Option Int)(n:Nat):(sliceBounds lo hi none n).1=((HT.sIx n 0 lo:Nat):Int)/\(sliceBounds lo hi none n).2.1=((HT.sIx n n hi:Nat):Int)/\(sliceBounds lo hi none n).2.2=1:=by
 refine⟨?_,?_,rfl⟩
 . cases lo with
   | none=>simp[sliceBounds,HT.sIx]
   | some i=>
    simp only[sliceBounds,HT.sIx,Option.getD_none,show(1:Int)>0 by decide,Kf];by_cases h:i<0
    . simp only[h,Kf] <;> omega
    . simp only[h,if_false] <;> omega
 . cases hi with
   | none=>simp[sliceBounds,HT.sIx]
   | some i=>
    simp only[sliceBounds,HT.sIx,Option.getD_none,show(1:Int)>0 by decide,Kf];by_cases h:i<0
    . simp only[h,Kf] <;> omega
    . simp only[h,if_false] <;> omega
def uf(GB:List Value)(lo hi:Option Int):slicePick GB.toArray lo hi none=((GB.drop (HT.sIx GB.length 0 lo)).take (HT.sIx GB.length GB.length hi-HT.sIx GB.length 0 lo)).toArray:=by
 obtain⟨h1,h2,h3⟩:=uW lo hi GB.toArray.size;unfold slicePick;rw[h1,h2,h3];simp only[sliceRange_one,pick_run,GT] <;> rfl
def rSlL(K:Frag):V->Option Int->Option Int->Hp->VK->Prop:=fun x lo hi H Q=>∃ a xs,x=.ref a/\SqL K H a xs/\∀ p,H p=none->Q (.ref p) (upd H p (.lst (cutV xs lo hi)))
def BQ:SlR X (rSlL X.K):=by
 intro Gx s σ H x v vl vu lo hi sl Q I rx hs pl pu h;obtain⟨a,xs,rfl,hx,q⟩:=h;cases rx;obtain⟨GB,r,ht,hz⟩:=I.list hx;have GD:=r.length;refine⟨"list",_,slot_list_getitem.lookup,ht.isList.typeIs,?_⟩;refine wpAny_getItem_list_slice ht.isList hs pl pu .none (by simp) ?_ (by rw[GT] <;> omega);rw[uf,← GD];refine⟨.ref s.heap.objs.size,_,I.laid (t':=s.toks) (o:=.lst (cutV xs lo hi)) (fun b ob q=>GO _ q) (GP _) ?_,rfl,q _ (I.hok.fresh (GP _))⟩;exact⟨GS (pe xs lo hi) hz,_,0,(r.drop (HT.sIx xs.length 0 lo)).take (HT.sIx xs.length xs.length hi-HT.sIx xs.length 0 lo),G8 _ rfl⟩
def flatV:V->Bool
 | .non=>true
 | .bl _=>true
 | .int _=>true
 | .str _=>true
 | _=>false
def eqV:V->V->Bool
 | .non,.non=>true
 | .bl a,.bl b=>a==b
 | .bl a,.int b=>(if a then 1 else 0)==b
 | .int a,.bl b=>a==(if b then 1 else 0)
 | .int a,.int b=>a==b
 | .str a,.str b=>a==b
 | _,_=>false
theorem CH{A:Around}{s:Shared}{y x:V}{u v:Value}(ry:RelV y u)(rx:RelV x v)(fy:flatV y=true)(fx:flatV x=true):SeqAt.EqAt A s u v (eqV y x):=by
 cases y with
 | non=>
  cases ry
  cases x with
  | non=>cases rx;exact SeqAt.EqAt.same _
  | bl b=>cases rx;exact SeqAt.EqAt.none_bool b
  | int b=>obtain⟨t,rfl⟩:=rx;exact SeqAt.EqAt.none_int b t
  | str b=>obtain⟨t,rfl⟩:=rx;exact SeqAt.EqAt.none_str b t
  | _=>exact absurd (show false=true from fx) GM
 | bl a=>
  cases ry
  cases x with
  | non=>cases rx;exact SeqAt.EqAt.bool_none a
  | bl b=>cases rx;exact SeqAt.EqAt.bool_bool a b
  | int b=>obtain⟨t,rfl⟩:=rx;exact SeqAt.EqAt.bool_int a b t
  | str b=>obtain⟨t,rfl⟩:=rx;exact SeqAt.EqAt.bool_str a b t
  | _=>exact absurd (show false=true from fx) GM
 | int a=>
  obtain⟨t',rfl⟩:=ry
  cases x with
  | non=>cases rx;exact SeqAt.EqAt.int_none a t'
  | bl b=>cases rx;exact SeqAt.EqAt.int_bool a t' b
  | int b=>obtain⟨t,rfl⟩:=rx;exact SeqAt.EqAt.int_int a t' b t
  | str b=>obtain⟨t,rfl⟩:=rx;exact SeqAt.EqAt.int_str a t' b t
  | _=>exact absurd (show false=true from fx) GM
 | str a=>
  obtain⟨t',rfl⟩:=ry
  cases x with
  | non=>cases rx;exact SeqAt.EqAt.str_none a t'
  | bl b=>cases rx;exact SeqAt.EqAt.str_bool a t' b
  | int b=>obtain⟨t,rfl⟩:=rx;exact SeqAt.EqAt.str_int a t' b t
  | str b=>obtain⟨t,rfl⟩:=rx;exact SeqAt.EqAt.str_str a t' b t
  | _=>exact absurd (show false=true from fx) GM
 | _=>exact absurd (show false=true from fy) GM
def eqU(x:V)(u:Value):Bool:=match u with
 | .none=>eqV .non x
 | .bool b=>eqV (.bl b) x
 | .int i _=>eqV (.int i) x
 | .str z _=>eqV (.str z) x
 | _=>false
theorem zq{x y:V}{u:Value}(r:RelV y u)(f:flatV y=true):eqU x u=eqV y x:=by
 cases y with
 | non=>cases r;rfl
 | bl b=>cases r;rfl
 | int i=>obtain⟨t,rfl⟩:=r;rfl
 | str z=>obtain⟨t,rfl⟩:=r;rfl
 | _=>exact absurd (show false=true from f) GM
theorem lD{x:V}:∀{xs:List V} {us:List Value},Vals xs us->xs.all flatV=true->us.any (eqU x)=xs.any fun y=>eqV y x
 | _,_,.nil,_=>rfl
 | y::xs,u::us,.cons r t,f=>by
  rw[Jd,G7] at f;rw[JK,JK,zq r f.1,lD t f.2]
theorem jF{A:Around}{s:Shared}{x:V}{v:Value}(rx:RelV x v)(fx:flatV x=true):∀{xs:List V} {us:List Value},Vals xs us->xs.all flatV=true->∀ u∈us,SeqAt.EqAt A s u v (eqU x u)
 | _,_,.nil,_=>fun u hu=>by cases hu
 | y::xs,u::us,.cons r t,f=>fun u' hu=>by
  rw[Jd,G7] at f;rcases GU.mp hu with rfl | hu
  . rw[zq r f.1];exact CH r rx f.1 fx
  . exact jF rx fx t f.2 u' hu
def inV(x:V)(xs:List V):Bool:=xs.any fun y=>eqV y x
def rIn(K:Frag)(neg:Bool):R2:=fun x y H Q=>∃ p xs,y=.ref p/\(SqL K H p xs\/SqT K H p xs)/\flatV x=true/\xs.all flatV=true/\Q (.bl (if neg then !inV x xs else inV x xs)) H
def no:OpR X (compareOp .In) (rIn X.K false):=by
 intro Gx s σ H x y v u Q I rx ry h;obtain⟨p,xs,rfl,hq,fx,fs,q⟩:=h;cases ry;rcases hq with hq | hq
 . obtain⟨GB,r,pl,hz⟩:=I.list hq;refine SeqAt.in_listAt (eqU x) pl.isList (fun w hw=>jF rx fx r fs w (by simpa using hw)) ⟨.bl _,H,I,rfl,?_⟩;rw[show GB.toArray.any (eqU x)=GB.any (eqU x) by simp,lD r fs];exact q
 . obtain⟨GB,r,pl,hz⟩:=I.tuple hq;refine SeqAt.in_tupleAt (eqU x) pl (fun w hw=>jF rx fx r fs w (by simpa using hw)) ⟨.bl _,H,I,rfl,?_⟩;rw[show GB.toArray.any (eqU x)=GB.any (eqU x) by simp,lD r fs];exact q
def np:OpR X (compareOp .NotIn) (rIn X.K true):=by
 intro Gx s σ H x y v u Q I rx ry h;obtain⟨p,xs,rfl,hq,fx,fs,q⟩:=h;cases ry;rcases hq with hq | hq
 . obtain⟨GB,r,pl,hz⟩:=I.list hq;refine SeqAt.notIn_listAt (eqU x) pl.isList (fun w hw=>jF rx fx r fs w (by simpa using hw)) ⟨.bl _,H,I,rfl,?_⟩;rw[show GB.toArray.any (eqU x)=GB.any (eqU x) by simp,lD r fs];exact q
 . obtain⟨GB,r,pl,hz⟩:=I.tuple hq;refine SeqAt.notIn_tupleAt (eqU x) pl (fun w hw=>jF rx fx r fs w (by simpa using hw)) ⟨.bl _,H,I,rfl,?_⟩;rw[show GB.toArray.any (eqU x)=GB.any (eqU x) by simp,lD r fs];exact q
def uX:OpR X (compareOp .NotIn) (fun x y H Q=>∃ i j,x=.str i/\y=.str j/\Q (.bl (!(!(Builtin.Str.occurrences j i 0 j.length 1).isEmpty))) H):=by
 intro Gx s σ H x y v u Q I rx ry h;obtain⟨i,j,rfl,rfl,q⟩:=h;obtain⟨t,rfl⟩:=rx;obtain⟨t',rfl⟩:=ry;exact notIn_str ⟨.bl _,H,I,rfl,q⟩
def nq:CallR X (.builtin "len") (fun xs H Q=>∃ p ys,xs=[.ref p]/\(SqL X.K H p ys\/SqT X.K H p ys)/\Q (.int ys.length) H):=by
 intro Gx s σ H xs us Q I r h;obtain⟨p,ys,rfl,hq,q⟩:=h;obtain⟨u,rfl,rx⟩:=c5 r;cases rx;have hn:=nj;rcases hq with hq | hq
 . obtain⟨GB,r',pl,hz⟩:=I.list hq;have GD:=r'.length;exact Calls.call_len_list pl.isList (by simp only[GT] <;> omega) ⟨.int ys.length,H,I.tok _,⟨s.toks+1,by rw[GT,GD]⟩,q⟩
 . obtain⟨GB,r',pl,hz⟩:=I.tuple hq;have GD:=r'.length;exact len_tuple pl (by simp only[GT] <;> omega) ⟨.int ys.length,H,I.tok _,⟨s.toks+1,by rw[GT,GD]⟩,q⟩
def uY:CallR X (.builtin "len") (fun xs H Q=>∃ z,xs=[.str z]/\z.length<=sizeLine/\Q (.int z.length) H):=by
 intro Gx s σ H xs us Q I r h;obtain⟨z,rfl,hz,q⟩:=h;obtain⟨u,rfl,t,rfl⟩:=c5 r;have hn:=nj;exact len_str #[0] ⟨.int z.length,H,I.tok _,⟨_,rfl⟩,q⟩
def uZ:CallR X (.type "list") (fun xs H Q=>∃ p ys,xs=[.ref p]/\(SqL X.K H p ys\/SqT X.K H p ys)/\∀ l,H l=none->Q (.ref l) (upd H l (.lst ys))):=by
 intro Gx s σ H xs us Q I r h;obtain⟨p,ys,rfl,hq,q⟩:=h;obtain⟨u,rfl,rx⟩:=c5 r;cases rx
 have fin:∀(GB:List Value),Vals ys GB->ys.length<=sizeLine->∀(h':Heap) (c':Nat),(∀ b o',s.heap.get? b=some o'->h'.get? b=some o')->
   h'.get? s.heap.objs.size=some {cls:=.type "list",dict:=none,data:=.seq GB.toArray c',slots:=#[]}->EP X Gx σ Q (.ref s.heap.objs.size) {s with heap:=h'}:=fun GB r' hz h' c' kp e=>
  ⟨.ref s.heap.objs.size,_,I.laid (t':=s.toks) kp (GP _) (show ObjOk X.prog X.w _ h' _ (.lst ys) from⟨hz,GB,c',r',e⟩),rfl,q _ (I.hok.fresh (GP _))⟩
 rcases hq with hq | hq
 . obtain⟨GB,r',pl,hz⟩:=I.list hq;have GD:=r'.length;obtain⟨o,ho,hc,n,hd⟩:=pl.isList;exact call_list_seq p (.inl rfl) ho hc hd (fun h' c' kp e=>fin GB r' hz h' c' kp e) (by simp only[GT] <;> omega)
 . obtain⟨GB,r',pl,hz⟩:=I.tuple hq;have GD:=r'.length;obtain⟨o,ho,hc,n,hd⟩:=pl;exact call_list_seq p (.inr rfl) ho hc hd (fun h' c' kp e=>fin GB r' hz h' c' kp e) (by simp only[GT] <;> omega)
def ug:CallR X (.type "tuple") (fun xs H Q=>∃ p ys,xs=[.ref p]/\((SqL X.K H p ys/\∀ l,H l=none->Q (.ref l) (upd H l (.tup ys)))\/(SqT X.K H p ys/\Q (.ref p) H))):=by
 intro Gx s σ H xs us Q I r h;obtain⟨p,ys,rfl,h⟩:=h;obtain⟨u,rfl,rx⟩:=c5 r;cases rx;rcases h with ⟨hq,q⟩ | ⟨hq,q⟩
 . obtain⟨GB,r',pl,hz⟩:=I.list hq;have GD:=r'.length;refine call_tuple_list pl.isList (fun h' kp=>?_) (by simp only[GT] <;> omega);have I1:Inv X Gx σ H {s with heap:=h'}:=I.kept (t':=s.toks) kp
   have I2:Inv X Gx σ (upd H h'.objs.size (.tup ys)) {s with heap:=h'.push {cls:=.type "tuple",data:=.seq GB.toArray}}:=
    I1.laid (t':=s.toks) (fun b o e=>GO _ e) (GP _) (show ObjOk X.prog X.w _ _ _ (.tup ys) from⟨hz,GB,r',IsTup.new _ _⟩)
   exact⟨.ref h'.objs.size,_,I2,rfl,q _ (I1.hok.fresh (GP _))⟩
 . obtain⟨GB,r',pl,hz⟩:=I.tuple hq;exact call_tuple_same pl ⟨.ref p,H,I,rfl,q⟩
def tyV(K:Frag)(T:String)(x:V)(H:Hp):Prop:=match x with
 | .str _=>T="str"
 | .int _=>T="int"
 | .ref p=>(T="list"/\∃ xs,SqL K H p xs)\/(T="tuple"/\∃ o,K.lookup p=some o/\o.cls=.type "tuple"/\o.dict=none)\/
   (T="dict"/\((∃ GA,H p=some (.dK GA))\/∃ GA,H p=some (.dT GA)))\/(T="set"/\∃ S n,H p=some (.set S n))
 | _=>False
theorem zr{Gx:List (Addr × Obj)}{σ:St}{H:Hp}{s:Shared}{T:String}{x:V}{v:Value}(I:Inv X Gx σ H s)(r:RelV x v)(ty:tyV X.K T x H):
  s.TypeIs v T/\∀ a,v=.ref a->∃ ob,s.heap.get? a=some ob/\ob.dict=none:=by
 cases x with
 | str z=>
  obtain⟨t,rfl⟩:=r;cases (show T="str" from ty);exact⟨Jb s z t,fun _ e=>nomatch e⟩
 | int i=>
  obtain⟨t,rfl⟩:=r;cases (show T="int" from ty);exact⟨typeIs_int s i t,fun _ e=>nomatch e⟩
 | ref p=>
  cases r;rcases ty with ⟨rfl,xs,hq⟩ | ⟨rfl,o,hk,hc,hd⟩ | ⟨rfl,hk⟩ | ⟨rfl,S,n,hk⟩
  . obtain⟨GB,_,pl,_⟩:=I.list hq;refine⟨pl.isList.typeIs,fun a e=>?_⟩;cases e;obtain⟨o,n,e,c,hd,_⟩:=pl;exact⟨o,e,hd⟩
  . refine⟨⟨o,I.kIn p o hk,hc⟩,fun a e=>?_⟩;cases e;exact⟨o,I.kIn _ o hk,hd⟩
  . have z:∃ o,s.heap.get? p=some o/\o.ExactDict:=by
     rcases hk with ⟨GA,hk⟩ | ⟨GA,hk⟩
     . obtain⟨_,_,_,_,o,_,_,e,ex,_⟩:=I.hok p _ hk;exact⟨o,e,ex⟩
     . obtain⟨_,_,_,_,o,_,_,e,ex,_⟩:=I.hok p _ hk;exact⟨o,e,ex⟩
    obtain⟨o,e,ex⟩:=z;refine⟨⟨o,e,ex.1⟩,fun a e2=>?_⟩;cases e2;exact⟨o,e,ex.2.1⟩
  . obtain⟨o,_,_,_,e,ex,_⟩:=I.hok p _ hk;refine⟨⟨o,e,ex.1⟩,fun a e2=>?_⟩;cases e2;exact⟨o,e,ex.2.1⟩
 | _=>exact False.elim ty
def ye(K:Frag)(T:String)(r:V->List V->Hp->VK->Prop)(to:TE):TE:=fun σ H Q=>to σ H fun x H1=>tyV K T x H1/\r x [] H1 Q
def tBM(K:Frag)(T:String)(r:V->List V->Hp->VK->Prop)(to:TE)(t:TA):TE:=fun σ H Q=>to σ H fun x H1=>tyV K T x H1/\t σ H1 fun xs H2=>r x xs H2 Q
variable{o e:Expr}{es:List Expr}{to:TE}{t:TA}{name:Str}{apos cpos:Pos}{T id:String}{r:V->List V->Hp->VK->Prop}
def zt (pa:PlainAttrs T) (slot:Slot T name id) (hty:typeOf (.builtin id)=pure (.type "method_descriptor")) (hm:MtR X id r) (ho:PE X o to)
  (hbase:attributeBase o name X.env (eval o X.env)=eval o X.env:=by rfl) (hline:(apos.endLine==cpos.line)=true:=by rfl):PE X (.Call (.Attribute o name apos) [] [] cpos) (ye X.K T r to):=by
 intro Gx s σ H Q I h;refine wpAny_Call_method0_late hbase hline (thn (ho Gx s σ H _ I h) fun v s1 ⟨x,H1,I1,r1,ty,q1⟩=>?_);obtain⟨h1,h2⟩:=zr I1 r1 ty;exact⟨T,id,pa,slot,hty,h1,h2,JV rfl (PySem.evalArgs_none (hm Gx s1 σ H1 x [] v [] Q I1 r1 .nil q1))⟩
def c6 (pa:PlainAttrs T) (slot:Slot T name id) (hty:typeOf (.builtin id)=pure (.type "method_descriptor")) (hm:MtR X id r) (ho:PE X o to) (ha:PA X (e::es) t)
  (hbase:attributeBase o name X.env (eval o X.env)=eval o X.env:=by rfl)
  (hfew:((backTo cpos (starEach (e::es) X.env)).all (fun x=>!x.1)&&(backToKw cpos (keywordEach [] X.env)).all (fun x=>x.1.isSome)
   &&decide ((e::es).length+([]:List Keyword).length+(if ([]:List Keyword).isEmpty then 0 else 1)<30))=true:=by rfl)
  (hline:(apos.endLine==cpos.line)=true:=by rfl) (hs:starEach (e::es) X.env=(false,eval e X.env)::starEach es X.env:=by rfl) (hplain:(backTo cpos (starEach es X.env)).any (·.1)=false:=by rfl):
  PE X (.Call (.Attribute o name apos) (e::es) [] cpos) (tBM X.K T r to t):=by
 intro Gx s σ H Q I h;refine wpAny_Call_method_late hbase hfew hline rfl (thn (ho Gx s σ H _ I h) fun v s1 ⟨x,H1,I1,r1,ty,q1⟩=>?_);obtain⟨h1,h2⟩:=zr I1 r1 ty;refine⟨T,id,pa,slot,hty,h1,h2,?_⟩;have hA:=ha cpos Gx s1 σ H1 _ I1 q1;rw[hs] at hA ⊢;refine JV (by show(false||(backTo cpos (starEach es X.env)).any (·.1))=false;rw[hplain] <;> rfl) (Calls.evalArgs_plain ?_);exact thn hA fun us s2 ⟨vs,H2,I2,r2,q2⟩=>hm Gx s2 σ H2 x vs v us Q I2 r1 r2 q2
end
def MtM(X:Cx)(id:String)(r:V->List V->Hp->VK->Prop):Prop:=
 ∀(Gx:List (Addr × Obj)) (s:Shared) (σ:St) (H:Hp) (x:V) (xs:List V) (v:Value) (us:List Value) (Q:VK),Inv X Gx σ H s->RelV x v->Vals xs us->r x xs H Q->
  wpAny (model X.prog X.w) X.A (call (.builtin id) (v::us)) (EP X Gx σ Q) X.xe s
theorem Vals.one:∀{x:V} {us:List Value},Vals [x] us->∃ u,us=[u]/\RelV x u
 | _,_,.cons r .nil=>⟨_,rfl,r⟩
theorem Vals.eraseIdx:∀{xs:List V} {us:List Value} (i:Nat),Vals xs us->Vals (xs.eraseIdx i) (us.eraseIdx i)
 | _,_,_,.nil=>.nil
 | _,_,0,.cons _ t=>t
 | _,_,i+1,.cons r t=>.cons r (Vals.eraseIdx i t)
theorem Vals.rep{xs:List V}{us:List Value}(h:Vals xs us):∀ k:Nat,Vals (List.replicate k xs).flatten (List.replicate k us).flatten
 | 0=>.nil
 | k+1=>by
  rw[Iu,Iu,IS,IS];exact Vals.append h (Vals.rep h k)
theorem tE{α:Type}:∀(l:List α) (i:Nat),(l.eraseIdx i).length<=l.length
 | [],_=>GP _
 | _::_,0=>Je _
 | _::r,i+1=>Nat.succ_le_succ (tE r i)
theorem tF(GB:List Value):∀(k:Nat) (acc:List Value),
  List.foldl (fun x1 x2=>x1++x2) acc.toArray (List.replicate k GB.toArray)=(acc++(List.replicate k GB).flatten).toArray
 | 0,acc=>by simp
 | k+1,acc=>by
  have e:acc.toArray++GB.toArray=(acc++GB).toArray:=by simp
  have e2:(acc++GB)++(List.replicate k GB).flatten=acc++(List.replicate (k+1) GB).flatten:=by
   rw[Iu,IS,JH]
  rw[← e2,← tF GB k (acc++GB),← e,Iu,HR]
section
variable{X:Cx}{Gx:List (Addr × Obj)}{σ:St}{H:Hp}{s:Shared}{l b:Addr}{xs ys zs:List V}
def Inv.lset {GB its':List Value} {n:Nat} {f:Array Value->Array Value} {t':Nat} (I:Inv X Gx σ H s) (hH:H l=↥xs)
  (e:s.heap.get? l=some {cls:=.type "list",data:=.seq GB.toArray n}) (hf:f GB.toArray=its'.toArray) (hv:Vals ys its') (hz:ys.length<=sizeLine):
  Inv X Gx σ (upd H l (.lst ys)) {s with heap:=s.heap.update l (Obj.mapSeq f),toks:=t'}:=by
 have q:=PySem.IsL.update e f;rw[hf] at q;refine I.write (x:=l) (e:=l) (by rw[hH];exact trivial) (.inl rfl) (fun b' u hb hu=>(Heap.get?_update_other s.heap (Obj.mapSeq f) (JF hb)).trans hu) ⟨_,q⟩ ?_;exact⟨hz,its',_,hv,q⟩
def Inv.lnew{GB:List Value}{t':Nat}(I:Inv X Gx σ H s)(hv:Vals ys GB)(hz:ys.length<=sizeLine):
  Inv X Gx σ (upd H s.heap.objs.size (.lst ys)) {s with heap:=s.heap.push {cls:=.type "list",data:=.seq GB.toArray},toks:=t'}:=
 I.laid (fun _ _ q=>GO _ q) (GP _) ⟨hz,GB,0,hv,G8 _ rfl⟩
def Inv.fresh(I:Inv X Gx σ H s):H s.heap.objs.size=none:=I.hok.fresh (GP _)
def Inv.lstM(I:Inv X Gx σ H s)(hH:H l=↥xs):xs.length<=sizeLine/\∃(GB:List Value) (n:Nat),Vals xs GB/\xs.length=GB.length/\s.heap.get? l=some {cls:=.type "list",data:=.seq GB.toArray n}:=by
 obtain⟨z,GB,n,r,e⟩:=I.hok l _ hH;exact⟨z,GB,n,r,r.length,e⟩
def u6{n:Nat}(h:n<=sizeLine):Builtin.List.listTooLong n=false:=by
 unfold Builtin.List.listTooLong;exact GI #[0]
end
section
variable{X:Cx}
def BR:V->List V->Hp->VK->Prop:=fun x vs H Q=>∃ l xs y,x=.ref l/\vs=[y]/\H l=↥xs/\xs.length<sizeLine/\Q .non (upd H l (.lst (xs++[y])))
def tG:MtM X "list.append" BR:=by
 intro Gx s σ H x vs v us Q I rx rv h;obtain⟨l,xs,y,rfl,rfl,hH,hz,q⟩:=h;cases rx;obtain⟨u,rfl,ru⟩:=rv.one;obtain⟨z,GB,n,r,hl,e⟩:=I.lstM hH;refine IA F.slot_list_append ⟨_,e,rfl⟩ F.entry_list_append (F.args_list_append_2 _ _) (PySem.list_append l GB.toArray n u (by rw[GT];omega)) ⟨e,?_⟩;refine⟨.non,_,I.lset (its':=GB++[u]) hH e (by simp) (r.append (.cons ru .nil)) ?_,rfl,q⟩;rw[Ha,IZ];omega
def BS:V->List V->Hp->VK->Prop:=fun x vs H Q=>∃ l b xs zs,x=.ref l/\vs=[.ref b]/\H l=↥xs/\H b=↥zs/\xs.length+zs.length<=sizeLine/\Q .non (upd H l (.lst (xs++zs)))
def zu:MtM X "list.extend" BS:=by
 intro Gx s σ H x vs v us Q I rx rv h;obtain⟨l,b,xs,zs,rfl,rfl,hH,hB,hz,q⟩:=h;cases rx;obtain⟨u,rfl,ru⟩:=rv.one;cases ru;obtain⟨z,GB,n,r,hl,e⟩:=I.lstM hH;obtain⟨z2,its2,n2,r2,hl2,e2⟩:=I.lstM hB;have hsz:GB.toArray.size+its2.toArray.size<=sizeLine:=by rw[GT,GT];omega
 have hlong:¬ (!GB.toArray.isEmpty&&Builtin.List.listTooLong (GB.toArray.size+its2.toArray.size))=true:=by
  rw[u6 hsz,Bool.and_false];exact GM
 refine IA F.slot_list_extend ⟨_,e,rfl⟩ F.entry_list_extend (F.args_list_extend_2 _ _)
  (AutoSeq1.list_extend_list_list_0 l GB.toArray n b its2.toArray n2 hlong (by rw[GT];omega) #[0]) ⟨e,e2,?_⟩
 refine⟨.non,_,I.lset (its':=GB++its2) hH e (by simp) (r.append r2) ?_,rfl,q⟩;rw[Ha];omega
def CI:V->List V->Hp->VK->Prop:=fun x vs H Q=>∃ l xs i k y,x=.ref l/\vs=[.int i]/\H l=↥xs/\ -(2^63)<=i/\i<2^63/\seqIndex? i xs.length=some k/\xs[k]? =some y/\Q y (upd H l (.lst (xs.eraseIdx k)))
def AN:MtM X "list.pop" CI:=by
 intro Gx s σ H x vs v us Q I rx rv h;obtain⟨l,xs,i,k,y,rfl,rfl,hH,h1,h2,hk,hy,q⟩:=h;cases rx;obtain⟨u,rfl,ru⟩:=rv.one;obtain⟨t,rfl⟩:=ru;obtain⟨z,GB,n,r,hl,e⟩:=I.lstM hH;obtain⟨w,hw,rw'⟩:=r.get hy
 refine IA F.slot_list_pop ⟨_,e,rfl⟩ F.entry_list_pop (F.args_list_pop_2 _ _)
  (MeetsSeq.list_pop_at l GB.toArray n i t k w (fitsIndex_both h1 h2) (by rw[GT,← hl];exact hk) (by rw[← J5];exact hw) (by rw[GT];omega)) ⟨e,?_⟩
 refine⟨y,_,I.lset (its':=GB.eraseIdx k) hH e ?_ (r.eraseIdx k) ?_,rw',q⟩
 . show GB.toArray.eraseIdxIfInBounds k=(GB.eraseIdx k).toArray;rw[List.eraseIdxIfInBounds_toArray]
 . have:=tE xs k;omega
def rCat:R2:=fun x y H Q=>∃ l b xs zs,x=.ref l/\y=.ref b/\H l=↥xs/\H b=↥zs/\xs.length+zs.length<=sizeLine/\∀ p,H p=none->Q (.ref p) (upd H p (.lst (xs++zs)))
def CJ:OpR X (binaryOp .Add) rCat:=by
 intro Gx s σ H x y v u Q I rx ry h;obtain⟨l,b,xs,zs,rfl,rfl,hH,hB,hz,q⟩:=h;cases rx;cases ry;obtain⟨z,GB,n,r,hl,e⟩:=I.lstM hH;obtain⟨z2,its2,n2,r2,hl2,e2⟩:=I.lstM hB;refine PySem.P.add_list e e2 ?_ (by rw[GT,GT];omega);have ea:GB.toArray++its2.toArray=(GB++its2).toArray:=by simp
 rw[ea];exact⟨.ref _,_,I.lnew (t':=s.toks) (r.append r2) (by rw[Ha];omega),rfl,q _ I.fresh⟩
def rRep:R2:=fun x y H Q=>∃ l k xs,x=.ref l/\y=.int k/\H l=↥xs/\ -(2^63)<=k/\k<2^63/\xs.length*k.toNat<=sizeLine/\
 ∀ p,H p=none->Q (.ref p) (upd H p (.lst (List.replicate k.toNat xs).flatten))
theorem BT{α:Type}(xs:List α)(k:Nat):(List.replicate k xs).flatten.length=k*xs.length:=by
 induction k with
 | zero=>simp
 | succ k ih=>rw[Iu,IS,Ha,ih,Kg,Nat.add_comm]
def CK:OpR X (binaryOp .Mult) rRep:=by
 intro Gx s σ H x y v u Q I rx ry h;obtain⟨l,k,xs,rfl,rfl,hH,h1,h2,hz,q⟩:=h;cases rx;obtain⟨t,rfl⟩:=ry;obtain⟨z,GB,n,r,hl,e⟩:=I.lstM hH;have GD:GB.toArray.size*k.toNat<=sizeLine:=by rw[GT,← hl];exact hz
 have hcap:¬ GB.toArray.size*k.toNat > (2^63-1)/8:=by
  have:(sizeLine:Nat)<=(2^63-1)/8:=by decide
  omega
 have hfit:¬ (!Builtin.List.listFitsIndex k)=true:=by
  rw[fitsIndex_both h1 h2];exact GM
 have hlong:¬ Builtin.List.listTooLong (GB.toArray.size*k.toNat)=true:=by
  rw[u6 GD];exact GM
 have hnew:List.foldl (fun x1 x2=>x1++x2) #[] (List.replicate (if GB.toArray.isEmpty=true then 0 else k.toNat) GB.toArray)=(List.replicate k.toNat GB).flatten.toArray:=by
  have f0:∀ m:Nat,List.foldl (fun x1 x2=>x1++x2) #[] (List.replicate m GB.toArray)=(List.replicate m GB).flatten.toArray:=fun m=>by
   have:=tF GB m [];rw[List.nil_append] at this;exact this
  rw[f0]
  cases GB with
  | nil=>simp
  | cons a r'=>rw[G3 (by simp)]
 refine wpAny_binaryOp_repeat_ref (T:="list") (U:="int") #[1] ⟨_,e,rfl⟩ (fun s'=>typeIs_int s' k t) noFill_list_mul F.fills_int_mul F.slot_int_rmul repeat_list F.slot_int_index.lookup
  (IA F.slot_int_rmul (typeIs_int s k t) F.entry_int_rmul (F.args_int_rmul_2 _ _) (int___rmul___int_list k t l GB.toArray n)
   ⟨e,rfl,⟨_,e,rfl⟩,IA F.slot_list_mul ⟨_,e,rfl⟩ F.entry_list_mul (F.args_list_mul_2 _ _) (AutoListH.list___mul___list_int_3 l GB.toArray n k t hfit hcap hlong) ⟨e,?_⟩⟩)
 rw[hnew];exact⟨.ref _,_,I.lnew (t':=s.toks) (r.rep k.toNat) (by rw[BT,Nat.mul_comm];exact hz),rfl,q _ I.fresh⟩
end
end L2
namespace Att
open PySem PySem.W PySem.Calls PyProof.Rows
theorem ints_of_wellAll{P:Params}{h:Heap}:∀(ns:∅) (vs:List Value),WellAll P h vs (ns.map WData.int)->IntsAre vs ns:=by
 intro ns
 induction ns with
 | nil=>
  intro vs w;rw[List.map_nil] at w;cases w;exact .nil
 | cons n ns ih=>
  intro vs w;rw[List.map_cons] at w
  cases w with
  | cons a b=>
   cases a;exact .cons _ _ (ih _ b)
theorem script_of {l:OpenLaw} {n:Nat} (hn:l.most=some n) {P:Params} {h:Heap} {args:List WData} {vals:List Value}
  (hpre:l.row.toRowW.claim.pre args=true) (hwl:WellAll P h vals args):
  ∃ a vs ns,vals=[Value.ref a]/\args=[WData.list (ns.map WData.int)]/\h.get? a=some {cls:=.type "list",data:=.seq vs.toArray}/\IntsAre vs ns/\ns.length<=n:=by
 have hsh:WShape.hasAll [] args [.list .int]=true:=(pre_splitW hpre).1;have hc:l.pre.holds [] {args:=args}=true:=(pre_splitW hpre).2;obtain⟨d,r,rfl,h1,h2⟩:=hasAllW_cons hsh;obtain rfl:=hasAllW_nil h2;obtain⟨xs,rfl,h3⟩:=hasW_list h1;obtain⟨ns,rfl⟩:=items_int h3
 have GD:ns.length<=n:=by
  unfold OpenLaw.pre at hc
  have h4:(WTm.not (.lt (.lit (.int (n:Int))) (.len (.arg 0)))).holds [] {args:=[.list (ns.map .int)]}=true:=by
   have h4:=(holds_andW hc).1;rw[hn] at h4;exact h4
  have h5:=condW_of h4 (w_not (w_lt w_lit (w_len_list (w_arg rfl))));rw[List.length_map] at h5;refine Nat.le_of_not_lt fun q=>?_;have q':(n:Int) < ((ns.length:Nat):Int):=by omega
  first
   | (rw[decide_eq_true q'] at h5;exact absurd h5 #[1])
   | (simp at h5;omega)
 cases hwl with
 | cons w1 w2=>
  cases w2
  cases w1 with
  | list ho hall=>exact⟨_,_,ns,rfl,rfl,ho,ints_of_wellAll ns _ hall,GD⟩
def post_true(l:OpenLaw)(args:List WData):l.row.toRowW.claim.post args (.bool true) args=true:=
 postW_of (r:=l.row.toRowW) (X:=(true==true))
  (show WShape.has [] (.bool true) .bool=true by first | rfl | decide | simp[WShape.has,WShape.arms,WShape.armsAll])
  (show(WTm.eq .res (.lit (.bool true))).value [] {args:=args,res:=some (.bool true),after:=args}=some (.bool (true==true)) from w_eq_bool (w_res rfl) w_lit) rfl
def attach_call {l:OpenLaw} {n:Nat} {q:Program} {loose:List Str} {XP:(Str->Option Value)->Heap->Prop} {YP:World->Heap->Prop} {d:DefRec}
  (hn:l.most=some n) (hdf:d.params.defaults=[])
  (call:∀(w:World) (s₀ s₁:Shared) (mg mb:Str->Option Value) (fa:Addr) (o:Obj) (pm cd doc:Value) (a:Addr) (vs:List Value) (ns:∅),
   Ground q loose [] XP w s₀ mg mb s₁.heap->YP w s₁.heap->
   s₁.heap.get? fa=some o->o.data=.func (docDef d.name d.params d.body d.scope pm cd doc)->s₁.heap.CodeRec cd d.name->mg d.name=↑fa->
   s₁.heap.get? a=some {cls:=.type "list",data:=.seq vs.toArray}->IntsAre vs ns->ns.length<=n->s₁.gens=#[]->
   codeAny (model l.prog w) callerA (.call (.ref fa) ⟨[.ref a],[]⟩) (fun r s'=>r=.ok (.ret (.bool true))/\OldK s₁.heap s'.heap/\s'.os=s₁.os/\AllBare s'.gens) s₁):
  WalkO q loose XP YP l.row.toRowW d [] (fun f vs=>PySem.call f vs):=by
 intro w s₀ s₁ mg mb G Y fa o pm cd doc dV kV ho hd hcd hD hmg hg args vals as hpre hlay hrd hwl hlo;obtain rfl:dV=.none:=Dflts.none hD hdf;obtain rfl:kV=.none:=Dflts.noKw hD;obtain⟨a,vs,ns,rfl,rfl,hobj,hints,GD⟩:=script_of hn hpre hwl;refine enter_call (codeAny_mono (call w s₀ s₁ mg mb fa o pm cd doc a vs ns G Y ho (fd_plain hd) hcd hmg hobj hints GD hg) fun r s' hq=>?_);obtain⟨rfl,h2,h3,h4⟩:=hq;exact⟨.inl ⟨.bool true,.bool true,[],rfl,fun _=>rfl,.bool true,post_true l _,fun _=>⟨List.Pairwise.nil,fun _ hm=>(nomatch hm)⟩⟩,h2,h3,h4⟩
section
variable{prog:Program}{w:World}{A:Around}{E:Value->Shared->Prop}{s:Shared}{K:Frag}
end
end Att
namespace L2
open PySem PySem.Spec PyProof.Rows
theorem nr:∀{vs:List Value} {ns:∅},IntsAre vs ns->Vals (ns.map V.int) vs
 | _,_,.nil=>.nil
 | _,_,.cons n t h=>.cons ⟨t,rfl⟩ (nr h)
def cM(s:Stmt):Arguments:=match s with
 | .FunctionDef _ a _ _ _ _ _ _ _ _=>a
 | _=>{posonlyargs:=[],args:=[],vararg:=none,kwonlyargs:=[],kw_defaults:=[],kwarg:=none,defaults:=[]}
def bJ(s:Stmt):List Stmt:=match s with
 | .FunctionDef _ _ b _ _ _ _ _ _ _=>b
 | _=>[]
def aJ(s:Stmt):Scope:=match s with
 | .FunctionDef _ _ _ _ _ _ sc _ _ _=>sc
 | _=>{kind:=.function,names:=[],isGenerator:=false,isCoroutine:=false}
abbrev CX0:CXT:=fun _ _ _ _ _ _=>False
abbrev E0:XK:=fun _ _ _=>False
def uK{X:Cx}:nn CX0 X E0:=fun _ _ _ _ _ _ _ h=>h.elim
structure Fun(K:Frag)(x qual:Str)(st:Stmt)(f:Addr)(fd:FuncData):Prop where
 ex:∃(oc:Value) (od:Option Addr) (kV doc pm:Value) (an:Option Addr) (Gz ct:Value) (osl:Array (Option Value)),
  fd=fnOf x qual (cM st) (bJ st) (aJ st) .none kV doc pm an Gz ct/\K.lookup f=some ⟨oc,od,.func fd,osl⟩/\codeIn K Gz qual=true
 kp:keepIn K (.ref f)=true
section
variable{P:Program}{w:World}{K:Frag}{mg:Str->Option Value}{base:Heap}
def Fun.ok {x qual:Str} {st:Stmt} {f:Addr} {fd:FuncData} {N ps:List Str} {k:Nat} {sp:Sp} (F:Fun K x qual st f fd) (S:gz N ps (aJ st)) (len:∀ vs H Q E,sp vs H Q E->vs.length=ps.length)
  (hbody:∀(Gz:Value) (A:Around) (outer:List Env) (s:Shared) (H:Hp) (vs:List V) (Q:VK) (E:XK),Room k (A.deeper (envOfC qual (aJ st) s.heap.objs.size f Gz))->sp vs H Q E->
   ∃ t,PSs (cxOf CX0 P w K mg base N qual (aJ st) f Gz A outer s H E).nox (bJ st) t/\t {nx:=fun _ H'=>Q .non H',rt:=Q} (start N vs) H):FnOk P w K mg base CX0 (k+1) f fd ps sp:=by
 obtain⟨oc,od,kV,doc,pm,an,Gz,ct,osl,rfl,lk,hcd⟩:=F.ex;refine Bs lk hcd S len fun A outer s H vs Q E hr hsp=>?_;obtain⟨t,h,q⟩:=hbody Gz A outer s H vs Q E hr hsp;exact⟨t,h.nox,q⟩
def Fun.binds {x qual:Str} {st:Stmt} {f:Addr} {fd:FuncData} {ps:List Str} (F:Fun K x qual st f fd)
  (h:∀(kV doc pm:Value) (an:Option Addr) (Gz ct:Value) (us:List Value),us.length=ps.length->bindArgs (fnOf x qual (cM st) (bJ st) (aJ st) .none kV doc pm an Gz ct) ⟨us,[]⟩=pure (ps.zip us)):Binds K fd ps []:=by
 obtain⟨oc,od,kV,doc,pm,an,Gz,ct,osl,rfl,lk,hcd⟩:=F.ex;exact .all (h kV doc pm an Gz ct)
def zv {x qual:Str} {st:Stmt} {f:Addr} {oc:Value} {od an:Option Addr} {osl:Array (Option Value)} {kV doc pm Gz ct:Value} (l:K.lookup f=some ⟨oc,od,.func (fnOf x qual (cM st) (bJ st) (aJ st) .none kV doc pm an Gz ct),osl⟩)
  (c:codeIn K Gz qual=true) (k:keepIn K (.ref f)=true):Fun K x qual st f (fnOf x qual (cM st) (bJ st) (aJ st) .none kV doc pm an Gz ct):=⟨⟨oc,od,kV,doc,pm,an,Gz,ct,osl,rfl,l,c⟩,k⟩
end
def ay{n:Nat}(h:n<=1000):n<sizeLine:=HU h #[1]
section
variable{X:Cx}
def pv (i:Nat) {x:Str} {pos:Pos} (hN:X.N[i]? =some x:=by rfl) (hv:Vis X.env.scope x:=by first | exact Or.inl rfl | exact Or.inr (Or.inl rfl) | exact Or.inr (Or.inr rfl)) (hd:(x==("__debug__":Str))=false:=by decide)
  (hcd:(x==("__classdict__":Str))=false:=by decide):PE X (.Name x pos) (tVar i):=Cs hN hv hd hcd
end
def iteF{A B:Prop}(h:B):if false=true then A else B:=by
 rw[G3 GM];exact h
def iteT{A B:Prop}(h:A):if true=true then A else B:=by
 rw[G9 rfl];exact h
def Same(H H':Hp):Prop:=∀ b o,H b=some o->H' b=some o
def Same.refl(H:Hp):Same H H:=fun _ _ h=>h
abbrev GJ:=@Same.refl
def Same.trans{H H1 H2:Hp}(a:Same H H1)(b:Same H1 H2):Same H H2:=fun c o h=>b c o (a c o h)
theorem Same.free{H H':Hp}(e:Same H H'){l:Addr}(h:H' l=Option.none):H l=Option.none:=by
 cases q:H l with
 | none=>rfl
 | some o=>
  rw[e l o q] at h;cases h
def Same.seq{K:Frag}{H H':Hp}{a:Addr}{xs:List V}(e:Same H H')(h:SqL K H a xs):SqL K H' a xs:=by
 rcases h with (h | ⟨o,h⟩) | h
 . exact .inl (.inl (e _ _ h))
 . exact .inl (.inr ⟨o,e _ _ h⟩)
 . exact .inr h
section
variable{κ:Type}[DecidableEq κ]
def valV(GA:List (κ × V))(k:κ):Option V:=(GA.find? fun kv=>decide (kv.1=k)).map (·.2)
def putK(GA:List (κ × V))(k:κ)(v:V):List (κ × V):=
 if (GA.any fun kv=>decide (kv.1=k))=true then GA.map (fun kv=>if kv.1=k then(kv.1,v) else kv) else GA++[(k,v)]
def u7{p:κ × V}{r:List (κ × V)}{k:κ}(e:p.1=k):valV (p::r) k=some p.2:=by simp[valV,Im,e]
def u8{p:κ × V}{r:List (κ × V)}{k:κ}(e:¬ p.1=k):valV (p::r) k=valV r k:=by simp[valV,Im,e]
theorem RelO.isSome_eq{o:Option V}{u:Option Value}(r:RelO o u):o.isSome=u.isSome:=by
 cases o with
 | none=>cases u with
  | none=>rfl
  | some _=>exact(show False from r).elim
 | some _=>cases u with
  | none=>exact(show False from r).elim
  | some _=>rfl
theorem KV.val{GA:List (κ × V)}{vs:List (κ × Value)}(r:KV GA vs)(k:κ):RelO (valV GA k) (valueAt vs k):=by
 unfold KV at r
 induction r with
 | nil=>exact True.intro
 | @cons p q ps qs h t ih=>
  obtain⟨h1,h2⟩:=h;by_cases e:p.1=k
  . have e':q.1=k:=h1.symm.trans e;have b:valueAt (q::qs) k=some q.2:=by simp[valueAt,Im,e']
    rw[u7 e,b];exact h2
  . have e':¬ q.1=k:=fun z=>e (h1.trans z);have b:valueAt (q::qs) k=valueAt qs k:=by simp[valueAt,Im,e']
    rw[u8 e,b];exact ih
def KV.length{GA:List (κ × V)}{vs:List (κ × Value)}(r:KV GA vs):GA.length=vs.length:=Paired.length r
end
theorem uL{P:Program}{w:World}{k:Key}{u:Value}(r:RelV (kV k) u):(fi P w).is k u=true:=by
 cases k with
 | inl i=>obtain⟨t,e⟩:=(show ∃ t,u=Value.int i t from r);subst e;exact wv P w i t
 | inr x=>obtain⟨t,e⟩:=(show ∃ t,u=Value.str x t from r);subst e;exact ww P w x t
theorem tH{P:Program}{w:World}:∀{ks:List Key} {us:List Value},Vals (ks.map kV) us->ItemsAre (fi P w) ks us
 | [],_,r=>by rw[List.map_nil] at r;cases r;exact .nil
 | k::ks,_,r=>by
  rw[Hd] at r
  cases r with
  | cons h t=>exact .cons (uL h) (tH t)
abbrev KT(H:Hp):List (List Key × V)->List (List Key × Addr × Value)->Prop:=Paired fun p q=>p.1=q.1/\H q.2.1=some (.tup (p.1.map kV))/\RelV p.2 q.2.2
variable{H:Hp}
theorem KT.val{GA:List (List Key × V)}{xs:List (List Key × Addr × Value)}(r:KT H GA xs)(k:List Key):RelO (valV GA k) ((atKey xs k).map (·.2)):=by
 induction r with
 | nil=>exact True.intro
 | @cons p q ps qs h t ih=>
  obtain⟨h1,_,h2⟩:=h;by_cases e:p.1=k
  . have e':q.1=k:=h1.symm.trans e;have b:atKey (q::qs) k=some q.2:=by simp[atKey,Im,e']
    rw[u7 e,b];exact h2
  . have e':¬ q.1=k:=fun z=>e (h1.trans z);have b:atKey (q::qs) k=atKey qs k:=by simp[atKey,Im,e']
    rw[u8 e,b];exact ih
section
variable{P:Program}{w:World}{H:Hp}{h:Heap}{a:Addr}
def Bu{u:HO}(ok:HOk P w H h)(e:Rd H a u):ObjOk P w H h a u:=e.ok ok
def qw{GA:List (Key × V)}(ok:HOk P w H h)(e:Rd H a (.dK GA)):GA.length<=sizeLine/\(a==sysModules)=false/\∃ vs,KV GA vs/\h.DictOf (fi P w) a vs:=
 show ObjOk P w H h a (.dK GA) from Bu ok e
def qx{ks:List Key}(ok:HOk P w H h)(e:H a=some (.tup (ks.map kV))):(tupleKind (fi P w)).is h ks a:=by
 obtain⟨_,GB,r,o,h1,h2,n,h3⟩:=(show ObjOk P w H h a (.tup (ks.map kV)) from ok a _ e);exact⟨o,GB.toArray,n,h1,h2,h3,by simpa using tH r⟩
def uM{GA:List (List Key × V)}(ok:HOk P w H h)(e:Rd H a (.dT GA)):GA.length<=sizeLine/\(a==sysModules)=false/\
  ∃ xs,KT H GA xs/\h.DictOfH (tupleKind (fi P w)) a xs:=by
 obtain⟨z,y,xs,r,o,es,ep,h1,h2,h3,h4,h5⟩:=(show ObjOk P w H h a (.dT GA) from Bu ok e);refine⟨z,y,xs,r,o,es,ep,h1,h2,h3,h4,fun x hx=>?_,h5⟩
 have all:∀{l:List (List Key × V)} {m:List (List Key × Addr × Value)},KT H l m->∀ x∈m,(tupleKind (fi P w)).is h x.1 x.2.1:=by
  intro l m q
  induction q with
  | nil=>intro x hx;exact nomatch hx
  | @cons p q ps qs hq t ih=>
   intro x hx;rcases GU.mp hx with e | hx
   . subst e;exact qx ok (by rw[← hq.1];exact hq.2.1)
   . exact ih x hx
 exact all r x hx
end
def DGet(H:Hp)(a:Addr)(y:V)(r:Option V):Prop:=
 (∃ GA k,Rd H a (.dK GA)/\y=kV k/\r=valV GA k)\/∃ GA k b,Rd H a (.dT GA)/\y=.ref b/\H b=some (.tup (k.map kV))/\r=valV GA k
def DPut(H:Hp)(a:Addr)(y v:V)(H':Hp):Prop:=
 (∃ GA k,H a=some (.dK GA)/\y=kV k/\GA.length<sizeLine/\H'=upd H a (.dK (putK GA k v)))\/
 ∃ GA k b,H a=some (.dT GA)/\y=.ref b/\H b=some (.tup (k.map kV))/\GA.length<sizeLine/\H'=upd H a (.dT (putK GA k v))
theorem DGet.k{a:Addr}{GA:List (Key × V)}{k:Key}(e:H a=some (.dK GA)):DGet H a (kV k) (valV GA k):=.inl ⟨GA,k,.inl e,rfl,rfl⟩
section
variable{X:Cx}{Gx:List (Addr × Obj)}{σ:St}{H:Hp}{s:Shared}{a:Addr}{y v:V}{u r:Value}{o:Option V}{A:Around}{E:Value->Shared->Prop}
def zw{Q:Value->Shared->Prop}(hu:A.units+1<cLine)(I:Inv X Gx σ H s)(g:DGet H a y (some v))(ry:RelV y u)(h:∀ w' s',Inv X Gx σ H s'->RelV v w'->Q w' s'):
  wpAny (model X.prog X.w) A (getItem (.ref a) u) Q E s:=by
 rcases g with ⟨GA,k,e,ey,l⟩ | ⟨GA,k,b,e,ey,eb,l⟩
 . subst ey;obtain⟨z,hd,vs,rel,dd⟩:=qw I.hok e;obtain⟨w',hw,rw'⟩:=Kd (v:=v) (o:=valueAt vs k) (by rw[l];exact rel.val k);exact wpAny_getItem_of (uL ry) dd.mapOf hw (h w' _ (I.tok _) rw')
 . subst ey;cases (show u=Value.ref b from ry);obtain⟨z,hd,xs,rel,dd⟩:=uM I.hok e;obtain⟨w',hw,rw'⟩:=Kd (v:=v) (o:=(atKey xs k).map (·.2)) (by rw[l];exact rel.val k);obtain⟨p,hp,hp2⟩:=IT.mp hw;refine wpAny_getItem_heap (Jx hu) (qx I.hok eb) dd hp ?_;rw[hp2];exact h w' _ (I.tok _) rw'
def DS{Q:Value->Shared->Prop}(hu:A.units+1<cLine)(I:Inv X Gx σ H s)(g:DGet H a y o)(ry:RelV y u)(h:∀ s',Inv X Gx σ H s'->Q (.bool o.isSome) s'):
  wpAny (model X.prog X.w) A (compareOp .In u (.ref a)) Q E s:=by
 rcases g with ⟨GA,k,e,ey,l⟩ | ⟨GA,k,b,e,ey,eb,l⟩
 . subst ey;obtain⟨z,hd,vs,rel,dd⟩:=qw I.hok e;refine wpAny_in_of (uL ry) hd dd.mapOf ?_;rw[← (rel.val k).isSome_eq,← l];exact h _ (I.tok _)
 . subst ey;cases (show u=Value.ref b from ry);obtain⟨z,hd,xs,rel,dd⟩:=uM I.hok e;refine wpAny_in_heap (Jx hu) (qx I.hok eb) hd dd ?_;have q:=(rel.val k).isSome_eq;rw[Option.isSome_map] at q;rw[← q,← l];exact h _ (I.tok _)
def BU{Q:Value->Shared->Prop}(hu:A.units+1<cLine)(I:Inv X Gx σ H s)(g:DGet H a y o)(ry:RelV y u)(h:∀ s',Inv X Gx σ H s'->Q (.bool (!o.isSome)) s'):
  wpAny (model X.prog X.w) A (compareOp .NotIn u (.ref a)) Q E s:=by
 rcases g with ⟨GA,k,e,ey,l⟩ | ⟨GA,k,b,e,ey,eb,l⟩
 . subst ey;obtain⟨z,hd,vs,rel,dd⟩:=qw I.hok e;refine wpAny_notIn_of (uL ry) hd dd.mapOf ?_;rw[← (rel.val k).isSome_eq,← l];exact h _ (I.tok _)
 . subst ey;cases (show u=Value.ref b from ry);obtain⟨z,hd,xs,rel,dd⟩:=uM I.hok e;refine wpAny_notIn_heap (Jx hu) (qx I.hok eb) hd dd ?_;have q:=(rel.val k).isSome_eq;rw[Option.isSome_map] at q;rw[← q,← l];exact h _ (I.tok _)
end
section
variable{X:Cx}{Gx:List (Addr × Obj)}{σ:St}{H:Hp}{s:Shared}{a:Addr}{GA:List (Key × V)}{k:Key}{u:Value}{A:Around}{E:Value->Shared->Prop}
def DC{Q:Value->Shared->Prop}(I:Inv X Gx σ H s)(e:Rd H a (.dK GA))(h:∀ t s',Inv X Gx σ H s'->Q (.int GA.length t) s'):wpAny (model X.prog X.w) A (call (.builtin "len") [.ref a]) Q E s:=by
 obtain⟨z,hd,vs,rel,dd⟩:=qw I.hok e;refine call_len_dict hd dd (by rw[← rel.length];rw[sizeLine_eq] at z;omega) ?_;rw[← rel.length];exact h _ _ (I.tok _)
end
def wx{X:Cx}{Gx:List (Addr × Obj)}{σ:St}{s:Shared}{a:Addr}{y:V}{o:Option V}(I:Inv X Gx σ H s)(g:DGet H a y o):s.TypeIs (.ref a) "dict":=by
 rcases g with ⟨GA,k,e,_,_⟩ | ⟨GA,k,b,e,_,_,_⟩
 . obtain⟨_,_,vs,_,dd⟩:=qw I.hok e;exact dd.typeIs
 . obtain⟨_,_,xs,_,dd⟩:=uM I.hok e;exact dd.typeIs
def sDPut(td ty tv:TE):TS:=fun D σ H=>tv σ H fun v H1=>td σ H1 fun x H2=>ty σ H2 fun y H3=>∃ a H4,x=.ref a/\DPut H3 a y v H4/\D.nx σ H4
def CL:TE:=fun _ H Q=>∀ p,H p=none->Q (.ref p) (upd H p (.dK []))
section
variable{X:Cx}
def zx:CallR X (.builtin "len") (fun xs H Q=>∃ a GA,xs=[V.ref a]/\H a=some (.dK GA)/\Q (.int GA.length) H):=by
 intro Gx s σ H xs us Q I r h;obtain⟨a,GA,rfl,ha,q⟩:=h;obtain⟨u,rfl,ru⟩:=c5 r;cases ru;exact DC I (.inl ha) fun t s' I'=>⟨.int GA.length,H,I',⟨t,rfl⟩,q⟩
end
theorem cN{α:Type}(x:Str):∀(a b:List (Str × α)),(a++b).lookup x=match a.lookup x with | some c=>some c | none=>b.lookup x
 | [],b=>rfl
 | (k,v)::r,b=>by
  rw[List.cons_append,Hw,Hw]
  cases x==k with
  | true=>rfl
  | false=>exact cN x r b
theorem iW:∀(names:List (Str × NameKind)) (n:Nat) (acc cl:List (Str × Addr)),cellsFrom n names (acc++cl)=cellsFrom n names acc++cl
 | [],_,_,_=>rfl
 | (y,k)::r,n,acc,cl=>by
  unfold cellsFrom
  split
  . rw[← List.cons_append];exact iW r _ _ cl
  . exact iW r _ _ cl
theorem gf{x:Str}{c:Addr}:∀(names:List (Str × NameKind)) (n:Nat) (acc:List (Str × Addr)),(x,c)∈cellsFrom n names acc->(x,NameKind.cell)∈names\/(x,c)∈acc
 | [],_,_,h=>.inr h
 | (y,k)::r,n,acc,h=>by
  unfold cellsFrom at h
  split at h
  . rename_i hk
    have hk:k=.cell:=by simpa using hk
    subst hk;rcases gf r _ _ h with z | z
    . exact .inl (GR _ z)
    . rcases GU.mp z with z | z
      . cases z;exact .inl GV
      . exact .inr z
  . rcases gf r _ _ h with z | z
    . exact .inl (GR _ z)
    . exact .inr z
theorem md {env:Env} (f:Str × NameKind->List (Str × Addr)->Sem (ForInStep (List (Str × Addr))))
  (hf:∀ name kind cs,f (name,kind) cs=if kind==.free then(do let a ← cellOf env name;pure (.yield ((name,a)::cs))) else pure (.yield cs)):
  ∀(names:List (Str × NameKind)) (acc:List (Str × Addr)),(∀ x,(x,NameKind.free)∈names->∃ c,env.cells.lookup x=some c)->(∀ x c,acc.lookup x=some c->env.cells.lookup x=some c)->
   ∃ cl,forIn names acc f=(pure cl:Sem _)/\(∀ x c,cl.lookup x=some c->env.cells.lookup x=some c)/\(∀ x,((x,NameKind.free)∈names\/∃ c,acc.lookup x=some c)->∃ c,cl.lookup x=some c)
 | [],acc,_,h2=>⟨acc,rfl,h2,fun x h=>h.elim (fun z=>nomatch z) id⟩
 | (y,k)::r,acc,h1,h2=>by
  rw[List.forIn_cons,hf];by_cases hk:(k==NameKind.free)=true
  . rw[G9 hk];have hk':k=.free:=by simpa using hk
    subst hk';obtain⟨c,hc⟩:=h1 y GV;have e:(cellOf env y:Sem Addr)=pure c:=by unfold cellOf;rw[hc]
    rw[e]
    obtain⟨cl,e1,e2,e3⟩:=md f hf r ((y,c)::acc) (fun x hx=>h1 x (GR _ hx)) (fun x c' hx=>by
     rw[Hw] at hx
     cases hb:x==y with
     | true=>rw[hb] at hx;cases hx;rw[IF.mp hb];exact hc
     | false=>rw[hb] at hx;exact h2 x c' hx)
    refine⟨cl,?_,e2,fun x hx=>e3 x ?_⟩
    . exact e1
    . rcases hx with hx | ⟨c',hx⟩
      . rcases GU.mp hx with z | z
        . cases z;exact .inr ⟨c,by rw[Hw];simp⟩
        . exact .inl z
      . cases hb:x==y with
        | true=>exact .inr ⟨c,by rw[Hw,hb]⟩
        | false=>exact .inr ⟨c',by rw[Hw,hb];exact hx⟩
  . rw[G3 hk];obtain⟨cl,e1,e2,e3⟩:=md f hf r acc (fun x hx=>h1 x (GR _ hx)) h2;refine⟨cl,e1,e2,fun x hx=>e3 x ?_⟩;rcases hx with hx | hx
    . rcases GU.mp hx with z | z
      . cases z;exact absurd rfl hk
      . exact .inl z
    . exact .inr hx
variable{scope:Scope}
def qy{env:Env}(h:∀ x,(x,NameKind.free)∈scope.names->∃ c,env.cells.lookup x=some c):
  ∃ cl,closureFor scope env=pure cl/\(∀ x c,cl.lookup x=some c->env.cells.lookup x=some c)/\∀ x,(x,NameKind.free)∈scope.names->∃ c,cl.lookup x=some c:=by
 obtain⟨cl,e1,e2,e3⟩:=md (env:=env) (fun x cs=>match x with | (name,kind)=>if kind==.free then(do let a ← cellOf env name;pure (.yield ((name,a)::cs))) else pure (.yield cs)) (fun _ _ _=>rfl) scope.names [] h (fun x c hx=>nomatch hx);refine⟨cl,?_,e2,fun x hx=>e3 x (.inl hx)⟩
 have:closureFor scope env=(forIn scope.names [] (fun x cs=>match x with | (name,kind)=>if kind==.free then(do let a ← cellOf env name;pure (.yield ((name,a)::cs))) else pure (.yield cs)) >>= fun cs=>pure cs):=by
  simp only[closureFor]
 rw[this,e1];rfl
def zy(scope:Scope)(cl:List (Str × Addr))(C:Addr)(env:Env):Env:=
 {newEnv scope C env.globals (cellsFrom (C+1) scope.names cl) env.qual none .none (some env) builtinsNs with scope:=relabel scope env}
def AO {M:Model} {A:Around} {E:Value->Shared->Prop} {s:Shared} {cl:List (Str × Addr)} {env:Env} {Q:Env->Shared->Prop}
  (hQ:Q (newEnv scope s.heap.objs.size env.globals (cellsFrom (s.heap.objs.size+1) scope.names cl) env.qual none .none (some env) builtinsNs) {s with heap:=pushCells (s.heap.push {cls:=.type "dict",data:=.dict #[]}) scope.names}):
  wpAny M A (newFunctionEnv scope env.globals cl [] env.qual none .none (some env)) Q E s:=by
 simp only[newFunctionEnv,Option.isSome_some,Kf];refine Hl (wpAny_alloc ?_);refine Hl (wpAny_layCells _ (fun name kind cells=>by cases hkc:kind==NameKind.cell <;> simp[hkc]) _ _ _ _ ?_);rw[show({s with heap:=s.heap.push {cls:=.type "dict",data:=.dict #[]}}:Shared).heap.objs.size=s.heap.objs.size+1 from Ik ..];refine Hl ?_;rw[List.forIn_nil];exact HE (HE hQ)
section
variable{prog:Program}{w:World}{A:Around}{E:Value->Shared->Prop}{R:Result->Shared->Prop}{s:Shared}
theorem zA {elt target iter:Expr} {ifs:List Expr} {scope:Scope} {pos:Pos} {it acc:Value} {env:Env} (I:Nat->Shared->Prop)
  (turn:∀ n s,I n s->wpAny (model prog w) A (pyNext it) (fun r s₁=>match r with
   | none=>R (.ok .next) s₁
   | some v=>wpAny (model prog w) A (letOwnedTupleGo target it v) (fun _ s₁'=>wpAny (model prog w) A (assign target env v) (fun _ s₂=>
     wpAny (model prog w) A (forIn ifs true fun c r=>if r=true then do let ok ← isTrue c env (eval c env);pure (ForInStep.yield ok) else pure (ForInStep.yield r)) (fun ok s₃=>
      if ok=true then wpAny (model prog w) A (eval elt env) (fun x s₄=>
       wpAny (model prog w) A (call (.builtin "list.append") [acc,x]) (fun _ s₅=>∃ m,m<n/\I m s₅) (notedBy (model prog w) A env fun e s'=>R (.error e) s') s₄) (notedBy (model prog w) A env fun e s'=>R (.error e) s') s₃
      else ∃ m,m<n/\I m s₃) (notedBy (model prog w) A env fun e s'=>R (.error e) s') s₂) (notedBy (model prog w) A env fun e s'=>R (.error e) s') s₁') (notedBy (model prog w) A env fun e s'=>R (.error e) s') s₁) (notedBy (model prog w) A env fun e s'=>R (.error e) s') s)
  (n:Nat) (h:I n s):
  codeAny (model prog w) A (.compLoop (.ListComp elt [⟨target,iter,ifs,0⟩] scope pos) 0 it acc env) R s:=by
 refine codeAny_loop rfl I (fun n s hI=>?_) n h;show wpAny _ A ((compTurn (.ListComp elt [⟨target,iter,ifs,0⟩] scope pos) 0 it acc env).onRaise (fun x=>do noteFrame x env;theTreesLotGoes x)) _ _ s;refine wpAny_noted ?_;rw[compTurn_list];refine Hl (Ka (Hl (HN (turn n s hI) (fun r s₁ h₁=>?_) fun _ _ h'=>h')))
 cases r with
 | none=>exact HE h₁
 | some v=>
  refine Hl (HN h₁ (fun _ s₁' h₁'=>?_) fun _ _ h'=>h');refine Hl (HN h₁' (fun _ s₂ h₂=>Hl (HN h₂ (fun ok s₃ h₃=>?_) fun _ _ h'=>h')) fun _ _ h'=>h')
  cases ok with
  | false=>exact HE ⟨rfl,h₃⟩
  | true=>
   exact Hl (Hl (HN h₃ (fun x s₄ h₄=>Hl (HN h₄ (fun _ s₅ h₅=>HE (HE ⟨rfl,h₅⟩)) fun _ _ h'=>h')) fun _ _ h'=>h'))
end
variable{scope:Scope}
theorem jG{env:Env}{x:Str}{k:NameKind}(h:(relabel scope env).names.lookup x=some k):∃ k',scope.names.lookup x=some k'/\(k=k'\/(k'=.free/\k=.cell)):=by
 unfold relabel at h;dsimp only at h;generalize scope.names=names at h ⊢
 induction names with
 | nil=>cases h
 | cons p r ih=>
  obtain⟨n,k0⟩:=p;rw[Hd] at h;rw[Hw]
  cases hb:x==n with
  | true=>
   refine⟨k0,rfl,?_⟩;dsimp only at h
   split at h
   . rename_i hc
     rw[Hw,hb] at h;cases h;simp only[G7,IF] at hc;exact .inr ⟨hc.1.1,rfl⟩
   . rw[Hw,hb] at h;cases h;exact .inl rfl
  | false=>
   dsimp only at h;refine ih ?_
   split at h
   . rw[Hw,hb] at h;exact h
   . rw[Hw,hb] at h;exact h
def blkCx(X:Cx)(N:List Str)(scope:Scope)(cl:List (Str × Addr))(s:Shared)(H:Hp)(fp:List Addr):Cx where
 prog:=X.prog
 w:=X.w
 K:=X.K
 mg:=X.mg
 base:=X.base
 A:=X.A
 N:=N
 s₀:=s
 H₀:=H
 env:=zy scope cl (s.heap.objs.size+1) X.env
 outer:=X.stack
 stack:=X.stack
 ex:=fp
 fn:=fun x=>scope.names.lookup x==some .cell
 calm:=X.calm
 pn:=[]
 xe:=fun e₀ s₁=>(∃(Gx:List (Addr × Obj)) (σ:St),Inv X Gx σ H s/\∀ b∈fp,FpOk X Gx H b)->notedBy (model X.prog X.w) X.A (zy scope cl (s.heap.objs.size+1) X.env) (fun x s'=>∃ m,s'.heap.Ns (s.heap.objs.size+1) m/\∀ h',Heap.SameBut (s.heap.objs.size+1) s'.heap h'->∀ cenv:Env,cenv.locals=s.heap.objs.size+1->
  wpAny (model X.prog X.w) X.A (passOn "comprehension.variables-let-go" x cenv:Sem Value) (fun _ _=>False) X.xe {s' with heap:=h'}) e₀ s₁
def subσ(ix:List (Option Nat))(σ:St):St:=ix.map fun o=>match o with | none=>none | some i=>match σ[i]? with | some v=>v | none=>none
structure BlkOk(X:Cx)(N:List Str)(ix:List (Option Nat))(scope:Scope):Prop where
 kind:scope.kind=.function
 nd:N.Nodup
 len:ix.length=N.length
 names:(scope.names.map (·.1)).Nodup
 free:∀ x,(x,NameKind.free)∈scope.names->X.env.kindOf x=some .cell\/X.env.kindOf x=some .free
 at_:∀(j i:Nat) (x:Str),N[j]? =some x->ix[j]? =some (some i)->X.N[i]? =some x/\(x,NameKind.free)∈scope.names
theorem fg{α:Type}:∀{l:List (Str × α)} {x:Str} {k:α},(l.map (·.1)).Nodup->(x,k)∈l->l.lookup x=some k
 | (y,k0)::r,x,k,nd,h=>by
  rw[Hd,HK] at nd;rw[Hw];rcases GU.mp h with e | e
  . cases e;simp
  . have:x≠y:=by
     rintro rfl;exact nd.1 (G1.mpr ⟨(x,k),e,rfl⟩)
    have hb:(x==y)=false:=by simpa using this
    rw[hb];exact fg nd.2 e
def zB {X:Cx} {Gx:List (Addr × Obj)} {σ:St} {H:Hp} {s:Shared} {N:List Str} {ix:List (Option Nat)} {cl:List (Str × Addr)} {fp:List Addr} (B:BlkOk X N ix scope)
  (I:Inv X Gx σ H s) (hcl:∀ x c,cl.lookup x=some c->X.env.cells.lookup x=some c) (hcf:∀ x,(x,NameKind.free)∈scope.names->∃ c,cl.lookup x=some c)
  (hfp:∀ b∈fp,FpOk X Gx H b) (hob:∀ b∈fp,∃ o,s.heap.get? b=some o/\∀ v,o.data≠.cell v):
  Inv (blkCx X N scope cl s H fp) [] (subσ ix σ) (upd H s.heap.objs.size (.lst []))
   {s with heap:=pushCells ((s.heap.push {cls:=.type "list",data:=.seq #[]}).push {cls:=.type "dict",data:=.dict #[]}) scope.names}:=by
 have hs2:(s.heap.push {cls:=.type "list",data:=.seq #[]}).objs.size=s.heap.objs.size+1:=Ik ..;have hs3:((s.heap.push {cls:=.type "list",data:=.seq #[]}).push {cls:=.type "dict",data:=.dict #[]}).objs.size=s.heap.objs.size+2:=by rw[Ik,hs2]
 have hk:∀ b o,s.heap.get? b=some o->(pushCells ((s.heap.push {cls:=.type "list",data:=.seq #[]}).push {cls:=.type "dict",data:=.dict #[]}) scope.names).get? b=some o:=
  fun b o e=>Ji _ _ b o (GO _ (GO _ e))
 have hl:(pushCells ((s.heap.push {cls:=.type "list",data:=.seq #[]}).push {cls:=.type "dict",data:=.dict #[]}) scope.names).get? s.heap.objs.size=some {cls:=.type "list",data:=.seq #[]}:=
  Ji _ _ _ _ (GO _ (G8 _ rfl))
 have ok0:=cellsFrom_ok scope.names ((s.heap.push {cls:=.type "list",data:=.seq #[]}).push {cls:=.type "dict",data:=.dict #[]}) (s.heap.objs.size+2) [] ⟨fun _ _ hm=>(nomatch hm),List.Pairwise.nil⟩ (by rw[hs3];exact GP _);rw[hs3] at ok0
 have hcells:(blkCx X N scope cl s H fp).env.cells=cellsFrom (s.heap.objs.size+2) scope.names []++cl:=by
  show cellsFrom (s.heap.objs.size+1+1) scope.names cl=_;rw[← List.nil_append cl,iW];simp
 have cases_:∀ x c,(blkCx X N scope cl s H fp).env.cells.lookup x=some c->((x,c)∈cellsFrom (s.heap.objs.size+2) scope.names []/\(x,NameKind.cell)∈scope.names)\/((cellsFrom (s.heap.objs.size+2) scope.names []).lookup x=none/\cl.lookup x=some c):=fun x c e=>by
  rw[hcells,cN] at e
  cases q:(cellsFrom (s.heap.objs.size+2) scope.names []).lookup x with
  | none=>rw[q] at e;exact .inr ⟨rfl,e⟩
  | some c'=>
   rw[q] at e;cases e;have m:=HL q;refine .inl ⟨m,?_⟩;rcases gf _ _ _ m with z | z
   . exact z
   . exact nomatch z
 have oldc:∀ x c,cl.lookup x=some c->c<s.heap.objs.size:=fun x c e=>by
  obtain⟨v,q⟩:=I.cell x c (hcl x c e);exact q.lt
 have hfree:H s.heap.objs.size=none:=I.hok.fresh (GP _)
 have hfix:∀ b,s.heap.objs.size<b->(upd H s.heap.objs.size (.lst [])) b=none:=fun b hb=>by
  rw[aj (Jr hb)];exact I.hok.fresh (Hs hb)
 have hlt:∀ b∈fp,b<s.heap.objs.size:=fun b hb=>by
  obtain⟨o,e,_⟩:=hob b hb;exact GY e
 have e0:=I.env0;have isnew:∀ x c,(x,c)∈cellsFrom (s.heap.objs.size+2) scope.names []->s.heap.objs.size+2<=c:=fun x c m=>(ok0.empty x c m).2
 refine⟨⟨I.ok.mod,B.kind,I.ok.glob,I.ok.blt,Je _,fun x y c e1 e2=>?_,fun x hx=>?_,fun x c hx e=>?_,I.ok.hd,I.ok.frames,.inl rfl,fun b hb=>⟨?_,fun x c e=>?_⟩,e0.bs,e0.bsz,fun b o e hb=>?_,fun b hb hb2=>?_,e0.funs,e0.frf⟩,
  rfl,I.bare,Un.laid hk (GP _) hfree,⟨fun _=>none,?_,fun j x v e1 e2 e3=>?_⟩,fun x c e=>?_,hfix _ (II _),fun x c e=>?_,fun p hp=>absurd (show p∈([]:List (Addr × Obj)) from hp) (by simp),?_,?_⟩
 . rcases cases_ x c e1 with ⟨m1,k1⟩ | ⟨n1,q1⟩ <;> rcases cases_ y c e2 with ⟨m2,k2⟩ | ⟨n2,q2⟩
   . exact name_of_addr ok0.apart m1 m2
   . exact absurd (G5 (oldc _ _ q2) (GS (Jc _ _) (isnew _ _ m1))) (HP _)
   . exact absurd (G5 (oldc _ _ q1) (GS (Jc _ _) (isnew _ _ m2))) (HP _)
   . exact I.ok.inj x y c (hcl _ _ q1) (hcl _ _ q2)
 . have hx':(relabel scope X.env).names.lookup x=some .cell\/(relabel scope X.env).names.lookup x=some .free:=hx
   have key:scope.names.lookup x=some .cell\/scope.names.lookup x=some .free:=by
    rcases hx' with z | z
    . obtain⟨k',e,r | r⟩:=jG z
      . rw[← r] at e;exact .inl e
      . rw[r.1] at e;exact .inr e
    . obtain⟨k',e,r | r⟩:=jG z
      . rw[← r] at e;exact .inr e
      . cases r.2
   rw[hcells];rcases key with z | z
   . obtain⟨c,q⟩:=l9 (n:=s.heap.objs.size+2) z;exact⟨c,by rw[cN,q]⟩
   . obtain⟨c,q⟩:=hcf x (HL z)
     cases q2:(cellsFrom (s.heap.objs.size+2) scope.names []).lookup x with
     | none=>exact⟨c,by rw[cN,q2];exact q⟩
     | some c'=>exact⟨c',by rw[cN,q2]⟩
 . have hx':scope.names.lookup x=some .cell:=by simpa [blkCx] using hx
   rcases cases_ x c e with ⟨m1,k1⟩ | ⟨n1,q1⟩
   . exact GS (Jc _ _) (isnew _ _ m1)
   . obtain⟨c',q⟩:=l9 (n:=s.heap.objs.size+2) hx';rw[q] at n1;cases n1
 . exact Hk (HW (hlt b hb))
 . rcases cases_ x c e with ⟨m1,k1⟩ | ⟨n1,q1⟩
   . exact Jr (G5 (hlt b hb) (GS (Jc _ _) (isnew _ _ m1)))
   . exact(hfp b hb).2.2.2.2.1 x c (hcl _ _ q1)
 . rcases(hfp b hb).2.2.2.1 with z | z
   . exact I.ok.noex b o e z
   . exact absurd (G5 (GY e) (GS I.ok.bsz z)) (HP _)
 . rcases GU.mp (I.stkSub b hb2) with z | z
   . exact(hfp b hb).2.1 z
   . exact(hfp b hb).2.2.1 z
 . show Heap.Ns _ (s.heap.objs.size+1) _;rw[← hs2];exact(Heap.Ns.new _ (.type "dict")).keeps (Ji _ _)
 .
   unfold subσ at e2;rw[GK] at e2
   cases q:ix[j]? with
   | none=>rw[q] at e2;cases e2
   | some o=>
    rw[q] at e2
    cases o with
    | none=>cases e2
    | some i=>
     simp only[J0,JE] at e2;obtain⟨hN,hm⟩:=B.at_ j i x e1 q
     have hσ:σ[i]? =some (some v):=by
      cases q2:σ[i]? with
      | none=>rw[q2] at e2;cases e2
      | some z=>rw[q2] at e2;exact congrArg some e2
     obtain⟨m,hn,hl'⟩:=I.loc;have hkind:=B.free x hm;have hvis:Vis X.env.scope x:=hkind.elim (fun z=>.inr (.inl z)) fun z=>.inr (.inr z);obtain⟨u,ru,lk⟩:=hl' i x v hN hσ hvis;refine⟨u,ru,?_⟩;obtain⟨c,hc⟩:=hcf x hm
     have hnone:(cellsFrom (s.heap.objs.size+2) scope.names []).lookup x=none:=by
      cases q2:(cellsFrom (s.heap.objs.size+2) scope.names []).lookup x with
      | none=>rfl
      | some c'=>
       rcases gf _ _ _ (HL q2) with z | z
       . have a1:=fg B.names z;have a2:=fg B.names hm;rw[a1] at a2;cases a2
       . exact nomatch z
     have hcell:(blkCx X N scope cl s H fp).env.cells.lookup x=some c:=by rw[hcells,cN,hnone];exact hc
     have hkk:(blkCx X N scope cl s H fp).env.kindOf x=some .cell\/(blkCx X N scope cl s H fp).env.kindOf x=some .free:=by
      rcases e3 with z | z | z
      . obtain⟨k',e,r | r⟩:=jG (show(relabel scope X.env).names.lookup x=some .local from z)
        . rw[fg B.names hm] at e;cases e;cases r
        . cases r.2
      . exact .inl z
      . exact .inr z
     refine .inr ⟨hkk,c,hcell,?_⟩;rcases lk with ⟨k1,_⟩ | ⟨_,c2,e4,z⟩
     . rcases hkind with z | z <;> rw[k1] at z <;> cases z
     . rw[hcl x c hc] at e4;cases e4;exact z.keeps hk
 . rcases cases_ x c e with ⟨m1,k1⟩ | ⟨n1,q1⟩
   . exact⟨none,(ok0.empty x c m1).1⟩
   . obtain⟨v,z⟩:=I.cell x c (hcl _ _ q1);exact⟨v,z.keeps hk⟩
 . rcases cases_ x c e with ⟨m1,k1⟩ | ⟨n1,q1⟩
   . exact hfix c (G5 (Nat.lt_add_of_pos_right #[1]) (isnew _ _ m1))
   . rw[aj (Hk (oldc _ _ q1))];exact I.freeC x c (hcl _ _ q1)
 . exact I.hok.laid hk (GP _) ⟨HG _,[],0,.nil,hl⟩
 . show(subσ ix σ).length=N.length;unfold subσ;rw[GG];exact B.len
def PTs(X:Cx)(ifs:List Expr)(t:TT):Prop:=
 ∀(Gx:List (Addr × Obj)) (s:Shared) (σ:St) (H:Hp) (Q:Bool->Hp->Prop),Inv X Gx σ H s->t σ H Q->
  wpAny (model X.prog X.w) X.A (forIn ifs true fun c r=>if r=true then do let ok ← isTrue c X.env (eval c X.env);pure (ForInStep.yield ok) else pure (ForInStep.yield r)) (TP X Gx σ Q) X.xe s
def tTrue:TT:=fun _ H Q=>Q true H
def aT{X:Cx}:PTs X [] tTrue:=fun _ _ _ H _ I h=>wpAny_tests_nil ⟨H,I,h⟩
def dX{X:Cx}{c:Expr}{t:TT}(h:PT X c t):PTs X [c] t:=fun Gx s σ H Q I q=>wpAny_tests_one (h Gx s σ H Q I q)
def u9(ix:List (Option Nat))(wi:TI)(g:TG)(tt:TT)(te:TE)(fin:Addr->Hp->Prop):St->Hp->Prop:=fun σ H=>wi σ H fun J H1=>∀ l,H1 l=none->
 ∃ W:Nat->Nat->St->Hp->Prop,(∃ m,W 0 m (subσ ix σ) (upd H1 l (.lst [])))/\∀ i m σ' H',W i m σ' H'->
  (J.stop i H'/\fin l H')\/(J.go i H'/\∃ N:St->Hp->Prop,(∀ σ'' H'',N σ'' H''->∃ m',m'<m/\W (i+1) m' σ'' H'')/\∀ x H2,J.yld i H' x H2->g x σ' H2 fun σ2 H3=>tt σ2 H3 fun b H4=>
   if b=true then te σ2 H4 fun y H5=>∃ ys,H5 l=↥ys/\ys.length<sizeLine/\N σ2 (upd H5 l (.lst (ys++[y]))) else N σ2 H4)
section
variable{X:Cx}{Gx:List (Addr × Obj)}{σ σ':St}{H H':Hp}{s s':Shared}{N:List Str}{scope:Scope}{cl:List (Str × Addr)}{fp:List Addr}
def xh{h':Heap}(I:Inv X Gx σ H s)(J:Inv (blkCx X N scope cl s H fp) [] σ' H' s')(hfp:∀ b∈fp,FpOk X Gx H b)(sb:Heap.SameBut (s.heap.objs.size+1) s'.heap h'):Inv X Gx σ H' {s' with heap:=h'}:=by
 have u:Un (frs X.stack) fp H H' s.heap s'.heap:=J.base;have hC:H' (s.heap.objs.size+1)=none:=J.free;have ne:∀ b o,s.heap.get? b=some o->b≠s.heap.objs.size+1:=fun b o e=>Hk (HW (GY e));refine I.call' (s':={s' with heap:=h'}) (ch:=fp) J.os ⟨fun b o e n hb hx=>?_,fun b o e n hb hx=>?_,u.free,fun b o e hx=>?_,u.tups,u.frzs,u.tbls⟩ (fun b ob e=>?_) J.bare fun b hb=>?_
 . exact(sb.2 b (ne b o e)).trans (u.keep b o e n hb hx)
 . obtain⟨sl,q⟩:=u.slot b o e n hb hx;exact⟨sl,(sb.2 b (ne b o e)).trans q⟩
 . obtain⟨o',q⟩:=u.there b o e hx;exact⟨o',(sb.2 b (ne b o e)).trans q⟩
 . refine(J.hok b ob e).stay (fun c w' hc q=>(sb.2 c ?_).trans q) (fun _ q=>q) fun _ _ q=>q;rintro rfl;rcases hc with rfl | hc
   . rw[hC] at e;cases e
   . rw[hC] at hc;cases hc
 . obtain⟨f0,f1,f2,f3,f4,f5⟩:=hfp b hb;exact⟨f3,f1,f4,f5⟩
def va {tg iter elt:Expr} {ifs:List Expr} {pos:Pos} {ix:List (Option Nat)} {wi:TI} {g:TG} {tt:TT} {te:TE} {fin:Addr->Hp->Prop} {RR:Value->Addr->Result->Shared->Prop} (B:BlkOk X N ix scope) (hc:X.calm=true)
  (hi:PI X tg iter wi) (hg:∀ cl s H fp,PG (blkCx X N scope cl s H fp) tg g) (ht:∀ cl s H fp,PTs (blkCx X N scope cl s H fp) ifs tt) (he:∀ cl s H fp,PE (blkCx X N scope cl s H fp) elt te)
  (hcl:∀ x c,cl.lookup x=some c->X.env.cells.lookup x=some c) (hcf:∀ x,(x,NameKind.free)∈scope.names->∃ c,cl.lookup x=some c)
  (I:Inv X Gx σ H s) (h:u9 ix wi g tt te fin σ H)
  (ok:∀(s2:Shared) (H2:Hp) (fp:List Addr) (σ3:St) (H3:Hp) (s3:Shared),Inv X Gx σ H2 s2->(∀ b∈fp,FpOk X Gx H2 b)->Inv (blkCx X N scope cl s2 H2 fp) [] σ3 H3 s3->fin s2.heap.objs.size H3->RR (.ref s2.heap.objs.size) (s2.heap.objs.size+1) (.ok .next) s3)
  (bad:∀(a C:Addr) (x:Value) (s':Shared),(∃ m,s'.heap.Ns C m/\∀ h',Heap.SameBut C s'.heap h'->∀ cenv:Env,cenv.locals=C->wpAny (model X.prog X.w) X.A (passOn "comprehension.variables-let-go" x cenv:Sem Value) (fun _ _=>False) X.xe {s' with heap:=h'})->RR (.ref a) C (.error x) s'):
  wpAny (model X.prog X.w) X.A (eval iter X.env) (fun x s₁=>wpAny (model X.prog X.w) X.A (pyIter x) (fun it s₂=>wpAny (model X.prog X.w) X.A (newList []) (fun acc s₃=>
   wpAny (model X.prog X.w) X.A (newFunctionEnv scope X.env.globals cl [] X.env.qual none .none (some X.env)) (fun cenv s₄=>
    codeAny (model X.prog X.w) X.A (.compStart (.ListComp elt [⟨tg,iter,ifs,0⟩] scope pos) 0 it acc {cenv with scope:=relabel scope X.env}) (RR acc cenv.locals) s₄) X.xe s₃) X.xe s₂) X.xe s₁) X.xe s:=by
 refine thn (hi Gx s σ H _ I h) fun v s1 h1=>thn h1 fun itv s2 h2=>?_;obtain⟨it,fp,tn,J,H2,e,I2,T,st2,f2,h2⟩:=h2;subst e;refine wpAny_newList (AO ?_) (HG _);have hs2:(s2.heap.push {cls:=.type "list",data:=.seq (([]:List Value)).toArray}).objs.size=s2.heap.objs.size+1:=Ik ..;dsimp only;rw[hs2];have I3:=zB (fp:=fp) B I2 hcl hcf f2 (T.obj _ _ st2);obtain⟨W,⟨m0,w0⟩,turn⟩:=h2 s2.heap.objs.size I2.fresh
 have hk:∀ b o,s2.heap.get? b=some o->(pushCells ((s2.heap.push {cls:=.type "list",data:=.seq #[]}).push {cls:=.type "dict",data:=.dict #[]}) scope.names).get? b=some o:=
  fun b o e=>Ji _ _ b o (GO _ (GO _ e))
 have st3:=T.keep _ _ _ st2 fun b _ o e=>hk b o e
 have fr3:∀ b∈fp,(upd H2 s2.heap.objs.size (.lst [])) b=none:=fun b hb=>by
  obtain⟨o,e,_⟩:=T.obj _ _ st2 b hb;rw[aj (Hk (GY e))];exact(f2 b hb).1
 have stat:∀{σ5:St} {H5:Hp} {s5:Shared},Inv (blkCx X N scope cl s2 H2 fp) [] σ5 H5 s5->(∀ b∈fp,H5 b=none)->∀ b∈fp,FpOk (blkCx X N scope cl s2 H2 fp) [] H5 b:=fun I5 hn b hb=>
  ⟨hn b hb,(I5.ok.exf b hb).1,I5.ok.exfs b hb,.inl hb,(I5.ok.exf b hb).2,fun p hp=>absurd (show p∈([]:List (Addr × Obj)) from hp) (by simp)⟩
 have loop:∀ s₃:Shared,s₃={s2 with heap:=pushCells ((s2.heap.push {cls:=.type "list",data:=.seq #[]}).push {cls:=.type "dict",data:=.dict #[]}) scope.names}->
   codeAny (model X.prog X.w) X.A (.compLoop (.ListComp elt [⟨tg,iter,ifs,0⟩] scope pos) 0 (.ref it) (.ref s2.heap.objs.size) (blkCx X N scope cl s2 H2 fp).env) (RR (.ref s2.heap.objs.size) (s2.heap.objs.size+1)) s₃:=by
  rintro s₃ rfl;refine zA (fun n s'=>∃ i σ' H',Inv (blkCx X N scope cl s2 H2 fp) [] σ' H' s'/\tn i s'.heap/\(∀ b∈fp,H' b=none)/\W i n σ' H') ?_ m0 ⟨0,_,_,I3,st3,fr3,w0⟩;rintro n s4 ⟨i,σ4,H4,I4,st4,fr4,w4⟩
  have xe_:∀ x s',(blkCx X N scope cl s2 H2 fp).xe x s'->notedBy (model X.prog X.w) X.A (blkCx X N scope cl s2 H2 fp).env (fun e s'=>RR (.ref s2.heap.objs.size) (s2.heap.objs.size+1) (.error e) s') x s':=fun x s' hx=>
   HN (hx ⟨Gx,σ,I2,f2⟩) (fun _ s'' q=>bad _ _ _ _ q) fun e s'' q=>bad _ _ _ _ q
  rcases turn i n σ4 H4 w4 with ⟨stop,qn⟩ | ⟨go,Nx,hN,step⟩
  . refine HN (T.done (blkCx X N scope cl s2 H2 fp) rfl rfl rfl hc i [] s4 σ4 H4 _ I4 (stat I4 fr4) st4 stop) (fun r s5 ⟨hr,I5⟩=>?_) xe_;subst hr;exact ok s2 H2 fp σ4 H4 s5 I2 f2 I5 qn
  . refine HN (T.item (blkCx X N scope cl s2 H2 fp) rfl rfl rfl hc i [] s4 σ4 H4 _ I4 (stat I4 fr4) st4 go) (fun r s5 ⟨u,hr,h5⟩=>?_) xe_;subst hr;refine HN h5 (fun _ s6 ⟨x,H6,I6,r6,y6,st6,fr6⟩=>?_) xe_;have I6':=I6.pinned (stat I6 fr6) (T.obj _ _ st6);refine HN (hg cl s2 H2 fp _ s6 σ4 H6 x u _ I6' r6 (step x H6 y6)) (fun _ s7 ⟨σ7,H7,I7,q7⟩=>?_) xe_
    have again:∀{σ8:St} {H8:Hp} {s8:Shared},Inv (blkCx X N scope cl s2 H2 fp) ([]++ni fp s6.heap) σ8 H8 s8->Nx σ8 H8->∃ m,m<n/\∃ i σ' H',Inv (blkCx X N scope cl s2 H2 fp) [] σ' H' s8/\tn i s8.heap/\(∀ b∈fp,H' b=none)/\W i m σ' H':=fun{σ8 H8 s8} I8 n8=>by
     obtain⟨m',hm,w8⟩:=hN σ8 H8 n8;refine⟨m',hm,i+1,σ8,H8,I8.unpinned,T.keep _ _ _ st6 fun b hb o e=>(I8.pin (b,o) (Hh _ (Hh _ (jt hb e)))).1,fun b hb=>?_,w8⟩;obtain⟨o,e,d⟩:=T.obj _ _ st6 b hb;exact(I8.pin (b,o) (Hh _ (Hh _ (jt hb e)))).2.1
    refine HN (ht cl s2 H2 fp _ s7 σ7 H7 _ I7 q7) (fun okb s8 ⟨H8,I8,q8⟩=>?_) xe_
    cases okb with
    | false=>exact again I8 q8
    | true=>
     refine HN (he cl s2 H2 fp _ s8 σ7 H8 _ I8 q8) (fun y s9 ⟨yv,H9,I9,r9,ys,hl,hz,q9⟩=>?_) xe_;refine HN (tG (X:=blkCx X N scope cl s2 H2 fp) _ s9 σ7 H9 (.ref s2.heap.objs.size) [yv] (.ref s2.heap.objs.size) [y] (fun _ H10=>Nx σ7 H10) I9 rfl (.cons r9 .nil) ⟨_,ys,yv,rfl,rfl,hl,hz,q9⟩) (fun _ s10 ⟨_,H10,I10,_,q10⟩=>?_) xe_;exact again I10 q10
 exact codeAny_compStart_list (loop _ rfl) (T.self _ 0 _ _ _ st3 (loop _ rfl))
def tComp(ix:List (Option Nat))(wi:TI)(g:TG)(tt:TT)(te:TE):TE:=fun σ H Q=>u9 ix wi g tt te (fun l H'=>Q (.ref l) H') σ H
def sComp(k:Nat)(ix:List (Option Nat))(wi:TI)(g:TG)(tt:TT)(te:TE):TS:=fun D σ H=>u9 ix wi g tt te (fun l H'=>D.nx (σ.set k ↑l) H') σ H
def xi(I:Inv X Gx σ H s){ix:List (Option Nat)}(B:BlkOk X N ix scope):∃ cl,closureFor scope X.env=pure cl/\(∀ x c,cl.lookup x=some c->X.env.cells.lookup x=some c)/\∀ x,(x,NameKind.free)∈scope.names->∃ c,cl.lookup x=some c:=
 qy fun x hx=>I.ok.has x (B.free x hx)
def ph{ix:List (Option Nat)}(B:BlkOk X N ix scope):∀ x∈scope.names,x.2=NameKind.local->scope.names.lookup x.1=some .local:=fun x hx e=>by
 obtain⟨n,k⟩:=x;cases e;exact fg B.names hx
def aH {tg iter elt:Expr} {ifs:List Expr} {pos:Pos} {ix:List (Option Nat)} {wi:TI} {g:TG} {tt:TT} {te:TE} (N:List Str) (B:BlkOk X N ix scope) (hc:X.calm=true)
  (hi:PI X tg iter wi) (hg:∀ cl s H fp,PG (blkCx X N scope cl s H fp) tg g) (ht:∀ cl s H fp,PTs (blkCx X N scope cl s H fp) ifs tt) (he:∀ cl s H fp,PE (blkCx X N scope cl s H fp) elt te)
  (hs:∀ x,foldedSetIterable iter X.env x=pure x:=by intro _;rfl):PE X (.ListComp elt [⟨tg,iter,ifs,0⟩] scope pos) (tComp ix wi g tt te):=by
 intro Gx s σ H Q I h;obtain⟨cl,e1,e2,e3⟩:=xi I B;rw[eval_ListComp];refine JL (use:=none) rfl hs e1 B.kind (ph B) ?_;refine va (RR:=fun acc C=>compPost (model X.prog X.w) X.A X.xe none (EP X Gx σ Q) acc C) B hc hi hg ht he e2 e3 I h (fun s2 H2 fp σ3 H3 s3 I2 f2 J q=>?_) (fun a C x s' q=>q);obtain⟨m,hn,_⟩:=J.loc;exact⟨m,hn,fun h' sb=>⟨.ref _,H3,xh I2 J f2 sb,rfl,q⟩⟩
def xj {y:Str} {py spos:Pos} {k:Nat} {tg iter elt:Expr} {ifs:List Expr} {pos:Pos} {ix:List (Option Nat)} {wi:TI} {g:TG} {tt:TT} {te:TE} (hN:X.N.Nodup) (hy:X.N[k]? =some y) (hx:Loc X.env.scope y)
  (hsw:swapsWith (.ListComp elt [⟨tg,iter,ifs,0⟩] scope pos) (some (.Name y py)) spos.line X.env=pure true) (N:List Str) (B:BlkOk X N ix scope) (hc:X.calm=true)
  (hi:PI X tg iter wi) (hg:∀ cl s H fp,PG (blkCx X N scope cl s H fp) tg g) (ht:∀ cl s H fp,PTs (blkCx X N scope cl s H fp) ifs tt) (he:∀ cl s H fp,PE (blkCx X N scope cl s H fp) elt te)
  (hs:∀ x,foldedSetIterable iter X.env x=pure x:=by intro _;rfl) (hf:X.fn y=true\/X.env.scope.names.lookup y=some .local:=by first | exact .inl rfl | exact .inr rfl | assumption):
  PS X (.Assign [.Name y py] (.ListComp elt [⟨tg,iter,ifs,0⟩] scope pos) spos) (sComp k ix wi g tt te):=by
 intro Gx s σ H D I h;obtain⟨cl,e1,e2,e3⟩:=xi I B;rw[exec_Assign_Name_used _ _ _ _ hsw];refine Hl (Ka (Hl ?_));show wpAny _ X.A (do let _ ← comprehension (.ListComp elt [⟨tg,iter,ifs,0⟩] scope pos) scope X.env _ (newList []) false (eval iter X.env) (some (assign (.Name y py) X.env))) _ _ s;refine Hl (HN (JL (use:=some (assign (.Name y py) X.env)) (Q:=fun _ s'=>SP X Gx D .next s') rfl hs e1 B.kind (ph B) ?_) (fun _ s' hq=>HE (HE hq)) fun _ _ e=>e);refine va (RR:=fun acc C=>compPost (model X.prog X.w) X.A X.xe (some (assign (.Name y py) X.env)) (fun _ s'=>SP X Gx D .next s') acc C) B hc hi hg ht he e2 e3 I h (fun s2 H2 fp σ3 H3 s3 I2 f2 J q=>?_) (fun a C x s' q=>q);obtain⟨m,hn,_⟩:=J.loc;have I3:Inv X Gx σ H3 {s3 with heap:=s3.heap}:=xh I2 J f2 (Heap.SameBut.refl _ _);show wpAny _ X.A (assign (.Name y py) X.env (.ref _)) _ _ _;refine wpAny_assign_Name (tm (v:=.ref _) I3 hN hy hx rfl (fun s4 I4 ⟨a,sb4,ha⟩=>?_) hf)
 have hlt:a<s2.heap.objs.size:=by
  rcases ha with rfl | ha
  . exact I2.lt
  . obtain⟨v,z⟩:=I2.cell _ _ ha;exact z.lt
 have hCa:s2.heap.objs.size+1≠a:=Jr (HW hlt);refine⟨m,hn.sameBut sb4 hCa,fun h' sb=>?_⟩;refine⟨_,H3,I4.turned (t':=s4.toks) (it:=s2.heap.objs.size+1) (fun b o hb e=>(sb.2 b hb).trans e) J.free (Jr (HW I2.lt)) (.inr (GS I2.sz (Je _))) (fun x c e=>?_) (fun p hp=>?_),q⟩
 . obtain⟨v,z⟩:=I2.cell x c e;exact Hk (HW z.lt)
 . exact Hk (HW (GY (I2.pin p hp).1))
end
def bnd{α:Type}:Option α->(α->Prop)->Prop
 | some a,k=>k a
 | none,_=>False
def aP{α:Type}{o:Option α}{a:α}{k:α->Prop}(h:o=some a)(q:k a):bnd o k:=by subst h;exact q
theorem aQ{α:Type}{o:Option α}{k:α->Prop}(h:bnd o k):∃ a,o=some a/\k a:=by
 cases o with
 | none=>exact h.elim
 | some a=>exact⟨a,rfl,h⟩
def aX{α:Type}{a:α}{k:α->Prop}:bnd (some a) k=k a:=rfl
def unM:Option HO->Option (List V)
 | ↥xs=>some xs
 | _=>none
def unL:Option HO->Option (List V)
 | ↥xs=>some xs
 | some (.frz _ (.lst xs))=>some xs
 | _=>none
def unS:Option HO->Option (List V)
 | ↥xs=>some xs
 | some (.frz _ (.lst xs))=>some xs
 | some (.tup xs)=>some xs
 | _=>none
variable{o:Option HO}{xs:List V}
def gG(h:unM o=some xs):o=↥xs:=by
 unfold unM at h;split at h
 . cases h;rfl
 . cases h
def lE{K:Frag}{H:Hp}{p:Addr}(h:unL (H p)=some xs):SqL K H p xs:=by
 unfold unL at h;split at h
 . rename_i e;cases h;exact .inl (.inl e)
 . rename_i o _ e;cases h;exact .inl (.inr ⟨_,e⟩)
 . cases h
def lF{K:Frag}{H:Hp}{p:Addr}(h:unS (H p)=some xs):SqL K H p xs\/SqT K H p xs:=by
 unfold unS at h;split at h
 . rename_i e;cases h;exact .inl (.inl (.inl e))
 . rename_i o _ e;cases h;exact .inl (.inl (.inr ⟨_,e⟩))
 . rename_i e;cases h;exact .inr (.inl (.inl e))
 . cases h
mutual
inductive DV(K:Frag)(H:Hp):V->PyData->Prop
 | non:DV K H .non .none
 | bl (b:Bool):DV K H (.bl b) (.bool b)
 | int (i:Int):DV K H (.int i) (.int i)
 | str (x:Str):DV K H (.str x) (.str x)
 | lst {a:Addr} {xs:List V} {ds:List PyData}:SqL K H a xs->DVs K H xs ds->DV K H (.ref a) (.list ds)
 | tup {a:Addr} {xs:List V} {ds:List PyData}:SqT K H a xs->DVs K H xs ds->DV K H (.ref a) (.tuple ds)
inductive DVs(K:Frag)(H:Hp):List V->List PyData->Prop
 | nil:DVs K H [] []
 | cons {x:V} {d:PyData} {xs:List V} {ds:List PyData}:DV K H x d->DVs K H xs ds->DVs K H (x::xs) (d::ds)
end
section
variable{X:Cx}{Gx:List (Addr × Obj)}{σ:St}{H:Hp}{s:Shared}
mutual
theorem DV.reads(I:Inv X Gx σ H s):∀{x:V} {d:PyData} {v:Value},DV X.K H x d->RelV x v->∃ as,Reads s.heap v d as
 | _,_,_,.non,r=>by cases r;exact⟨_,.none⟩
 | _,_,_,.bl b,r=>by cases r;exact⟨_,.bool b⟩
 | _,_,_,.int i,r=>by obtain⟨t,rfl⟩:=r;exact⟨_,.int i t⟩
 | _,_,_,.str x,r=>by obtain⟨t,rfl⟩:=r;exact⟨_,.str x t⟩
 | _,_,_,.lst (a:=a) h hs,r=>by
  cases r;obtain⟨GB,rv,p,_⟩:=I.list h;obtain⟨as,q⟩:=DVs.reads I hs rv;obtain⟨o,h1,h2,n,h3⟩:=p.isList;exact⟨_,.list h1 h2 h3 q⟩
 | _,_,_,.tup (a:=a) h hs,r=>by
  cases r;obtain⟨GB,rv,p,_⟩:=I.tuple h;obtain⟨as,q⟩:=DVs.reads I hs rv;obtain⟨o,h1,h2,n,h3⟩:=p;exact⟨_,.tuple h1 h2 h3 q⟩
theorem DVs.reads(I:Inv X Gx σ H s):∀{xs:List V} {ds:List PyData} {us:List Value},DVs X.K H xs ds->Vals xs us->∃ as,ReadsAll s.heap us ds as
 | _,_,_,.nil,.nil=>⟨_,.nil⟩
 | _,_,_,.cons h hs,.cons r rs=>by
  obtain⟨as,q⟩:=DV.reads I h r;obtain⟨bs,q2⟩:=DVs.reads I hs rs;exact⟨_,.cons q q2⟩
end
end
theorem DVs.ints{K:Frag}{H:Hp}:∀ ns:∅,DVs K H (ns.map V.int) (ns.map PyData.int)
 | []=>.nil
 | n::r=>.cons (.int n) (DVs.ints r)
def vb:∀ ns ms:∅,PyData.eqvAll (ns.map PyData.int) (ms.map PyData.int)=decide (ns=ms):=PySem.W.ked_eqvAll
theorem pV:∀ ns:∅,PyData.canLayAll0 (ns.map PyData.int)=true
 | []=>rfl
 | n::r=>by rw[Hd,PyData.canLayAll0,pV r];rfl
theorem me:∀ ns:∅,PyData.depthAll (ns.map PyData.int)=0
 | []=>rfl
 | n::r=>by rw[Hd,PyData.depthAll,me r];rfl
def iG(ns:∅):SeqAt.shaped (.list (ns.map PyData.int))=true:=by
 simp[SeqAt.shaped,PyData.canLay0,pV,PyData.depth,me]
def cAdd:R2
 | .int i,.int j,H,Q=>Q (.int (i+j)) H
 | .str i,.str j,H,Q=>i.length+j.length<=sizeLine/\Q (.str (i++j)) H
 | .ref l,.ref b,H,Q=>bnd (unM (H l)) fun xs=>bnd (unM (H b)) fun zs=>xs.length+zs.length<=sizeLine/\∀ p,H p=none->Q (.ref p) (upd H p (.lst (xs++zs)))
 | _,_,_,_=>False
def cSub:R2
 | .int i,.int j,H,Q=>Q (.int (i-j)) H
 | _,_,_,_=>False
def cMul:R2
 | .int i,.int j,H,Q=>CMul i j/\Q (.int (i*j)) H
 | _,_,_,_=>False
def cDiv:R2
 | .int i,.int j,H,Q=>CDiv i j/\Q (.int (i/j)) H
 | _,_,_,_=>False
def cMod:R2
 | .int i,.int j,H,Q=>0<j/\Q (.int (i%j)) H
 | _,_,_,_=>False
def cPow:R2
 | .int i,.int j,H,Q=>CPow i j/\Q (.int (i^j.toNat)) H
 | _,_,_,_=>False
def cCmp(g:Int->Int->Bool):R2
 | .int i,.int j,H,Q=>Q (.bl (g i j)) H
 | _,_,_,_=>False
def rEqD(K:Frag):R2:=fun x y H Q=>∃ d e,DV K H x d/\DV K H y e/\SeqAt.shaped d=true/\SeqAt.shaped e=true/\Q (.bl (PyData.eqv d e)) H
def rNeD(K:Frag):R2:=fun x y H Q=>∃ d e,DV K H x d/\DV K H y e/\SeqAt.shaped d=true/\SeqAt.shaped e=true/\Q (.bl (!PyData.eqv d e)) H
def cEq(K:Frag):R2
 | .int i,.int j,H,Q=>Q (.bl (decide (i=j))) H
 | .bl i,.bl j,H,Q=>Q (.bl (decide (i=j))) H
 | .str i,.str j,H,Q=>Q (.bl (decide (i=j))) H
 | x,y,H,Q=>rEqD K x y H Q
def cNe(K:Frag):R2
 | .int i,.int j,H,Q=>Q (.bl (!decide (i=j))) H
 | .bl i,.bl j,H,Q=>Q (.bl (!decide (i=j))) H
 | .str i,.str j,H,Q=>Q (.bl (!decide (i=j))) H
 | x,y,H,Q=>rNeD K x y H Q
def rInD(K:Frag)(neg:Bool):R2:=fun x y H Q=>∃ d ds,DV K H x d/\(DV K H y (.list ds)\/DV K H y (.tuple ds))/\PyData.canLayAll0 ds=true/\PyData.canLay0 d=true/\min (PyData.depthAll ds) d.depth<=62/\
 Q (.bl (if neg then !ds.any (fun y=>PyData.eqv y d) else ds.any fun y=>PyData.eqv y d)) H
def keyOf:V->Option Key
 | .int i=>some (.inl i)
 | .str x=>some (.inr x)
 | _=>none
def unD:Option HO->Option (List (Key × V))
 | some (.dK GA)=>some GA
 | _=>none
def cIn(K:Frag)(neg:Bool):R2
 | .ref a,y,H,Q=>rInD K neg (.ref a) y H Q
 | x,.ref p,H,Q=>(match unD (H p) with
  | some GA=>bnd (keyOf x) fun k=>Q (.bl (if neg then !(valV GA k).isSome else(valV GA k).isSome)) H
  | none=>bnd (unS (H p)) fun xs=>flatV x=true/\xs.all flatV=true/\Q (.bl (if neg then !inV x xs else inV x xs)) H)
 | .str i,.str j,H,Q=>Q (.bl (if neg then !(!(Builtin.Str.occurrences j i 0 j.length 1).isEmpty) else !(Builtin.Str.occurrences j i 0 j.length 1).isEmpty)) H
 | _,_,_,_=>False
def cIx:R2
 | .ref p,y,H,Q=>(match unD (H p) with
  | some GA=>bnd (keyOf y) fun k=>bnd (valV GA k) fun v=>Q v H
  | none=>match y with
   | .int i=>bnd (unS (H p)) fun xs=>bnd (atI xs i) fun v=>Q v H
   | _=>False)
 | .str z,.int i,H,Q=>z.length<=sizeLine/\bnd (atI z.cps.toList i) fun c=>Q (.str ⟨#[c]⟩) H
 | _,_,_,_=>False
def qz{GA:List (Key × V)}(h:unD o=some GA):o=some (.dK GA):=by
 unfold unD at h;split at h
 . cases h;rfl
 . cases h
def pW{x:V}{k:Key}(h:keyOf x=some k):x=kV k:=by
 unfold keyOf at h;split at h
 . cases h;rfl
 . cases h;rfl
 . cases h
section
variable{X:Cx}{a b c:Expr}{ta tb tc:TE}{pos:Pos}
def aA:OpR X (binaryOp .Add) cAdd:=by
 intro Gx s σ H x y v u Q I rx ry h;unfold cAdd at h
 split at h
 . exact Cu Gx s σ H _ _ v u Q I rx ry ⟨_,_,rfl,rfl,h⟩
 . exact x9 Gx s σ H _ _ v u Q I rx ry ⟨_,_,rfl,rfl,h.1,h.2⟩
 . obtain⟨xs,e1,h⟩:=aQ h;obtain⟨zs,e2,h⟩:=aQ h;exact CJ Gx s σ H _ _ v u Q I rx ry ⟨_,_,xs,zs,rfl,rfl,gG e1,gG e2,h.1,h.2⟩
 . exact h.elim
def cw:OpR X (binaryOp .Sub) cSub:=by
 intro Gx s σ H x y v u Q I rx ry h;unfold cSub at h
 split at h
 . exact Cv Gx s σ H _ _ v u Q I rx ry ⟨_,_,rfl,rfl,h⟩
 . exact h.elim
def bA:OpR X (binaryOp .Mult) cMul:=by
 intro Gx s σ H x y v u Q I rx ry h;unfold cMul at h
 split at h
 . exact Cw Gx s σ H _ _ v u Q I rx ry ⟨_,_,rfl,rfl,h.1,h.2⟩
 . exact h.elim
def dA:OpR X (binaryOp .FloorDiv) cDiv:=by
 intro Gx s σ H x y v u Q I rx ry h;unfold cDiv at h
 split at h
 . exact BG Gx s σ H _ _ v u Q I rx ry ⟨_,_,rfl,rfl,h.1,h.2⟩
 . exact h.elim
def aO:OpR X (binaryOp .Mod) cMod:=by
 intro Gx s σ H x y v u Q I rx ry h;unfold cMod at h
 split at h
 . exact Cy Gx s σ H _ _ v u Q I rx ry ⟨_,_,rfl,rfl,h.1,h.2⟩
 . exact h.elim
def oN{op:CmpOp}{g:Int->Int->Bool}(o:OpR X (compareOp op) (rI0 fun i j=>.bl (g i j))):OpR X (compareOp op) (cCmp g):=by
 intro Gx s σ H x y v u Q I rx ry h;unfold cCmp at h
 split at h
 . exact o Gx s σ H _ _ v u Q I rx ry ⟨_,_,rfl,rfl,h⟩
 . exact h.elim
def dY:OpR X (compareOp .Lt) (cCmp fun i j=>decide (i<j)):=oN Dy
def iL:OpR X (compareOp .LtE) (cCmp fun i j=>decide (i<=j)):=oN Dz
def dZ:OpR X (compareOp .Gt) (cCmp fun i j=>decide (j<i)):=oN DA
def vc:OpR X (compareOp .GtE) (cCmp fun i j=>decide (j<=i)):=oN DB
def CM(hu:X.A.units+64<cLine):OpR X (compareOp .Eq) (rEqD X.K):=by
 intro Gx s σ H x y v u Q I rx ry h;obtain⟨d,e,h1,h2,h3,h4,q⟩:=h;obtain⟨as,r1⟩:=h1.reads I rx;obtain⟨bs,r2⟩:=h2.reads I ry;exact eq_dataH r1 r2 h3 h4 hu ⟨.bl _,H,I,rfl,q⟩
def CN(hu:X.A.units+64<cLine):OpR X (compareOp .NotEq) (rNeD X.K):=by
 intro Gx s σ H x y v u Q I rx ry h;obtain⟨d,e,h1,h2,h3,h4,q⟩:=h;obtain⟨as,r1⟩:=h1.reads I rx;obtain⟨bs,r2⟩:=h2.reads I ry;exact ne_dataH r1 r2 h3 h4 hu ⟨.bl _,H,I,rfl,q⟩
def az(hu:X.A.units+64<cLine):OpR X (compareOp .Eq) (cEq X.K):=by
 intro Gx s σ H x y v u Q I rx ry h;unfold cEq at h
 split at h
 . refine xY Gx s σ H _ _ v u Q I rx ry ⟨rfl,?_⟩
   simpa using h
 . refine xY Gx s σ H _ _ v u Q I rx ry ⟨rfl,?_⟩
   simpa using h
 . refine xY Gx s σ H _ _ v u Q I rx ry ⟨rfl,?_⟩
   simpa using h
 . exact CM hu Gx s σ H _ _ v u Q I rx ry h
def dF(hu:X.A.units+64<cLine):OpR X (compareOp .NotEq) (cNe X.K):=by
 intro Gx s σ H x y v u Q I rx ry h;unfold cNe at h
 split at h
 . refine xZ Gx s σ H _ _ v u Q I rx ry ⟨rfl,?_⟩
   simpa using h
 . refine xZ Gx s σ H _ _ v u Q I rx ry ⟨rfl,?_⟩
   simpa using h
 . refine xZ Gx s σ H _ _ v u Q I rx ry ⟨rfl,?_⟩
   simpa using h
 . exact CN hu Gx s σ H _ _ v u Q I rx ry h
def CO(hu:X.A.units+64<cLine):OpR X (compareOp .In) (rInD X.K false):=by
 intro Gx s σ H x y v u Q I rx ry h;obtain⟨d,ds,h1,h2,h3,h4,h5,q⟩:=h;obtain⟨as,r1⟩:=h1.reads I rx;rcases h2 with h2 | h2
 . obtain⟨bs,r2⟩:=h2.reads I ry;exact SeqAt.in_list_reads r2 r1 h3 h4 #[0] ⟨.bl _,H,I,rfl,q⟩
 . obtain⟨bs,r2⟩:=h2.reads I ry;exact SeqAt.in_tuple_reads r2 r1 h3 h4 #[0] ⟨.bl _,H,I,rfl,q⟩
def zC(hu:X.A.units+64<cLine):OpR X (compareOp .NotIn) (rInD X.K true):=by
 intro Gx s σ H x y v u Q I rx ry h;obtain⟨d,ds,h1,h2,h3,h4,h5,q⟩:=h;obtain⟨as,r1⟩:=h1.reads I rx;rcases h2 with h2 | h2
 . obtain⟨bs,r2⟩:=h2.reads I ry;exact SeqAt.notIn_list_reads r2 r1 h3 h4 #[0] ⟨.bl _,H,I,rfl,q⟩
 . obtain⟨bs,r2⟩:=h2.reads I ry;exact SeqAt.notIn_tuple_reads r2 r1 h3 h4 #[0] ⟨.bl _,H,I,rfl,q⟩
def lG(hu:X.A.units+64<cLine):OpR X (compareOp .In) (cIn X.K false):=by
 intro Gx s σ H x y v u Q I rx ry h;unfold cIn at h
 split at h
 . exact CO hu Gx s σ H _ _ v u Q I rx ry h
 . rename_i p hx
   split at h
   . rename_i GA e
     obtain⟨k,ek,q⟩:=aQ h;cases (show u=Value.ref p from ry);have g:DGet H p x (valV GA k):=by rw[pW ek];exact DGet.k (qz e)
     exact DS (HU (Jo (by decide:1<=64) _) hu) I g rx fun s' I'=>⟨.bl _,H,I',rfl,q⟩
   . obtain⟨xs,e,f1,f2,q⟩:=aQ h;exact no Gx s σ H _ _ v u Q I rx ry ⟨p,xs,rfl,lF e,f1,f2,q⟩
 . exact zj Gx s σ H _ _ v u Q I rx ry ⟨_,_,rfl,rfl,h⟩
 . exact h.elim
def iM(hu:X.A.units+64<cLine):OpR X (compareOp .NotIn) (cIn X.K true):=by
 intro Gx s σ H x y v u Q I rx ry h;unfold cIn at h
 split at h
 . exact zC hu Gx s σ H _ _ v u Q I rx ry h
 . rename_i p hx
   split at h
   . rename_i GA e
     obtain⟨k,ek,q⟩:=aQ h;cases (show u=Value.ref p from ry);have g:DGet H p x (valV GA k):=by rw[pW ek];exact DGet.k (qz e)
     exact BU (HU (Jo (by decide:1<=64) _) hu) I g rx fun s' I'=>⟨.bl _,H,I',rfl,q⟩
   . obtain⟨xs,e,f1,f2,q⟩:=aQ h;exact np Gx s σ H _ _ v u Q I rx ry ⟨p,xs,rfl,lF e,f1,f2,q⟩
 . exact uX Gx s σ H _ _ v u Q I rx ry ⟨_,_,rfl,rfl,h⟩
 . exact h.elim
end
section
variable{X:Cx}{a b c:Expr}{ta tb tc:TE}{pos:Pos}
theorem CP(hu:X.A.units+64<cLine):IxR X cIx:=by
 intro value slice Gx s σ H x y v u Q I rx ry h hs
 cases x with
 | ref p=>
  unfold cIx at h;dsimp only at h
  split at h
  . rename_i GA e
    obtain⟨k,ek,h⟩:=aQ h;obtain⟨z,ez,q⟩:=aQ h;cases (show v=Value.ref p from rx);have g:DGet H p y (some z):=by rw[pW ek,← ez];exact DGet.k (qz e)
    exact tail_any (wx I g) JD.lookup (zw (HU (Jo (by decide:1<=64) _) hu) I g ry fun w' s3 I3 rw'=>⟨z,H,I3,rw',q⟩) hs
  . split at h
    . obtain⟨xs,e,h⟩:=aQ h;obtain⟨z,ez,q⟩:=aQ h;rcases lF (K:=X.K) e with r | r
      . exact xg value slice Gx s σ H _ _ v u Q I rx ry ⟨p,xs,_,z,rfl,rfl,r,ez,q⟩ hs
      . exact CF value slice Gx s σ H _ _ v u Q I rx ry ⟨p,xs,_,z,rfl,rfl,r,ez,q⟩ hs
    . exact h.elim
 | str zz=>
  cases y with
  | int i=>
   obtain⟨hz,h⟩:=(show zz.length<=sizeLine/\bnd (atI zz.cps.toList i) fun c=>Q (.str ⟨#[c]⟩) H from h);obtain⟨z,ez,q⟩:=aQ h;exact CG value slice Gx s σ H _ _ v u Q I rx ry ⟨_,_,z,rfl,rfl,hz,ez,q⟩ hs
  | _=>exact False.elim h
 | _=>exact False.elim h
def kLen:List V->Hp->VK->Prop
 | [.ref p],H,Q=>(match unD (H p) with
  | some GA=>Q (.int GA.length) H
  | none=>bnd (unS (H p)) fun xs=>Q (.int xs.length) H)
 | [.str z],H,Q=>z.length<=sizeLine/\Q (.int z.length) H
 | _,_,_=>False
def aI:CallR X (.builtin "len") kLen:=by
 intro Gx s σ H xs us Q I r h;unfold kLen at h
 split at h
 . split at h
   . rename_i GA e
     exact zx Gx s σ H _ us Q I r ⟨_,GA,rfl,qz e,h⟩
   . obtain⟨ys,e,q⟩:=aQ h;exact nq Gx s σ H _ us Q I r ⟨_,ys,rfl,lF e,q⟩
 . exact uY Gx s σ H _ us Q I r ⟨_,rfl,h.1,h.2⟩
 . exact h.elim
def kAbs:List V->Hp->VK->Prop
 | [.int i],H,Q=>Q (.int (if i<0 then -i else i)) H
 | _,_,_=>False
def kMin:List V->Hp->VK->Prop
 | [.int i,.int j],H,Q=>Q (.int (if j<i then j else i)) H
 | _,_,_=>False
def kMax:List V->Hp->VK->Prop
 | [.int i,.int j],H,Q=>Q (.int (if j>i then j else i)) H
 | _,_,_=>False
def zD(hc:X.calm=true):CallR X (.builtin "max") kMax:=by
 intro Gx s σ H xs us Q I r h;unfold kMax at h
 split at h
 . exact zk hc Gx s σ H _ us Q I r ⟨_,_,rfl,h⟩
 . exact h.elim
def kList:List V->Hp->VK->Prop
 | [.ref p],H,Q=>bnd (unS (H p)) fun ys=>∀ l,H l=none->Q (.ref l) (upd H l (.lst ys))
 | _,_,_=>False
def ju:CallR X (.type "list") kList:=by
 intro Gx s σ H xs us Q I r h;unfold kList at h
 split at h
 . obtain⟨ys,e,q⟩:=aQ h;exact uZ Gx s σ H _ us Q I r ⟨_,ys,rfl,lF e,q⟩
 . exact h.elim
def cO:List V->Hp->VK->Prop
 | [.ref p],H,Q=>bnd (unL (H p)) fun ys=>∃ ns:∅,ys=ns.map V.int/\ns.length<64/\∀(ns':∅) l,H l=none->ns'.Perm ns->ns'.Pairwise (· <=·)->Q (.ref l) (upd H l (.lst (ns'.map V.int)))
 | _,_,_=>False
def cQ:CallR X (.builtin "sorted") cO:=by
 intro Gx s σ H xs us Q I r h;unfold cO at h
 split at h
 . rename_i p
   obtain⟨ys,e,ns,rfl,GD,q⟩:=aQ h;obtain⟨u,rfl,ru⟩:=c5 r;cases ru;obtain⟨GB,rv,pl,hz⟩:=I.list (lE e);have hI:IntsAre GB ns:=qv rv;have hl:=rv.length;rw[GG] at hl;refine sorted_ints pl.isList hI #[0] fun out ns' hI' hp hs=>?_;have old:∀ b o,s.heap.get? b=some o->(sortedAll s.heap GB out).get? b=some o:=fun b o e=>sortedAll_old e;obtain⟨n,at_⟩:=sortedAll_at s.heap GB out;have hfresh:H (s.heap.objs.size+1)=none:=I.hok.fresh (Je _)
   have hlen':(ns'.map V.int).length<=sizeLine:=by
    rw[GG,hp.length_eq];exact Hs (Nat.lt_trans GD #[1])
   refine⟨.ref (s.heap.objs.size+1),_,I.laid (t':=s.toks) (a:=s.heap.objs.size+1) (o:=.lst (ns'.map V.int)) old (Je _) ⟨hlen',out.toList,n,nr hI',?_⟩,rfl,q ns' _ hfresh hp hs⟩;rw[at_]
 . exact h.elim
def jH(H:Hp):V->Option String
 | .non=>some "NoneType"
 | .bl _=>some "bool"
 | .int _=>some "int"
 | .str _=>some "str"
 | .ref p=>match H p with
  | ↥_=>some "list"
  | some (.frz _ (.lst _))=>some "list"
  | some (.tup _)=>some "tuple"
  | some (.dK _)=>some "dict"
  | _=>none
 | _=>none
def isTy(t n:String):Bool:=t==n||(t=="bool"&&n=="int")
def oO(n:String):Bool:=["int","bool","str","list","tuple","dict"].contains n
theorem zE{K:Frag}{H:Hp}{x:V}{t:String}(h:jH H x=some t):TyOf K H x (.type t)/\["NoneType","int","bool","str","list","tuple","dict"].contains t=true:=by
 cases x with
 | non=>cases h;exact⟨.non,by decide⟩
 | bl b=>cases h;exact⟨.bl b,by decide⟩
 | int i=>cases h;exact⟨.int i,by decide⟩
 | str i=>cases h;exact⟨.str i,by decide⟩
 | byt _=>cases h
 | flt _=>cases h
 | ty _=>cases h
 | ref p=>
  unfold jH at h;dsimp only at h
  split at h
  . rename_i e;cases h;exact⟨.lst e,by decide⟩
  . rename_i e;cases h;exact⟨.frz e,by decide⟩
  . rename_i e;cases h;exact⟨.tup e,by decide⟩
  . rename_i e;cases h;exact⟨.dK e,by decide⟩
  . cases h
def CQ(K:Frag):∀ t∈["NoneType","int","bool","str","list","tuple","dict"],∀ n∈["int","bool","str","list","tuple","dict"],PySem.W.kitOne K (.type t) (.type n)=some (isTy t n):=by
 intro t ht n hn;simp only[GU,HZ,JO] at ht hn;rcases ht with rfl | rfl | rfl | rfl | rfl | rfl | rfl <;> rcases hn with rfl | rfl | rfl | rfl | rfl | rfl <;> rfl
def kIsi:List V->Hp->VK->Prop
 | [x,.ty n],H,Q=>oO n=true/\bnd (jH H x) fun t=>Q (.bl (isTy t n)) H
 | _,_,_=>False
def cJ:CallR X (.builtin "isinstance") kIsi:=by
 intro Gx s σ H xs us Q I r h;unfold kIsi at h
 split at h
 . obtain⟨hn,h⟩:=h;obtain⟨t,et,q⟩:=aQ h;obtain⟨u,w,rfl,ru,rw'⟩:=Br r;cases rw';obtain⟨ty,ht⟩:=zE (K:=X.K) et;exact zo I ru ty (CQ X.K t (by simpa using ht) _ (by simpa [oO] using hn)) fun tk=>⟨.bl _,H,I.tok tk,rfl,q⟩
 . exact h.elim
def bK:V->List V->Hp->VK->Prop
 | .ref l,[y],H,Q=>bnd (unM (H l)) fun xs=>xs.length<sizeLine/\Q .non (upd H l (.lst (xs++[y])))
 | _,_,_,_=>False
def bC:MtR X "list.append" bK:=by
 intro Gx s σ H x vs v us Q I rx rv h;unfold bK at h
 split at h
 . obtain⟨xs,e,h1,q⟩:=aQ h;exact tG Gx s σ H _ _ v us Q I rx rv ⟨_,xs,_,rfl,rfl,gG e,h1,q⟩
 . exact h.elim
def oP:V->List V->Hp->VK->Prop
 | .ref l,[.ref b],H,Q=>bnd (unM (H l)) fun xs=>bnd (unM (H b)) fun zs=>xs.length+zs.length<=sizeLine/\Q .non (upd H l (.lst (xs++zs)))
 | _,_,_,_=>False
def yf:MtR X "list.extend" oP:=by
 intro Gx s σ H x vs v us Q I rx rv h;unfold oP at h
 split at h
 . obtain⟨xs,e,h⟩:=aQ h;obtain⟨zs,e2,h1,q⟩:=aQ h;exact zu Gx s σ H _ _ v us Q I rx rv ⟨_,_,xs,zs,rfl,rfl,gG e,gG e2,h1,q⟩
 . exact h.elim
def bD{K:Frag}{H:Hp}{p:Addr}{xs:List V}(h:H p=↥xs):tyV K "list" (.ref p) H:=.inl ⟨rfl,_,G6 h⟩
def cSl:V->Option Int->Option Int->Hp->VK->Prop
 | .ref p,lo,hi,H,Q=>bnd (unL (H p)) fun xs=>∀ l,H l=none->Q (.ref l) (upd H l (.lst (cutV xs lo hi)))
 | _,_,_,_,_=>False
def DT:SlR X cSl:=by
 intro Gx s σ H x v vl vu lo hi sl Q I rx hs pl pu h;unfold cSl at h
 split at h
 . obtain⟨xs,e,q⟩:=aQ h;exact BQ Gx s σ H _ v vl vu lo hi sl Q I rx hs pl pu ⟨_,xs,rfl,lE e,q⟩
 . exact h.elim
end
structure Cal(P:Program)(w:World)(K:Frag)(mg:Str->Option Value)(base:Heap)(k:Nat)(x:Str)(ps:List Str)(sp:Sp):Prop where
 ex:∃(f:Addr) (fd:FuncData),FnOk P w K mg base CX0 k f fd ps sp/\mg x=↑f/\keepIn K (.ref f)=true/\Binds K fd ps []
def CS {X:Cx} {k n:Nat} {x:Str} {ps:List Str} {sp:Sp} {p pos:Pos} {e:Expr} {es:List Expr} {t:TA} (C:Cal X.prog X.w X.K X.mg X.base k x ps sp) (hr:Room n X.A) (hk:k<=n) (hg:Gl X x) (ha:PA X (e::es) t)
  (hdb:(x==("__debug__":Str))=false:=by decide) (he:starEach (e::es) X.env=(false,eval e X.env)::starEach es X.env:=by rfl) (hpl:(backTo pos (starEach es X.env)).any (·.1)=false:=by rfl):
  PE X (.Call (.Name x p) (e::es) [] pos) (tCall sp [] E0 t):=by
 obtain⟨f,fd,F,hm,hkp,hb⟩:=C.ex;exact BM F (hr.mono hk) hg hm hkp hb .nil uK ha hdb he hpl
def aU:bootBuiltins "len"=some (.builtin "len"):=by decide+kernel
def zF:bootBuiltins "max"=some (.builtin "max"):=by decide+kernel
def d4:bootBuiltins "sorted"=some (.builtin "sorted"):=by decide+kernel
def vd:bootBuiltins "any"=some (.builtin "any"):=by decide+kernel
def ba:bootBuiltins "isinstance"=some (.builtin "isinstance"):=by decide+kernel
def gA:bootBuiltins "list"=some (.type "list"):=by decide+kernel
def ve:bootBuiltins "int"=some (.type "int"):=by decide+kernel
def xk:bootBuiltins "bool"=some (.type "bool"):=by decide+kernel
def vf:bootBuiltins "str"=some (.type "str"):=by decide+kernel
def mf:bootBuiltins "tuple"=some (.type "tuple"):=by decide+kernel
def compN(scope:Scope):List Str:=(scope.names.filter fun p=>p.2==.local||p.2==.cell||p.2==.free).map (·.1)
def qA(N:List Str)(scope:Scope):List (Option Nat):=(compN scope).map fun x=>if scope.names.lookup x==some .free then N.findIdx? (· ==x) else none
def isCF:Option NameKind->Bool
 | some .cell=>true
 | some .free=>true
 | _=>false
def CT{X:Cx}{scope:Scope}(h1:scope.kind=.function)(h2:(scope.names.map (·.1)).Nodup)(h3:(scope.names.all fun p=>p.2 != .free||isCF (X.env.kindOf p.1))=true):BlkOk X (compN scope) (qA X.N scope) scope where
 kind:=h1
 nd:=h2.sublist (List.Sublist.map _ (List.filter_sublist ..))
 len:=by unfold qA;rw[GG]
 names:=h2
 free:=fun x hx=>by
  have:=GZ.mp h3 (x,.free) hx;simp only[bne_self_eq_false,Ia] at this;unfold isCF at this
  split at this
  . rename_i e;exact .inl e
  . rename_i e;exact .inr e
  . cases this
 at_:=fun j i x e1 e2=>by
  unfold qA at e2;rw[GK,e1] at e2;simp only[J0,JE] at e2
  split at e2
  . rename_i hf
    obtain⟨hlt,hp,_⟩:=List.findIdx?_eq_some_iff_getElem.mp e2
    have hx:X.N[i]? =some x:=by
     rw[GH hlt];have:X.N[i]=x:=by simpa using hp
     rw[this]
    refine⟨hx,HL (by simpa using hf)⟩
  . cases e2
section
variable{t u:TS}{D:Ends}{σ:St}{H:Hp}{Q:VK}{ta tb:TE}{R:Bool->Hp->Prop}{c d:TT}
def aB:tSeq t u D σ H=t {D with nx:=u D} σ H:=rfl
def bE:tNext D σ H=D.nx σ H:=rfl
def bM{g:TG}:tAsg ta g D σ H=ta σ H fun x H1=>g x σ H1 D.nx:=rfl
def aL{i:Nat}{v:V}{k:St->Hp->Prop}:gName i v σ H k=k (σ.set i (some v)) H:=rfl
def DD{i:Nat}:tVar i σ H Q=∃ v,σ[i]? =some (some v)/\Q v H:=propext ⟨Bq,fun⟨_,e,h⟩=>iF e h⟩
def bO{v:V}{σ:St}:tVar 0 (some v::σ) H Q=Q v H:=rfl
def bP{i:Nat}{a:Option V}{σ:St}:tVar (i+1) (a::σ) H Q=tVar i σ H Q:=rfl
def w_c{v:V}:tC v σ H Q=Q v H:=rfl
def dN{r:R2}:tOp r ta tb σ H Q=ta σ H fun x H1=>tb σ H1 fun y H2=>r x y H2 Q:=rfl
def bN:tRet ta D σ H=ta σ H D.rt:=rfl
def bQ:tRetN D σ H=D.rt .non H:=rfl
def bF:tDrop ta D σ H=ta σ H fun _ H1=>D.nx σ H1:=rfl
def ax:tIfS c t u D σ H=c σ H fun b H1=>if b=true then t D σ H1 else u D σ H1:=rfl
def bR:tTest ta σ H R=ta σ H fun x H'=>∃ k,x=.bl k/\R k H':=rfl
def w_b:tB ta σ H R=ta σ H fun x H'=>∃ k,x=.bl k/\R k H':=rfl
def w_not:tNot c σ H R=c σ H fun k H1=>R (!k) H1:=rfl
def c7:tAnd c d σ H R=c σ H fun k H1=>if k=true then d σ H1 R else R false H1:=rfl
def fo:tOr c d σ H R=c σ H fun k H1=>if k=true then R true H1 else d σ H1 R:=rfl
def bS:tNotV ta σ H Q=ta σ H fun x H1=>∃ c,x=.bl c/\Q (.bl (!c)) H1:=rfl
def bT:tAndV ta tb σ H Q=ta σ H fun x H1=>∃ c,x=.bl c/\if c=true then tb σ H1 Q else Q (.bl false) H1:=rfl
def c9:tOrV ta tb σ H Q=ta σ H fun x H1=>∃ c,x=.bl c/\if c=true then Q (.bl true) H1 else tb σ H1 Q:=rfl
def cH{k:List V->Hp->Prop}:tNil σ H k=k [] H:=rfl
def bj{tr:TA}{k:List V->Hp->Prop}:tCons ta tr σ H k=ta σ H fun x H1=>tr σ H1 fun xs H2=>k (x::xs) H2:=rfl
def d7{r:List V->Hp->VK->Prop}{tr:TA}:tCB r tr σ H Q=tr σ H fun vs H1=>r vs H1 Q:=rfl
def bG{sp:Sp}{dvs:List V}{E:XK}{tr:TA}:tCall sp dvs E tr σ H Q=tr σ H fun vs H1=>sp (vs++dvs) H1 Q E:=rfl
def db{tr:TA}:tTup tr σ H Q=tr σ H fun xs H1=>xs.length<=sizeLine/\∀ p,H1 p=none->Q (.ref p) (upd H1 p (.tup xs)):=rfl
def cI{tr:TA}:tLst tr σ H Q=tr σ H fun xs H1=>xs.length<=sizeLine/\∀ p,H1 p=none->Q (.ref p) (upd H1 p (.lst xs)):=rfl
def d8{K:Frag}{T:String}{r:V->List V->Hp->VK->Prop}{tr:TA}:tBM K T r ta tr σ H Q=ta σ H fun x H1=>tyV K T x H1/\tr σ H1 fun xs H2=>r x xs H2 Q:=rfl
def dc{K:Frag}{T:String}{r:V->List V->Hp->VK->Prop}:ye K T r ta σ H Q=ta σ H fun x H1=>tyV K T x H1/\r x [] H1 Q:=rfl
def bU:tTrue σ H R=R true H:=rfl
def bV:CL σ H Q=∀ p,H p=none->Q (.ref p) (upd H p (.dK [])):=rfl
def bW{td ty tv:TE}:sDPut td ty tv D σ H=tv σ H fun v H1=>td σ H1 fun x H2=>ty σ H2 fun y H3=>∃ a H4,x=.ref a/\DPut H3 a y v H4/\D.nx σ H4:=rfl
def de{i j:Int}:cAdd (.int i) (.int j) H Q=Q (.int (i+j)) H:=rfl
def df{i j:Int}:cSub (.int i) (.int j) H Q=Q (.int (i-j)) H:=rfl
def dg{i j:Int}:cMul (.int i) (.int j) H Q=(CMul i j/\Q (.int (i*j)) H):=rfl
def dh{i j:Int}:cDiv (.int i) (.int j) H Q=(CDiv i j/\Q (.int (i/j)) H):=rfl
def dj{i j:Int}:cMod (.int i) (.int j) H Q=(0<j/\Q (.int (i%j)) H):=rfl
def dk{g:Int->Int->Bool}{i j:Int}:cCmp g (.int i) (.int j) H Q=Q (.bl (g i j)) H:=rfl
def dm{K:Frag}{i j:Int}:cEq K (.int i) (.int j) H Q=Q (.bl (decide (i=j))) H:=rfl
def dn{K:Frag}{i j:Int}:cNe K (.int i) (.int j) H Q=Q (.bl (!decide (i=j))) H:=rfl
def dq{K:Frag}{i j:Bool}:cEq K (.bl i) (.bl j) H Q=Q (.bl (decide (i=j))) H:=rfl
def dr{K:Frag}{i j:Bool}:cNe K (.bl i) (.bl j) H Q=Q (.bl (!decide (i=j))) H:=rfl
def gg{p:Addr}{i:Int}{xs:List V}(h:H p=some (.tup xs)):cIx (.ref p) (.int i) H Q=bnd (atI xs i) fun v=>Q v H:=by
 unfold cIx;dsimp only;rw[h];rfl
def Bv{p:Addr}{i:Int}{xs:List V}(h:H p=↥xs):cIx (.ref p) (.int i) H Q=bnd (atI xs i) fun v=>Q v H:=by
 unfold cIx;dsimp only;rw[h];rfl
def dt{i:Int}:kAbs [.int i] H Q=Q (.int (if i<0 then -i else i)) H:=rfl
def du{i j:Int}:kMin [.int i,.int j] H Q=Q (.int (if j<i then j else i)) H:=rfl
def cj{p:Addr}{xs:List V}(h:H p=↥xs):kLen [.ref p] H Q=Q (.int xs.length) H:=by
 unfold kLen;dsimp only;rw[h];rfl
def zG{p:Addr}{xs:List V}(h:H p=some (.tup xs)):kLen [.ref p] H Q=Q (.int xs.length) H:=by
 unfold kLen;dsimp only;rw[h];rfl
def d9{p:Addr}{xs:List V}{y:V}(h:H p=↥xs):bK (.ref p) [y] H Q=(xs.length<sizeLine/\Q .non (upd H p (.lst (xs++[y])))):=by
 unfold bK;dsimp only;rw[h];rfl
theorem nt:∀ ns:∅,(ns.map V.int).all flatV=true
 | []=>rfl
 | n::r=>by rw[Hd,Jd,nt r];rfl
theorem pX(i:Int):∀ ns:∅,inV (.int i) (ns.map V.int)=decide (i∈ns)
 | []=>by simp[inV]
 | n::r=>by
  have ih:=pX i r;unfold inV at ih ⊢;rw[Hd,JK,ih];show((n==i)||decide (i∈r))=decide (i∈n::r);rw[Hx,IO,IF,GX,GX,GU];exact⟨fun h=>h.elim (fun e=>.inl e.symm) .inr,fun h=>h.elim (fun e=>.inl e.symm) .inr⟩
def vg{K:Frag}{p:Addr}{i:Int}{ns:∅}(h:H p=↥(ns.map V.int)):cIn K false (.int i) (.ref p) H Q=Q (.bl (decide (i∈ns))) H:=by
 unfold cIn;dsimp only;rw[h];dsimp only[unD,unS,bnd];rw[pX,nt];simp[flatV]
def uN{K:Frag}{p:Addr}{i:Int}{ns:∅}(h:H p=↥(ns.map V.int)):cIn K true (.int i) (.ref p) H Q=Q (.bl (!decide (i∈ns))) H:=by
 unfold cIn;dsimp only;rw[h];dsimp only[unD,unS,bnd];rw[pX,nt];simp[flatV]
end
def LoopR(J:It)(g:TG)(tb:TS)(D:Ends)(σ:St)(H1:Hp):Prop:=∃ W:Nat->Nat->St->Hp->Prop,(∃ m,W 0 m σ H1)/\∀ i m σ H,W i m σ H->
 (J.stop i H/\D.nx σ H)\/(J.go i H/\∃ N:St->Hp->Prop,(∀ σ' H',N σ' H'->∃ m',m'<m/\W (i+1) m' σ' H')/\∀ x H',J.yld i H x H'->g x σ H' fun σ2 H2=>tb {D with nx:=N,ct:=N,bk:=D.nx} σ2 H2)
def CompR(J:It)(g:TG)(tt:TT)(te:TE)(fin:Addr->Hp->Prop)(σ0:St)(H1:Hp):Prop:=∀ l,H1 l=none->
 ∃ W:Nat->Nat->St->Hp->Prop,(∃ m,W 0 m σ0 (upd H1 l (.lst [])))/\∀ i m σ' H',W i m σ' H'->
  (J.stop i H'/\fin l H')\/(J.go i H'/\∃ N:St->Hp->Prop,(∀ σ'' H'',N σ'' H''->∃ m',m'<m/\W (i+1) m' σ'' H'')/\∀ x H2,J.yld i H' x H2->g x σ' H2 fun σ2 H3=>tt σ2 H3 fun b H4=>
   if b=true then te σ2 H4 fun y H5=>∃ ys,H5 l=↥ys/\ys.length<sizeLine/\N σ2 (upd H5 l (.lst (ys++[y]))) else N σ2 H4)
section
variable{K:Frag}{g:TG}{tb:TS}{D:Ends}{σ:St}{H:Hp}{tl:TE}{ta:TA}{ix:List (Option Nat)}{tt:TT}{te:TE}{k:Nat}{Q:VK}
def bX:tFor (iList K tl) g tb D σ H=tl σ H fun x H1=>∃ a,x=.ref a/\(∃ xs,SqL K H1 a xs)/\LoopR (Itl K a) g tb D σ H1:=rfl
def bf:tFor (dU ta) g tb D σ H=ta σ H fun vs H1=>∃ j:Int,vs=[.int j]/\ -(2^62)<=j/\j<2^62/\LoopR (Itr 0 j.toNat) g tb D σ H1:=rfl
def bg:tFor (oK ta) g tb D σ H=ta σ H fun vs H1=>∃ i j:Int,vs=[.int i,.int j]/\(-(2^62)<=i/\i<2^62/\ -(2^62)<=j/\j<2^62)/\LoopR (Itr i (j-i).toNat) g tb D σ H1:=rfl
def bc:tComp ix (iList K tl) g tt te σ H Q=tl σ H fun x H1=>∃ a,x=.ref a/\(∃ xs,SqL K H1 a xs)/\CompR (Itl K a) g tt te (fun l H'=>Q (.ref l) H') (subσ ix σ) H1:=rfl
def aY:tComp ix (dU ta) g tt te σ H Q=ta σ H fun vs H1=>∃ j:Int,vs=[.int j]/\ -(2^62)<=j/\j<2^62/\CompR (Itr 0 j.toNat) g tt te (fun l H'=>Q (.ref l) H') (subσ ix σ) H1:=rfl
def aZ:sComp k ix (iList K tl) g tt te D σ H=tl σ H fun x H1=>∃ a,x=.ref a/\(∃ xs,SqL K H1 a xs)/\CompR (Itl K a) g tt te (fun l H'=>D.nx (σ.set k ↑l) H') (subσ ix σ) H1:=rfl
def aR:sComp k ix (dU ta) g tt te D σ H=ta σ H fun vs H1=>∃ j:Int,vs=[.int j]/\ -(2^62)<=j/\j<2^62/\CompR (Itr 0 j.toNat) g tt te (fun l H'=>D.nx (σ.set k ↑l) H') (subσ ix σ) H1:=rfl
def qB {lo:Int} {n:Nat} {fin:Addr->Hp->Prop} {σ0:St} {H1:Hp} (Pv:Addr->Nat->St->Hp->Prop) (h0:∀ l,H1 l=none->Pv l 0 σ0 (upd H1 l (.lst [])))
  (hs:∀ l i σ H,H1 l=none->i<n->Pv l i σ H->g (.int (lo+i)) σ H fun σ2 H3=>tt σ2 H3 fun b H4=>if b=true then te σ2 H4 fun y H5=>∃ ys,H5 l=↥ys/\ys.length<sizeLine/\Pv l (i+1) σ2 (upd H5 l (.lst (ys++[y]))) else Pv l (i+1) σ2 H4)
  (hd:∀ l σ H,H1 l=none->Pv l n σ H->fin l H):CompR (Itr lo n) g tt te fin σ0 H1:=by
 intro l hl0;refine⟨fun i m σ H=>m=n-i/\i<=n/\Pv l i σ H,⟨n,by simp,HG _,h0 l hl0⟩,?_⟩;rintro i m σ H ⟨rfl,hi,p⟩;by_cases hlt:i<n
 . refine .inr ⟨hlt,Pv l (i+1),fun σ' H' p'=>⟨n - (i+1),by omega,rfl,hlt,p'⟩,fun x H' y=>?_⟩;obtain⟨e,y⟩:=y;subst e y;exact hs l i σ _ hl0 hlt p
 . have e:i=n:=by omega
   subst e;exact .inl ⟨GP _,hd l σ H hl0 p⟩
def nv {a:Addr} {xs:List V} {fin:Addr->Hp->Prop} {σ0:St} {H1:Hp} (Pv:Addr->Nat->St->Hp->Prop) (h0:∀ l,H1 l=none->Pv l 0 σ0 (upd H1 l (.lst []))) (hq:∀ l i σ H,H1 l=none->i<=xs.length->Pv l i σ H->SqL K H a xs)
  (hs:∀ l i x σ H,H1 l=none->xs[i]? =some x->Pv l i σ H->g x σ H fun σ2 H3=>tt σ2 H3 fun b H4=>if b=true then te σ2 H4 fun y H5=>∃ ys,H5 l=↥ys/\ys.length<sizeLine/\Pv l (i+1) σ2 (upd H5 l (.lst (ys++[y]))) else Pv l (i+1) σ2 H4)
  (hd:∀ l σ H,H1 l=none->Pv l xs.length σ H->fin l H):CompR (Itl K a) g tt te fin σ0 H1:=by
 intro l hl0;refine⟨fun i m σ H=>m=xs.length-i/\i<=xs.length/\Pv l i σ H,⟨xs.length,by simp,HG _,h0 l hl0⟩,?_⟩;rintro i m σ H ⟨rfl,hi,p⟩;have q:=hq l i σ H hl0 hi p;by_cases hlt:i<xs.length
 . refine .inr ⟨⟨xs,xs[i],q,by simp[hlt]⟩,Pv l (i+1),fun σ' H' p'=>⟨xs.length - (i+1),by omega,rfl,hlt,p'⟩,fun x H' y=>?_⟩;obtain⟨e,y⟩:=y;subst e;exact hs l i x σ _ hl0 (y xs q) p
 . have e:i=xs.length:=by omega
   subst e;exact .inl ⟨⟨xs,q,GP _⟩,hd l σ H hl0 p⟩
def qC{p q:Addr}{xs ys:∅}(hp:H p=↥(xs.map V.int))(hq:H q=↥(ys.map V.int))(h:Q (.bl (decide (xs=ys))) H):cEq K (.ref p) (.ref q) H Q:=by
 show rEqD K (.ref p) (.ref q) H Q;refine⟨.list (xs.map PyData.int),.list (ys.map PyData.int),.lst (G6 hp) (.ints xs),.lst (G6 hq) (.ints ys),iG xs,iG ys,?_⟩;rw[PyData.eqv,vb];exact h
def oQ{p q:Addr}{xs ys:∅}(hp:H p=↥(xs.map V.int))(hq:H q=↥(ys.map V.int))(h:Q (.bl (!decide (xs=ys))) H):cNe K (.ref p) (.ref q) H Q:=by
 show rNeD K (.ref p) (.ref q) H Q;refine⟨.list (xs.map PyData.int),.list (ys.map PyData.int),.lst (G6 hp) (.ints xs),.lst (G6 hq) (.ints ys),iG xs,iG ys,?_⟩;rw[PyData.eqv,vb];exact h
def AQ{p:Addr}{ns:∅}(hp:H p=↥(ns.map V.int))(hn:ns.length<64)(h:∀(ns':∅) l,H l=none->ns'.Perm ns->ns'.Pairwise (· <=·)->Q (.ref l) (upd H l (.lst (ns'.map V.int)))):cO [.ref p] H Q:=by
 unfold cO;dsimp only;rw[hp];exact⟨ns,rfl,hn,h⟩
def vh{p:Addr}{xs:List V}(hp:H p=↥xs)(h:∀ l,H l=none->Q (.ref l) (upd H l (.lst xs))):kList [.ref p] H Q:=by
 unfold kList;dsimp only;rw[hp];exact h
end
def aD{X:Cx}{N:List Str}{ix:List (Option Nat)}{scope:Scope}(h1:scope.kind=.function)(h2:(scope.names.map (·.1)).Nodup)(h3:(scope.names.all fun p=>p.2 != .free||isCF (X.env.kindOf p.1))=true)(h4:N=compN scope)(h5:ix=qA X.N scope):BlkOk X N ix scope:=by
 subst h4 h5;exact CT h1 h2 h3
def kLenS(K:Frag):List V->Hp->VK->Prop:=fun xs H Q=>∃ p ys,xs=[.ref p]/\(SqL K H p ys\/SqT K H p ys)/\Q (.int ys.length) H
structure Bt(mg:Str->Option Value):Prop where
 len_:mg "len"=none
 abs_:mg "abs"=none
 min_:mg "min"=none
 max_:mg "max"=none
 sorted_:mg "sorted"=none
 any_:mg "any"=none
 isinstance_:mg "isinstance"=none
 list_:mg "list"=none
 int_:mg "int"=none
 bool_:mg "bool"=none
 str_:mg "str"=none
 tuple_:mg "tuple"=none
 reversed_:mg "reversed"=none
 set_:mg "set"=none
 range_:mg "range"=none
 zip_:mg "zip"=none
theorem Vals.get':∀{xs:List V} {us:List Value} {i:Nat} {u:Value},Vals xs us->us[i]? =some u->∃ x,xs[i]? =some x/\RelV x u
 | _,_,_,_,.nil,h=>by simp at h
 | _,_,0,_,.cons r _,h=>by simp at h;subst h;exact⟨_,rfl,r⟩
 | _,_,i+1,_,.cons _ t,h=>by
  obtain⟨x,hx,r⟩:=Vals.get' (i:=i) t (by simpa using h);exact⟨x,by simpa using hx,r⟩
section
variable{X:Cx}{Gx:List (Addr × Obj)}{σ:St}{H:Hp}{s s':Shared}
def Inv.kept'(I:Inv X Gx σ H s)(k:∀ b u,s.heap.get? b=some u->s'.heap.get? b=some u)(ho:s'.os=s.os)(hg:AllBare s'.gens):Inv X Gx σ H s':=
 I.call' (ch:=[]) ho (Un.kept k) (I.hok.kept k) hg fun b z=>absurd z (by simp)
def Inv.walked{l:Addr}{o:Obj}(I:Inv X Gx σ H s)(hm:Moved [s.heap.objs.size] (fun a b=>b=a) {s with heap:=s.heap.push o} s'):Inv X Gx σ H s':=by
 refine I.kept' (fun b u e=>hm.heap b u (fun z=>?_) (GO _ e)) hm.os (by rw[show s'.gens=s.gens from hm.gens];exact I.bare);have:b=s.heap.objs.size:=by simpa using z
 exact absurd (GY e) (by rw[this];exact HP _)
def kAny:List V->Hp->VK->Prop
 | [.ref p],H,Q=>bnd (unL (H p)) fun ys=>∃ bs:List Bool,ys=bs.map V.bl/\Q (.bl (bs.any id)) H
 | _,_,_=>False
def zH(bs:List Bool):(List.range bs.length).any (fun i=>bs.getD i false)=bs.any id:=by
 rw[Hx,Ij,Ij];constructor
 . rintro⟨i,hi,h⟩;have hi':i<bs.length:=G0.mp hi;exact⟨bs[i],Hf hi',by simpa [List.getD,hi'] using h⟩
 . rintro⟨b,hb,h⟩;obtain⟨i,hi,e⟩:=Ib.mp hb;refine⟨i,G0.mpr hi,?_⟩;have h':b=true:=h;rw[List.getD,GH hi,e];exact h'
def nA(hc:X.calm=true):CallR X (.builtin "any") kAny:=by
 intro Gx s σ H xs us Q I r h;unfold kAny at h
 split at h
 . rename_i p
   obtain⟨ys,e,bs,rfl,q⟩:=aQ h;obtain⟨u,rfl,ru⟩:=c5 r;cases ru;obtain⟨GB,rv,pl,hz⟩:=I.list (lE e);have hl:=rv.length;rw[GG] at hl
   have hlt:p<s.heap.objs.size:=by
    obtain⟨o,h1,_⟩:=pl.isList;exact GY h1
   refine call_any_walkS (ID pl.isList ?_);refine⟨s.heap.objs.size,_,_,_,GB.toArray.size,_,_,fun i=>bs.getD i false,rfl,(Kb (A:=X.A.in1) (I.ok.hd hc) s.heap.objs.size p (Hk hlt) GB.toArray).toS,⟨⟨_,G8 _ rfl,rfl,rfl⟩,pl.isList.push _⟩,?_,fun s' hm=>?_⟩
   . intro i v s1 Q1 E1 hP hQ;have hv:GB[i]? =some v:=by simpa using hP
     obtain⟨x,hx,rx⟩:=rv.get' hv;obtain⟨b,hb,rfl⟩:∃ b,bs[i]? =some b/\V.bl b=x:=by simpa using hx
     cases rx;refine Ic ?_;have e3:bs.getD i false=b:=by simp[List.getD,hb]
     rw[← e3];exact hQ
   . refine⟨.bl _,H,I.walked (l:=p) hm,?_,q⟩;have e2:GB.toArray.size=bs.length:=by rw[GT];exact hl.symm
     rw[e2,zH];rfl
 . exact h.elim
def lH(K:Frag):V->List V->Hp->VK->Prop
 | .ref p,[y],H,Q=>∃(ds:List PyData) (d:PyData) (j:Nat),DV K H (.ref p) (.list ds)/\DV K H y d/\PyData.canLayAll0 ds=true/\PyData.canLay0 d=true/\min (PyData.depthAll ds) d.depth<=62/\
   j<=1000/\(∃ e,ds[j]? =some e/\PyData.eqv e d=true)/\(∀ m e,m<j->ds[m]? =some e->PyData.eqv e d=false)/\Q (.int j) H
 | _,_,_,_=>False
def nB(hu:X.A.units+64<cLine):MtR X "list.index" (lH X.K):=by
 intro Gx s σ H x vs v us Q I rx rv h;unfold lH at h
 split at h
 . rename_i p y
   obtain⟨ds,d,j,hp,hy,hl,hd,hdep,hj,⟨e,ej,et⟩,hno,q⟩:=h;cases rx;obtain⟨u,rfl,ru⟩:=c5 rv;obtain⟨as,rc⟩:=hp.reads I rfl;obtain⟨bs,rx⟩:=hy.reads I ru
   cases rc with
   | @list _ o GB n _ _ h1 h2 h3 h4=>
    obtain⟨oc,od,oda,osl⟩:=o;dsimp only at h2 h3;subst h2 h3;have hmap:=SeqAt.readsAll_map ds _ _ hl h4
    have at_:∀(m:Nat) (hm:m<GB.size),ds[m]? =some (SeqAt.readOf s.heap GB[m]):=fun m hm=>by
     rw[← hmap,GK,J5,Array.getElem?_eq_getElem hm];rfl
    have hjs:j<GB.size:=by
     have:=(GN.mp ej).1;rw[← hmap,GG,IN] at this;exact this
    refine IA F.slot_list_index ⟨_,h1,rfl⟩ F.entry_list_index (F.args_list_index_2 _ _) (SeqAt.list_indexAt p GB n od osl u (fun y=>PyData.eqv (SeqAt.readOf s.heap y) d) j hjs #[0] ?_ ?_) ⟨h1,SeqAt.items_eqAt h4 rx hl hd ?_,⟨.int j,H,I.tok _,⟨_,rfl⟩,q⟩⟩
    . have:=at_ j hjs;rw[ej] at this;cases this;exact et
    . intro m hm hlt;exact hno m _ hlt (at_ m hm)
    . omega
 . exact h.elim
def CU{h:Heap}{a b:Addr}{o u:Obj}{c d:String}(ha:h.get? a=some o)(hb:h.get? b=some u)(hc:o.cls=.type c)(hd:u.cls=.type d)(ne:c≠d):a≠b:=by
 rintro rfl;rw[ha] at hb;cases hb;rw[hc] at hd;cases hd;exact ne rfl
end
open Builtin Builtin.Str
theorem sk:∀{ts:List Str} {us:List Value},Vals (ts.map V.str) us->∃ l:List (Str × Tok),us=strValues l/\l.map (·.1)=ts
 | [],_,.nil=>⟨[],rfl,rfl⟩
 | t::ts,_,.cons r rs=>by
  obtain⟨l,rfl,e⟩:=sk (ts:=ts) rs;obtain⟨u,rfl⟩:=r;exact⟨(t,u)::l,rfl,by rw[Hd,e]⟩
theorem tI:∀(l:List (Str × Tok)),Vals ((l.map (·.1)).map V.str) (strValues l)
 | []=>.nil
 | (t,u)::l=>.cons ⟨u,rfl⟩ (tI l)
section
variable{X:Cx}
def kFind:V->List V->Hp->VK->Prop
 | .str x,[.str y],H,Q=>Q (.int (Txt.find x y)) H
 | _,_,_,_=>False
def qD:V->List V->Hp->VK->Prop
 | .str x,[.str y],H,Q=>(y.length==0)=false/\x.length<=sizeLine/\(Txt.split x y).length<=sizeLine/\∀ l,H l=none->Q (.ref l) (upd H l (.lst ((Txt.split x y).map V.str)))
 | _,_,_,_=>False
def zI:MtR X "str.split" qD:=by
 intro Gx s σ H x vs v us Q I rx rv h;unfold qD at h
 split at h
 . rename_i x y
   obtain⟨t,rfl⟩:=rx;obtain⟨u,rfl,ru⟩:=c5 rv;obtain⟨t2,rfl⟩:=ru;obtain⟨hy,hx,hn,q⟩:=h
   have fin:∀(l:List (Str × Tok)) (k:Nat),l.map (·.1)=Txt.split x y->EP X Gx σ Q (.ref s.heap.objs.size) {s with heap:=s.heap.push {cls:=.type "list",data:=.seq (strValues l).toArray},toks:=k}:=fun l k e=>by
    refine⟨.ref s.heap.objs.size,_,I.lnew (t':=k) (ys:=(Txt.split x y).map V.str) (GB:=strValues l) ?_ (by rw[GG];exact hn),rfl,q _ I.fresh⟩;rw[← e];exact tI l
   cases h1:(decide (x.length<y.length)||decide (strKind x<strKind y))
   . cases hf:(occurrences x y 0 x.length (x.length+1)).isEmpty
     . have e3:Txt.split x y=partsBetween x (occurrences x y 0 x.length (x.length+1)) y.length:=(G3 (Jp h1)).trans (G3 (Jp hf));refine IA JP (Jb _ _ _) JI (Jy _ _) (meets_str_split_sep x y t t2 h1 hy hf hx (by rw[← e3];exact hn)) ?_;show wants _ _ _ {s with toks:=_,heap:=s.heap.push {cls:=.type "list",data:=.seq (strsFrom s.toks (partsBetween x (occurrences x y 0 x.length (x.length+1)) y.length)).toArray}};rw[strsFrom_eq];exact fin (numbered s.toks _) _ ((numbered_texts _ _).trans e3.symm)
     . exact IA JP (Jb _ _ _) JI (Jy _ _) (meets_str_split_not_found x y t t2 h1 hy hf)
        (fin [(x,t)] s.toks ((G3 (Jp h1)).trans (G9 hf)).symm)
   . exact IA JP (Jb _ _ _) JI (Jy _ _) (meets_str_split_cannot_occur x y t t2 h1)
      (fin [(x,t)] s.toks (G9 h1).symm)
 . exact h.elim
def ik:V->Option Int->Option Int->Hp->VK->Prop
 | .ref p,lo,hi,H,Q=>cSl (.ref p) lo hi H Q
 | .str z,lo,hi,H,Q=>z.length<=sizeLine/\Q (.str (Txt.slice z lo hi)) H
 | _,_,_,_,_=>False
theorem jv:SlR X ik:=by
 intro Gx s σ H x v vl vu lo hi sl Q I rx hs pl pu h
 cases x with
 | ref p=>exact DT Gx s σ H _ v vl vu lo hi sl Q I rx hs pl pu h
 | str z=>
  obtain⟨hz,q⟩:=(show z.length<=sizeLine/\Q (.str (Txt.slice z lo hi)) H from h);obtain⟨t,rfl⟩:=rx;have fin:∀ t' k,EP X Gx σ Q (.str (Txt.slice z lo hi) t') {s with toks:=k}:=fun t' k=>⟨.str _,H,I.tok k,⟨t',rfl⟩,q⟩;refine⟨"str",_,F.slot_str_getitem.lookup,Jb _ _ _,?_⟩
  cases pl with
  | none=>
   cases pu with
   | none=>exact Iw (l:=none) (u:=none) (st:=none) hs rfl (Jj ⟨GS (JW z _ _) hz,fin⟩)
   | int j tj=>exact Iw (l:=none) (u:=some (j,tj)) (st:=none) hs rfl (Jj ⟨GS (JW z _ _) hz,fin⟩)
  | int i ti=>
   cases pu with
   | none=>exact Iw (l:=some (i,ti)) (u:=none) (st:=none) hs rfl (Jj ⟨GS (JW z _ _) hz,fin⟩)
   | int j tj=>exact Iw (l:=some (i,ti)) (u:=some (j,tj)) (st:=none) hs rfl (Jj ⟨GS (JW z _ _) hz,fin⟩)
 | _=>exact False.elim h
def Its(x:Str):It:=⟨fun i _=>i<x.cps.size,fun i H v H'=>H'=H/\∃ c,x.cps[i]? =some c/\v=.str ⟨#[c]⟩,fun i _=>x.cps.size<=i⟩
def vi {P:Program} {w:World} {K:Frag} {tg:Expr} {x:Str} {t:Tok} (it:Addr) (ty:String) (hty:["enumerate","zip","dict_itemiterator","dict_reverseitemiterator","odict_iterator","itertools.zip_longest","itertools.pairwise"].contains ty=false)
  (W:∀ A:Around,A.handled=none->Walks P w A it [it] [it] x.cps.size (SignAt x) (fun i h=>h.IsStrIter it ty x t i))
  (slf:∀(A:Around) (i:Nat) (s:Shared) (Q:Value->Shared->Prop) (E:Value->Shared->Prop),s.heap.IsStrIter it ty x t i->Q (.ref it) s->wpAny (model P w) A (pyIter (.ref it)) Q E s):
  Turn P w K tg (Its x) [it] it (fun i h=>i<=x.cps.size/\h.IsStrIter it ty x t i) where
 mem:=by simp
 obj:=fun i h st b hb=>by
  have e:b=it:=by simpa using hb
  subst e;obtain⟨_,o,e,c,d⟩:=st;exact⟨o,e,fun v z=>by rw[d] at z;cases z⟩
 keep:=fun i h h' st k=>by
  obtain⟨hi,o,e,c,d⟩:=st;exact⟨hi,o,k it (by simp) o e,c,d⟩
 item:=by
  intro X hP hw hK hc i Gx s σ H E I hf st hg;subst hP hw hK;obtain⟨f0,f1,f2,f3,f4,f5⟩:=hf it (by simp);have hlt:i<x.cps.size:=hg;refine(W X.A (I.ok.hd hc)).item i s _ _ hlt st.2 fun v h' tk hv st' kk=>?_;obtain⟨c,u,hcu,rfl⟩:=hv;have I1:Inv X Gx σ H {s with heap:=h',toks:=tk}:=I.turned (fun b o hb e=>kk b o (by simpa using hb) e) f0 f1 f3 f4 f5;obtain⟨o,e,c',d⟩:=id st';exact⟨_,rfl,uI (s:={s with heap:=h',toks:=tk}) e c' d hty ⟨.str ⟨#[c]⟩,H,I1,⟨u,rfl⟩,⟨rfl,c,hcu,rfl⟩,⟨hlt,st'⟩,fun b hb=>(hf b hb).1⟩⟩
 done:=by
  intro X hP hw hK hc i Gx s σ H E I hf st hg;subst hP hw hK;obtain⟨f0,f1,f2,f3,f4,f5⟩:=hf it (by simp);have hle:x.cps.size<=i:=hg;have e:i=x.cps.size:=Nat.le_antisymm st.1 hle;subst e;exact(W X.A (I.ok.hd hc)).done s _ _ st.2 fun h' tk kk=>⟨rfl,I.turned (fun b o hb e=>kk b o (by simpa using hb) e) f0 f1 f3 f4 f5⟩
 self:=fun A i s Q E st h=>slf A i s Q E st.2 h
def iStr(tl:TE):TI:=fun σ H R=>tl σ H fun x H1=>∃ z,x=.str z/\R (Its z) H1
def CV{tg l:Expr}{tl:TE}(hl:PE X l tl):PI X tg l (iStr tl):=by
 intro Gx s σ H R I h;refine thn (hl Gx s σ H _ I h) fun v s1 ⟨x,H1,I1,r1,q1⟩=>?_;obtain⟨z,rfl,q⟩:=q1;obtain⟨t,rfl⟩:=r1
 have fin:∀ b∈[s1.heap.objs.size],FpOk X Gx H1 b:=fun b hb=>by
  have e:b=s1.heap.objs.size:=by simpa using hb
  subst e;exact I1.fpOk (GP _) (I1.hok.fresh (GP _))
 cases ha:z.cps.all (· < 128)
 . refine wpAny_pyIter_wide ha ⟨s1.heap.objs.size,[s1.heap.objs.size],_,Its z,H1,rfl,I1.kept (t':=s1.toks) fun b o e=>GO _ e,vi (t:=t) _ "str_iterator" #[1] (fun A' hA=>Walks.strWide hA _ z t) (fun A i s Q E st hq=>wpAny_pyIter_striter_wide st hq),⟨HG _,_,G8 _ rfl,rfl,rfl⟩,fin,q⟩
 . refine wpAny_pyIter_ascii ha ⟨s1.heap.objs.size,[s1.heap.objs.size],_,Its z,H1,rfl,I1.kept (t':=s1.toks) fun b o e=>GO _ e,vi (t:=t) _ "str_ascii_iterator" #[1] (fun A' hA=>Walks.strAscii hA _ z t) (fun A i s Q E st hq=>wpAny_pyIter_striter_ascii st hq),⟨HG _,_,G8 _ rfl,rfl,rfl⟩,fin,q⟩
end
section
variable{K:Frag}{g:TG}{tb:TS}{D:Ends}{σ:St}{H:Hp}{tl:TE}{ix:List (Option Nat)}{tt:TT}{te ta:TE}{k:Nat}{Q:VK}
def fq{r:V->Option Int->Option Int->Hp->VK->Prop}{a b:TO}:tSl r te a b σ H Q=te σ H fun x H1=>a σ H1 fun l H2=>b σ H2 fun u H3=>r x l u H3 Q:=rfl
def bY{R:Option Int->Hp->Prop}:tPart te σ H R=te σ H fun x H1=>∃ i,x=.int i/\R (some i) H1:=rfl
def a6{R:Option Int->Hp->Prop}:fU σ H R=R none H:=rfl
def bZ{to ti:TE}{t:TSet}{v:V}{R:St->Hp->Prop}:gSub to ti t v σ H R=to σ H fun o H1=>ti σ H1 fun i H2=>t o i v H2 fun H3=>R σ H3:=rfl
def ft{r:V->Hp->VK->Prop}:tUn r te σ H Q=te σ H fun x H1=>r x H1 Q:=rfl
def b2:tFor (iStr tl) g tb D σ H=tl σ H fun x H1=>∃ z,x=.str z/\LoopR (Its z) g tb D σ H1:=rfl
def bh:tComp ix (iStr tl) g tt te σ H Q=tl σ H fun x H1=>∃ z,x=.str z/\CompR (Its z) g tt te (fun l H'=>Q (.ref l) H') (subσ ix σ) H1:=rfl
def a7:sComp k ix (iStr tl) g tt te D σ H=tl σ H fun x H1=>∃ z,x=.str z/\CompR (Its z) g tt te (fun l H'=>D.nx (σ.set k ↑l) H') (subσ ix σ) H1:=rfl
def Bw{x:Str}:tyV K "str" (.str x) H:=rfl
def dv{i j:Str}:cEq K (.str i) (.str j) H Q=Q (.bl (decide (i=j))) H:=rfl
def dw{i j:Str}:cNe K (.str i) (.str j) H Q=Q (.bl (!decide (i=j))) H:=rfl
def b3{z:Str}:kLen [.str z] H Q=(z.length<=sizeLine/\Q (.int z.length) H):=rfl
def b4{i j:Str}:cAdd (.str i) (.str j) H Q=(i.length+j.length<=sizeLine/\Q (.str (i++j)) H):=rfl
def DE{z:Str}{i:Int}:cIx (.str z) (.int i) H Q=(z.length<=sizeLine/\bnd (atI z.cps.toList i) fun c=>Q (.str ⟨#[c]⟩) H):=rfl
def b5{x y:Str}:kFind (.str x) [.str y] H Q=Q (.int (Txt.find x y)) H:=rfl
def BV{x y:Str}:qD (.str x) [.str y] H Q=((y.length==0)=false/\x.length<=sizeLine/\(Txt.split x y).length<=sizeLine/\∀ l,H l=none->Q (.ref l) (upd H l (.lst ((Txt.split x y).map V.str)))):=rfl
def mh{p:Addr}{lo hi:Option Int}{xs:List V}(hp:H p=↥xs)(h:∀ l,H l=none->Q (.ref l) (upd H l (.lst (cutV xs lo hi)))):ik (.ref p) lo hi H Q:=by
 show bnd (unL (H p)) _;rw[hp];exact h
end
def cBitI(g:Int->Int->Int):R2
 | .int i,.int j,H,Q=>Q (.int (g i j)) H
 | _,_,_,_=>False
def cShr:R2
 | .int i,.int j,H,Q=>0<=j/\Q (.int (i/2^j.toNat)) H
 | _,_,_,_=>False
abbrev cOr:R2:=cBitI Builtin.bitOr
section
variable{X:Cx}
def AR{o:Operator}{g:Int->Int->Int}(h0:OpR X (binaryOp o) (rI0 fun i j=>.int (g i j))):OpR X (binaryOp o) (cBitI g):=by
 intro Gx s σ H x y v u Q I rx ry h;unfold cBitI at h
 split at h
 . exact h0 Gx s σ H _ _ v u Q I rx ry ⟨_,_,rfl,rfl,h⟩
 . exact h.elim
def zJ:OpR X (binaryOp .BitOr) cOr:=AR Dx
def BW:OpR X (binaryOp .RShift) cShr:=by
 intro Gx s σ H x y v u Q I rx ry h;unfold cShr at h
 split at h
 . exact Cz Gx s σ H _ _ v u Q I rx ry ⟨_,_,rfl,rfl,h.1,h.2⟩
 . exact h.elim
end
section
variable{H:Hp}{Q:VK}{i j:Int}
def cR{g:Int->Int->Int}:cBitI g (.int i) (.int j) H Q=Q (.int (g i j)) H:=rfl
def eh:cShr (.int i) (.int j) H Q=(0<=j/\Q (.int (i/2^j.toNat)) H):=rfl
end
section
variable{X:Cx}
def kInt:List V->Hp->VK->Prop
 | [.int i],H,Q=>Q (.int i) H
 | [.bl k],H,Q=>Q (.int (if k then 1 else 0)) H
 | _,_,_=>False
def lI:V->List V->Hp->VK->Prop
 | .int i,[],H,Q=>Q (.int (Builtin.Int.intBits i:Nat)) H
 | _,_,_,_=>False
def qE:MtR X "int.bit_length" lI:=by
 intro Gx s σ H x vs v us Q I rx rv h;unfold lI at h
 split at h
 . obtain⟨t,rfl⟩:=rx;cases rv;exact call_int_bit_length ⟨.int _,H,I.tok _,⟨_,rfl⟩,h⟩
 . exact h.elim
def cRepL:R2
 | .ref l,.int k,H,Q=>bnd (unM (H l)) fun xs=> -(2^63)<=k/\k<2^63/\xs.length*k.toNat<=sizeLine/\∀ p,H p=none->Q (.ref p) (upd H p (.lst (List.replicate k.toNat xs).flatten))
 | _,_,_,_=>False
def AS:OpR X (binaryOp .Mult) cRepL:=by
 intro Gx s σ H x y v u Q I rx ry h;unfold cRepL at h
 split at h
 . obtain⟨xs,e,h1,h2,h3,q⟩:=aQ h;exact CK Gx s σ H _ _ v u Q I rx ry ⟨_,_,xs,rfl,rfl,gG e,h1,h2,h3,q⟩
 . exact h.elim
def kAll:List V->Hp->VK->Prop
 | [.ref p],H,Q=>bnd (unL (H p)) fun ys=>∃ bs:List Bool,ys=bs.map V.bl/\Q (.bl (bs.all id)) H
 | _,_,_=>False
def zK(bs:List Bool):(List.range bs.length).all (fun i=>bs.getD i false)=bs.all id:=by
 rw[Hx,GZ,GZ];constructor
 . intro h b hb;obtain⟨i,hi,e⟩:=Ib.mp hb;have:=h i (G0.mpr hi);rw[List.getD,GH hi,e] at this;exact this
 . intro h i hi;have hi':i<bs.length:=G0.mp hi;have:=h bs[i] (Hf hi')
   simpa [List.getD,hi'] using this
def iO:bootBuiltins "all"=some (.builtin "all"):=by decide+kernel
def qF:bootBuiltins "sum"=some (.builtin "sum"):=by decide+kernel
def d5(hc:X.calm=true):CallR X (.builtin "all") kAll:=by
 intro Gx s σ H xs us Q I r h;unfold kAll at h
 split at h
 . rename_i p
   obtain⟨ys,e,bs,rfl,q⟩:=aQ h;obtain⟨u,rfl,ru⟩:=c5 r;cases ru;obtain⟨GB,rv,pl,hz⟩:=I.list (lE e);have hl:=rv.length;rw[GG] at hl
   have hlt:p<s.heap.objs.size:=by
    obtain⟨o,h1,_⟩:=pl.isList;exact GY h1
   refine call_all_walkS (ID pl.isList ?_);refine⟨s.heap.objs.size,_,_,_,GB.toArray.size,_,_,fun i=>bs.getD i false,rfl,(Kb (A:=X.A.in1) (I.ok.hd hc) s.heap.objs.size p (Hk hlt) GB.toArray).toS,⟨⟨_,G8 _ rfl,rfl,rfl⟩,pl.isList.push _⟩,?_,fun s' hm=>?_⟩
   . intro i v s1 Q1 E1 hP hQ;have hv:GB[i]? =some v:=by simpa using hP
     obtain⟨x,hx,rx⟩:=rv.get' hv;obtain⟨b,hb,rfl⟩:∃ b,bs[i]? =some b/\V.bl b=x:=by simpa using hx
     cases rx;refine Ic ?_;have e3:bs.getD i false=b:=by simp[List.getD,hb]
     rw[← e3];exact hQ
   . refine⟨.bl _,H,I.walked (l:=p) hm,?_,q⟩;have e2:GB.toArray.size=bs.length:=by rw[GT];exact hl.symm
     rw[e2,zK];rfl
 . exact h.elim
def kSum:List V->Hp->VK->Prop
 | [.ref p],H,Q=>bnd (unL (H p)) fun ys=>∃ ns:∅,ys=ns.map V.int/\(∀ x∈ns,0<=x/\x<=1000000)/\ns.length<=1000000/\Q (.int ns.sum) H
 | _,_,_=>False
theorem zL:∀(ns:∅),(∀ x∈ns,0<=x/\x<=1000000)->0<=ns.sum/\ns.sum<=1000000*ns.length
 | [],_=>by simp
 | n::r,h=>by
  have ih:=zL r fun x hx=>h x (GR _ hx);have h1:=h n GV;rw[IC,He];omega
def kj(hc:X.calm=true):CallR X (.builtin "sum") kSum:=by
 intro Gx s σ H xs us Q I r h;unfold kSum at h
 split at h
 . rename_i p
   obtain⟨ys,e,ns,rfl,hb,hn,q⟩:=aQ h;obtain⟨u,rfl,ru⟩:=c5 r;cases ru;obtain⟨GB,rv,pl,hz⟩:=I.list (lE e);have hl:=rv.length;rw[GG] at hl
   have hlt:p<s.heap.objs.size:=by
    obtain⟨o,h1,_⟩:=pl.isList;exact GY h1
   have e2:GB.toArray.size=ns.length:=by rw[GT];exact hl.symm
   refine call_sum_walkS (ID pl.isList ?_);refine⟨s.heap.objs.size,_,_,_,GB.toArray.size,_,_,fun i=>ns.getD i 0,rfl,(Kb (A:=X.A.in1) (I.ok.hd hc) s.heap.objs.size p (Hk hlt) GB.toArray).toS,⟨⟨_,G8 _ rfl,rfl,rfl⟩,pl.isList.push _⟩,?_,?_,?_,fun s' t' hm=>?_⟩
   . intro b hb';show b < (s.heap.push _).objs.size;rw[Ik];simp only[GU,HZ,JO] at hb';rcases hb' with rfl | rfl
     . exact II _
     . exact HW hlt
   . intro i v hP;have hv:GB[i]? =some v:=by simpa using hP
     obtain⟨x,hx,rx⟩:=rv.get' hv;obtain⟨b,hb',rfl⟩:∃ b,ns[i]? =some b/\V.int b=x:=by simpa using hx
     obtain⟨t,rfl⟩:=rx;exact⟨t,by simp[List.getD,hb']⟩
   . intro j hj;rw[e2] at hj;refine⟨?_,?_⟩
     . have:=hb ns[j] (Hf hj);have e3:ns.getD j 0=ns[j]:=by simp[List.getD,hj]
       show InLong (ns.getD j 0);rw[e3];exact⟨by omega,by omega⟩
     . rw[preSum_getD];have h1:=zL (ns.take (j+1)) fun x hx=>hb x (Jf hx);have h2:(ns.take (j+1)).length<=ns.length:=by rw[HV];omega
       exact⟨by omega,by omega⟩
   . refine⟨.int ns.sum,H,I.walked (l:=p) hm,⟨t',?_⟩,q⟩;rw[e2,preSum_getD,Ix]
 . exact h.elim
def Itd(hi:Int)(n:Nat):It:=⟨fun i _=>i<n,fun i H x H'=>H'=H/\x=.int (hi-i),fun i _=>n<=i⟩
def iRngD(ta:TA):TI:=fun σ H R=>ta σ H fun vs H1=>∃ i j:Int,vs=[.int i,.int j,.int (-1)]/\(-(2^60)<=i/\i<2^60/\ -(2^60)<=j/\j<2^60)/\R (Itd i (i-j).toNat) H1
end
section
variable{K:Frag}{g:TG}{tb:TS}{D:Ends}{σ:St}{H:Hp}{ta:TA}{Q:VK}
def cS{k:Bool}:kInt [.bl k] H Q=Q (.int (if k then 1 else 0)) H:=rfl
def cT{i:Int}:kInt [.int i] H Q=Q (.int i) H:=rfl
def bo{i:Int}:lI (.int i) [] H Q=Q (.int (Builtin.Int.intBits i:Nat)) H:=rfl
def km{p:Addr}{bs:List Bool}(hp:H p=↥(bs.map V.bl))(h:Q (.bl (bs.all id)) H):kAll [.ref p] H Q:=by
 show bnd (unL (H p)) _;rw[hp];exact aP (a:=bs.map V.bl) rfl ⟨bs,rfl,h⟩
def uO{p:Addr}{ns:∅}(hp:H p=↥(ns.map V.int))(hb:∀ x∈ns,0<=x/\x<=1000000)(hn:ns.length<=1000000)(h:Q (.int ns.sum) H):kSum [.ref p] H Q:=by
 show bnd (unL (H p)) _;rw[hp];exact aP (a:=ns.map V.int) rfl ⟨ns,rfl,hb,hn,h⟩
def CW{p:Addr}{xs:List V}{k:Int}(hp:H p=↥xs)(h0:0<=k)(h1:k<=1000)(hn:xs.length<=1)(h:∀ l,H l=none->Q (.ref l) (upd H l (.lst (List.replicate k.toNat xs).flatten))):cRepL (.ref p) (.int k) H Q:=by
 show bnd (unM (H p)) _;rw[hp];refine aP (a:=xs) rfl ⟨by omega,by omega,?_,h⟩;refine Hs (ay (GS (Jg _ hn) ?_));omega
def b7:tFor (iRngD ta) g tb D σ H=ta σ H fun vs H1=>∃ i j:Int,vs=[.int i,.int j,.int (-1)]/\(-(2^60)<=i/\i<2^60/\ -(2^60)<=j/\j<2^60)/\LoopR (Itd i (i-j).toNat) g tb D σ H1:=rfl
end
section
variable{X:Cx}
def Ite(K:Frag)(a:Addr):It:=
 ⟨fun i H=>∃ xs x,SqL K H a xs/\xs[i]? =some x,
  fun i H v H'=>∃ T x,v=.ref T/\H T=none/\H'=upd H T (.tup [.int i,x])/\∀ xs,SqL K H a xs->xs[i]? =some x,
  fun i H=>∃ xs,SqL K H a xs/\xs.length<=i⟩
def ESt(a e it:Addr)(i:Nat)(h:Heap):Prop:=(∃ old,IsEnum h e it i old)/\h.IsListIter it a i
def zM{P:Program}{w:World}{K:Frag}{es:List Expr}{x1:Nat}{pos:Pos}(a e it:Addr):
  Turn P w K (.Tuple es x1 pos) (Ite K a) [e,it] e (ESt a e it) where
 mem:=by simp
 obj:=fun i h st c hc=>by
  obtain⟨⟨old,he⟩,⟨o1,e1,c1,f1⟩⟩:=st;simp only[GU,HZ,JO] at hc;rcases hc with rfl | rfl
  . exact⟨_,he,fun v z=>by have z':Data.fields _=Data.cell v:=z;cases z'⟩
  . exact⟨_,e1,fun v z=>by rw[f1] at z;cases z⟩
 keep:=fun i h h' st k=>by
  obtain⟨⟨old,he⟩,h1⟩:=st;exact⟨⟨old,k e (by simp) _ he⟩,h1.at fun o q=>k it (by simp) o q⟩
 item:=by
  intro X hP hw hK hc i Gx s σ H E I hf st hg;subst hP hw hK;obtain⟨xs,x,hq1,hx⟩:=hg;obtain⟨its1,rv1,p1,hz1⟩:=I.list hq1;obtain⟨u1,hu1,ru1⟩:=rv1.get hx;obtain⟨⟨old,he⟩,⟨o1,e1,c1,f1⟩⟩:=id st;have hne:e≠it:=CU he e1 rfl c1 #[1];refine wpAny_pyNext_enum_item he ⟨o1,e1,c1,f1⟩ p1.isList (x:=u1) (by simpa using hu1) hne fun h' a1 a2 a3 a4 hk=>?_;refine⟨_,rfl,wpAny_letOwnedTupleGo_enum a1 fun h2 hz2 sb=>?_⟩;have hT:H s.heap.objs.size=none:=I.fresh;have lt:∀{c o},s.heap.get? c=some o->c≠s.heap.objs.size:=fun e=>Hk (GY e)
  have kp:∀ c o,c∉[e,it]->s.heap.get? c=some o->h2.get? c=some o:=fun c o hc q=>by
   simp only[GU,HZ,JO,not_or] at hc;exact sb.extBut _ _ hc.1 (hk c o hc.1 hc.2 q)
  have hTe:s.heap.objs.size≠e:=(lt he).symm;have gT:h2.get? s.heap.objs.size=some {cls:=.type "tuple",data:=.seq #[.int i s.toks,u1]}:=sb.extBut _ _ hTe a3;have nH:∀ c∈[e,it],H c=none:=fun c hc=>(hf c hc).1;refine⟨.ref s.heap.objs.size,upd H s.heap.objs.size (.tup [.int i,x]),I.call' (s':={s with heap:=h2,toks:=s.toks+1}) (ch:=[e,it]) rfl ⟨fun c o e n _ hx=>kp c o hx e,fun c o e n _ hx=>⟨o.slots,kp c o hx e⟩,fun c o e n _=>by rw[aj (lt e)];exact n,fun c o e hx=>⟨o,kp c o hx e⟩,fun c xs e=>by rw[aj (av e hT)];exact e,fun c o u e=>by rw[aj (av e hT)];exact e,fun c ps e=>⟨#[],by rw[aj (av e hT),e];simp⟩⟩ ?_ I.bare ?_,rfl,⟨_,x,rfl,hT,rfl,fun zs hz'=>by rw[I.list_inj hz' hq1];exact hx⟩,?_,?_⟩
  . intro c ob e;by_cases hb:c=s.heap.objs.size
    . subst hb;rw[ah] at e;cases e;exact⟨by show(2:Nat)<=sizeLine;exact Hs (ay #[1]),[.int i s.toks,u1],.cons ⟨_,rfl⟩ (.cons ru1 .nil),⟨_,gT,rfl,_,rfl⟩⟩
    . rw[aj hb] at e;refine(I.hok c ob e).stay (fun d w' hd g=>kp d w' ?_ g) (fun d g=>by rw[aj (av g hT)];exact g) fun d xs g=>by rw[aj (av g hT)];exact g
      intro hm;rcases hd with rfl | hd
      . rw[nH _ hm] at e;cases e
      . rw[nH _ hm] at hd;cases hd
  . intro c hc;obtain⟨f0,f1,f2,f3,f4,f5⟩:=hf c hc;exact⟨f3,f1,f4,f5⟩
  . exact⟨⟨_,hz2⟩,a2.extBut sb.extBut hne.symm⟩
  . intro c hc
    obtain⟨o,q⟩:∃ o,s.heap.get? c=some o:=by
     simp only[GU,HZ,JO] at hc;rcases hc with rfl | rfl
     . exact⟨_,he⟩
     . exact⟨_,e1⟩
    rw[aj (lt q)];exact(hf c hc).1
 done:=by
  intro X hP hw hK hc i Gx s σ H E I hf st hg;subst hP hw hK;obtain⟨xs,hq1,hx⟩:=hg;obtain⟨its1,rv1,p1,hz1⟩:=I.list hq1;have hl1:=rv1.length;obtain⟨⟨old,he⟩,⟨o1,e1,c1,f1⟩⟩:=id st;have hend:its1.toArray[i]? =none:=by simp;omega
  obtain⟨f0,f1',f2,f3,f4,f5⟩:=hf it (by simp);exact wpAny_pyNext_enum_end (I.ok.hd hc) he ⟨o1,e1,c1,f1⟩ p1.isList hend fun h' eb=>⟨rfl,I.turned (t':=s.toks) (fun b o hb e=>eb b o hb e) f0 f1' f3 f4 f5⟩
 self:=fun _ _ _ _ _ st h=>by
  obtain⟨⟨old,he⟩,_⟩:=st;exact wpAny_pyIter_enum he h
def iEnum(K:Frag)(ta:TA):TI:=fun σ H R=>ta σ H fun vs H1=>∃ a,vs=[.ref a]/\(∃ xs,SqL K H1 a xs)/\R (Ite K a) H1
def vj:bootBuiltins "enumerate"=some (.type "enumerate"):=by decide+kernel
def BX{es:List Expr}{x1:Nat}{tpos:Pos}{e1:Expr}{ta:TA}{p pos:Pos}(hg:Gl X "enumerate")(hm:X.mg "enumerate"=none)(ha:PA X [e1] ta)(hs:starEach [e1] X.env=[(false,eval e1 X.env)]:=by rfl):
  PI X (.Tuple es x1 tpos) (.Call (.Name "enumerate" p) [e1] [] pos) (iEnum X.K ta):=by
 intro Gx s σ H R I h;refine Call_ (fF I hg hm vj (HF (thn (ha pos Gx s σ H _ I h) fun us s1 ⟨vs,H1,I1,r1,q1⟩=>?_) hs rfl));obtain⟨a,rfl,⟨xs,hq1⟩,q⟩:=q1;obtain⟨u1,rfl,ru1⟩:=c5 r1;cases ru1;obtain⟨its1,rv1,p1,hz1⟩:=I1.list hq1;refine call_enumerate_list p1.isList fun h' a1 a2 a3 hk=>?_;refine wpAny_pyIter_enum a1 ?_;have I2:Inv X Gx σ H1 {s1 with heap:=h',toks:=s1.toks}:=I1.kept hk;refine⟨s1.heap.objs.size+1,[s1.heap.objs.size+1,s1.heap.objs.size],ESt a (s1.heap.objs.size+1) s1.heap.objs.size,Ite X.K a,H1,rfl,I2,zM a (s1.heap.objs.size+1) s1.heap.objs.size,⟨⟨_,a1⟩,a2⟩,fun c hc=>?_,q⟩
 have hge:s1.heap.objs.size<=c:=by
  simp only[GU,HZ,JO] at hc;rcases hc with rfl | rfl <;> omega
 exact I1.fpOk hge (I1.hok.fresh hge)
end
section
variable{K:Frag}{g:TG}{tb:TS}{D:Ends}{σ:St}{H:Hp}{ta:TA}{Q:VK}{ix:List (Option Nat)}{tt:TT}{te:TE}{k:Nat}
def cU:tFor (iEnum K ta) g tb D σ H=ta σ H fun vs H1=>∃ a,vs=[.ref a]/\(∃ xs,SqL K H1 a xs)/\LoopR (Ite K a) g tb D σ H1:=rfl
def b8:tComp ix (iEnum K ta) g tt te σ H Q=ta σ H fun vs H1=>∃ a,vs=[.ref a]/\(∃ xs,SqL K H1 a xs)/\CompR (Ite K a) g tt te (fun l H'=>Q (.ref l) H') (subσ ix σ) H1:=rfl
def bp:sComp k ix (iEnum K ta) g tt te D σ H=ta σ H fun vs H1=>∃ a,vs=[.ref a]/\(∃ xs,SqL K H1 a xs)/\CompR (Ite K a) g tt te (fun l H'=>D.nx (σ.set k ↑l) H') (subσ ix σ) H1:=rfl
def zN {a:Addr} {xs:List V} {fin:Addr->Hp->Prop} {σ0:St} {H1:Hp} (Pv:Addr->Nat->St->Hp->Prop) (h0:∀ l,H1 l=none->Pv l 0 σ0 (upd H1 l (.lst []))) (hq:∀ l i σ H,H1 l=none->i<=xs.length->Pv l i σ H->SqL K H a xs)
  (hs:∀ l i x T σ H,H1 l=none->xs[i]? =some x->Pv l i σ H->H T=none->g (.ref T) σ (upd H T (.tup [.int i,x])) fun σ2 H3=>tt σ2 H3 fun b H4=>if b=true then te σ2 H4 fun y H5=>∃ ys,H5 l=↥ys/\ys.length<sizeLine/\Pv l (i+1) σ2 (upd H5 l (.lst (ys++[y]))) else Pv l (i+1) σ2 H4)
  (hd:∀ l σ H,H1 l=none->Pv l xs.length σ H->fin l H):CompR (Ite K a) g tt te fin σ0 H1:=by
 intro l hl0;refine⟨fun i m σ H=>m=xs.length-i/\i<=xs.length/\Pv l i σ H,⟨xs.length,by simp,HG _,h0 l hl0⟩,?_⟩;rintro i m σ H ⟨rfl,hi,p⟩;have q:=hq l i σ H hl0 hi p;by_cases hlt:i<xs.length
 . refine .inr ⟨⟨xs,xs[i],q,by simp[hlt]⟩,Pv l (i+1),fun σ' H' p'=>⟨xs.length - (i+1),by omega,rfl,hlt,p'⟩,fun v H' y=>?_⟩;obtain⟨T,x,rfl,hT,rfl,e⟩:=y;exact hs l i x T σ _ hl0 (e xs q) p hT
 . have e:i=xs.length:=by omega
   subst e;exact .inl ⟨⟨xs,q,GP _⟩,hd l σ H hl0 p⟩
theorem yg {a:Addr} {xs:List V} {fin:Addr->Hp->Prop} {σ0:St} {H1:Hp} {k1 k2:Nat} (b:Nat->Bool) (f:Nat->V) (hn:xs.length<=900) (hne:k1≠k2) (hq:SqL K H1 a xs)
  (ht:∀(i:Nat) x H R,xs[i]? =some x->Same H1 H->(∀ H',Same H H'->R (b i) H')->tt ((σ0.set k1 ⇑(i:Int)).set k2 (some x)) H R)
  (he:∀(i:Nat) x H Q,xs[i]? =some x->b i=true->Same H1 H->(∀ H',Same H H'->Q (f i) H')->te ((σ0.set k1 ⇑(i:Int)).set k2 (some x)) H Q)
  (hd:∀ l H,H1 l=none->Same H1 H->H l=↥(((List.range xs.length).filter b).map f)->fin l H):
  CompR (Ite K a) (gTup K 2 (gCons (gName k1) (gCons (gName k2) gNil))) tt te fin σ0 H1:=by
 refine zN (xs:=xs) (fun l i σ H=>(σ=σ0\/∃ c1 c2,σ=(σ0.set k1 c1).set k2 c2)/\Same H1 H/\H l=↥(((List.range i).filter b).map f)) (fun l hl=>⟨.inl rfl,fun b u e=>by rw[aj (av e hl)];exact e,by rw[ah];rfl⟩) (fun l i σ H _ _ p=>p.2.1.seq hq) ?_ (fun l σ H hl p=>hd l H hl p.2.1 p.2.2);rintro l i x T σ H hl hx ⟨hσ,s1,el⟩ hT;have hi:i<xs.length:=(GN.mp hx).1;have sT:Same H (upd H T (.tup [.int i,x])):=fun b u e=>by rw[aj (av e hT)];exact e
 refine⟨T,_,rfl,Kc ah,rfl,_,_,rfl,_,_,rfl,rfl,?_⟩
 have e:(σ.set k1 ⇑i).set k2 (some x)=(σ0.set k1 ⇑i).set k2 (some x):=by
  rcases hσ with rfl | ⟨c1,c2,rfl⟩
  . rfl
  . rw[List.set_comm _ _ (JF hne),IB,IB,List.set_comm _ _ hne]
 show tt ((σ.set k1 ⇑i).set k2 (some x)) _ _;rw[e];refine ht i x _ _ hx (s1.trans sT) fun H2 s2=>?_;have el2:=s2 _ _ (sT _ _ el);have s12:=(s1.trans sT).trans s2;have own:∀{H3:Hp} {o:HO},Same H1 H3->Same H1 (upd H3 l o):=fun s b u e=>by rw[aj (av e hl)];exact s b u e
 have GD:∀ i,i<=900->(((List.range i).filter b).map f).length<sizeLine:=fun i hi=>by
  rw[GG];refine ay (GS (Hg b _) ?_);rw[HX];omega
 cases hb:b i with
 | false=>
  rw[G3 GM];refine⟨.inr ⟨_,_,rfl⟩,s12,?_⟩;rw[HH,Hm,Hv,hb]
  simpa using el2
 | true=>
  rw[G9 rfl];refine he i x H2 _ hx hb s12 fun H3 s3=>⟨_,s3 _ _ el2,GD i #[0],.inr ⟨_,_,rfl⟩,own (s12.trans s3),?_⟩;rw[ah,HH,Hm,Hv,hb];simp
end
def rngL(i j:Int):∅:=(List.range (j-i).toNat).map fun(k:Nat)=>i+(k:Int)
def mj(i j:Int):(rngL i j).length=(j-i).toNat:=by unfold rngL;simp
theorem pi:∀{xs:List V} {us:List Value},xs.length=us.length->(∀(i:Nat) x u,xs[i]? =some x->us[i]? =some u->RelV x u)->Vals xs us
 | [],[],_,_=>.nil
 | [],_::_,h,_=>by simp at h
 | _::_,[],h,_=>by simp at h
 | x::xs,u::us,h,f=>.cons (f 0 x u rfl rfl) (pi (by simpa using h) fun i y e h1 h2=>f (i+1) y e (by simpa using h1) (by simpa using h2))
def AT{i j:Int}{acc:Array Value}(h:ItemsOf (fun k v=>∃ t,v=.int (i+k*1) t) acc (j-i).toNat):Vals ((rngL i j).map V.int) acc.toList:=by
 refine pi (by rw[GG,mj,IN];exact h.1.symm) fun k x u hx hu=>?_;obtain⟨t,rfl⟩:=h.2 k u (by simpa using hu);unfold rngL at hx;rw[Hn,GK] at hx;by_cases hk:k < (j-i).toNat
 . rw[HM hk] at hx;cases hx;exact⟨t,by rw[Int.mul_one]⟩
 . rw[G4 (by simpa using hk)] at hx;cases hx
section
variable{X:Cx}
def iP(ta:TA):TE:=fun σ H Q=>ta σ H fun vs H1=>∃ j:Int,vs=[.int j]/\ -(2^60)<=j/\j<=1000/\∀ l,H1 l=none->Q (.ref l) (upd H1 l (.lst ((rngL 0 j).map V.int)))
def zO(ta:TA):TE:=fun σ H Q=>ta σ H fun vs H1=>∃ i j:Int,vs=[.int i,.int j]/\(0<=i/\i<=1000/\ -(2^60)<=j/\j<=1000)/\∀ l,H1 l=none->Q (.ref l) (upd H1 l (.lst ((rngL i j).map V.int)))
def AU {Gx:List (Addr × Obj)} {σ:St} {H1:Hp} {s1:Shared} {Q:VK} {i j:Int} {t u v:Tok} {tk:Nat} {A:Around} {E:Value->Shared->Prop} (hh:A.handled=none) (I1:Inv X Gx σ H1 s1) (h1:0<=i) (h2:i<=1000) (h3: -(2^60)<=j) (h4:j<=1000)
  (q:∀ l,H1 l=none->Q (.ref l) (upd H1 l (.lst ((rngL i j).map V.int)))):
  wpAny (model X.prog X.w) A (call (.type "list") [.ref s1.heap.objs.size]) (EP X Gx σ Q) E {s1 with heap:=s1.heap.push {cls:=.type "range",data:=.fields #[.int i t,.int j u,.int 1 v]},toks:=tk}:=by
 have I2:Inv X Gx σ H1 {s1 with heap:=s1.heap.push {cls:=.type "range",data:=.fields #[.int i t,.int j u,.int 1 v]},toks:=tk}:=I1.kept fun b o e=>GO _ e;refine call_list_range (n:=(j-i).toNat) hh (IsRange.new ..) (small_one #[0] #[0] #[0] #[0]) (by rw[rangeSize_one];split <;> omega) #[0] fun h' tk' acc' c' old hS' hacc=>?_;have GD:((rngL i j).map V.int).length<=sizeLine:=by rw[GG,mj];exact Hs (ay #[0])
 exact⟨.ref _,_,I2.laid (t':=tk') (o:=.lst ((rngL i j).map V.int)) old (GP _) ⟨GD,acc'.toList,c',AT hacc,hS'⟩,rfl,q _ (I2.hok.fresh (GP _))⟩
theorem kW {a:Expr} {ta:TA} {p p2 pos pos2:Pos} (hc:X.calm=true) (hgl:Gl X "list") (hgr:Gl X "range") (hl:X.mg "list"=none) (hr:X.mg "range"=none) (ha:PA X [a] ta)
  (hs1:starEach [.Call (.Name "range" p2) [a] [] pos2] X.env=[(false,eval (.Call (.Name "range" p2) [a] [] pos2) X.env)]:=by rfl) (hs:starEach [a] X.env=[(false,eval a X.env)]:=by rfl):
  PE X (.Call (.Name "list" p) [.Call (.Name "range" p2) [a] [] pos2] [] pos) (iP ta):=by
 intro Gx s σ H Q I h;refine HS (fF I hgl hl gA ?_ #[1] #[1]);refine HF ?_ hs1 rfl;rw[hs1];show wpAny _ _ (spliced [(false,eval (.Call (.Name "range" p2) [a] [] pos2) X.env)]) _ _ s;refine Iz ?_;refine Call_ (fF I hgr hr boot_range (HF (thn (ha pos2 Gx s σ H _ I h) fun us s1 ⟨vs,H1,I1,r1,q1⟩=>?_) hs rfl));obtain⟨j,e,q1,q2,q⟩:=q1;subst e
 cases r1 with
 | cons r rr=>
  cases rr;obtain⟨t,rfl⟩:=r;refine call_range_1 ?_;refine IE ?_;exact AU (I.ok.hd hc) I1 #[0] #[0] q1 q2 q
end
section
variable{σ:St}{H:Hp}{Q:VK}{ta:TA}
def b9:iP ta σ H Q=ta σ H fun vs H1=>∃ j:Int,vs=[.int j]/\ -(2^60)<=j/\j<=1000/\∀ l,H1 l=none->Q (.ref l) (upd H1 l (.lst ((rngL 0 j).map V.int))):=rfl
def ca:zO ta σ H Q=ta σ H fun vs H1=>∃ i j:Int,vs=[.int i,.int j]/\(0<=i/\i<=1000/\ -(2^60)<=j/\j<=1000)/\∀ l,H1 l=none->Q (.ref l) (upd H1 l (.lst ((rngL i j).map V.int))):=rfl
end
end L2
namespace L2
def besL(h w c:Int):∅:=(if 0<c/w then [c-w] else [])++(if 0<c%w then [c-1] else [])++(if c%w<w-1 then [c+1] else [])++(if c/w<h-1 then [c+w] else [])
inductive RC(h w:Int)(cs:∅)(st:Int):Int->Prop
 | start:st∈cs->RC h w cs st st
 | step {x y:Int}:RC h w cs st x->y∈besL h w x->y∈cs->RC h w cs st y
variable{h w x:Int}{cs:∅}
def RC.mem{st:Int}(r:RC h w cs st x):x∈cs:=by cases r <;> assumption
theorem RC.st{st:Int}(r:RC h w cs st x):st∈cs:=by
 induction r with
 | start h=>exact h
 | step _ _ _ ih=>exact ih
theorem mn:∀{xs ys:∅},xs.Nodup->(∀ x∈xs,x∈ys)->xs.length<=ys.length
 | [],_,_,_=>HG _
 | x::xs,ys,nd,h=>by
  have hx:=h x GV;have nd':=HK.mp nd
  have ih:=mn (xs:=xs) (ys:=ys.erase x) nd'.2 fun y hy=>by
   have ne:y≠x:=fun e=>nd'.1 (e ▸ hy);exact(List.mem_erase_of_ne ne).mpr (h y (GR _ hy))
  rw[List.length_erase_of_mem hx] at ih;have:0<ys.length:=List.length_pos_of_mem hx;simp only[He];omega
structure BI(h w:Int)(cs:∅)(st:Int)(fs:∅)(pl:Nat):Prop where
 nd:fs.Nodup
 rc:∀ x∈fs,RC h w cs st x
 hst:st∈fs
 le:pl<=fs.length
 cl:∀(i:Nat) (x y:Int),i<pl->fs[i]? =some x->y∈besL h w x->y∈cs->y∈fs
variable{pl:Nat}
def BI.len{st:Int}{fs:∅}(b:BI h w cs st fs pl):fs.length<=cs.length:=mn b.nd fun x hx=>(b.rc x hx).mem
def BI.start{st:Int}(hs:st∈cs):BI h w cs st [st] 0:=
 ⟨by simp,fun x hx=>by rw[GW.mp hx];exact .start hs,by simp,HG _,fun i x y hi=>absurd hi (Nat.not_lt_zero _)⟩
theorem BI.done{st:Int}{fs:∅}(b:BI h w cs st fs pl)(e:¬ pl<fs.length)(x:Int):x∈fs↔RC h w cs st x:=by
 refine⟨b.rc x,fun r=>?_⟩
 induction r with
 | start _=>exact b.hst
 | step r hy hc ih=>
  obtain⟨i,hi⟩:=List.getElem?_of_mem ih;have hlt:i<fs.length:=(GN.mp hi).1;exact b.cl i _ _ #[0] hi hy hc
def addC(cs fs:∅)(y:Int):∅:=if y∈cs/\¬ y∈fs then fs++[y] else fs
structure BJ(h w:Int)(cs:∅)(st:Int)(f0:∅)(pl:Nat)(bs:∅)(fs:∅):Prop where
 nd:fs.Nodup
 rc:∀ x∈fs,RC h w cs st x
 pre:f0 <+:fs
 al:∀ y∈bs,y∈cs->y∈fs
def BJ.zero{st:Int}{fs:∅}(b:BI h w cs st fs pl):BJ h w cs st fs pl [] fs:=⟨b.nd,b.rc,List.prefix_refl _,fun y hy=>nomatch hy⟩
def BJ.more{st:Int}{f0 fs bs:∅}{y:Int}(j:BJ h w cs st f0 pl bs fs)(hx:RC h w cs st x)(hy:y∈besL h w x):BJ h w cs st f0 pl (bs++[y]) (addC cs fs y):=by
 unfold addC
 split
 . rename_i hc
   refine⟨?_,fun z hz=>?_,j.pre.trans (List.prefix_append _ _),fun z hz hzc=>?_⟩
   . refine Ip.mpr ⟨j.nd,by simp,fun a ha b hb=>?_⟩;rw[GW.mp hb];intro e;exact hc.2 (e ▸ ha)
   . rcases Hc.mp hz with hz | hz
     . exact j.rc z hz
     . rw[GW.mp hz];exact .step hx hy hc.1
   . rcases Hc.mp hz with hz | hz
     . exact Io _ (j.al z hz hzc)
     . rw[GW.mp hz];simp
 . rename_i hc
   refine⟨j.nd,j.rc,j.pre,fun z hz hzc=>?_⟩;rcases Hc.mp hz with hz | hz
   . exact j.al z hz hzc
   . rw[GW.mp hz] at hzc ⊢;exact Decidable.byContradiction fun n=>hc ⟨hzc,n⟩
def BJ.done{st:Int}{f0 fs:∅}(b:BI h w cs st f0 pl)(hx:f0[pl]? =some x)(j:BJ h w cs st f0 pl (besL h w x) fs):BI h w cs st fs (pl+1):=by
 have hlt:pl<f0.length:=(GN.mp hx).1;have hle:=j.pre.length_le
 have get:∀ i,i<f0.length->fs[i]? =f0[i]? :=fun i hi=>by
  obtain⟨t,e⟩:=j.pre;rw[← e,Ho hi]
 refine⟨j.nd,j.rc,j.pre.subset b.hst,by omega,fun i z y hi hz hy hc=>?_⟩;rw[get i #[0]] at hz;by_cases e:i<pl
 . exact j.pre.subset (b.cl i z y e hz hy hc)
 . have:i=pl:=by omega
   subst this;rw[hx] at hz;cases hz;exact j.al y hy hc
def zP{rs fs:∅}(p:rs.Perm fs)(s:rs.Pairwise (· <=·))(nd:fs.Nodup):rs.Pairwise (· < ·):=by
 have nd':rs.Nodup:=p.nodup_iff.mpr nd;refine(s.and nd').imp ?_;intro a b h;have:=h.1;have:=h.2;omega
theorem qG:∀{xs ys:∅},xs.Pairwise (· < ·)->ys.Pairwise (· < ·)->(∀ z,z∈xs↔z∈ys)->xs=ys
 | [],[],_,_,_=>rfl
 | [],y::ys,_,_,h=>absurd ((h y).mpr GV) (fun q=>nomatch q)
 | x::xs,[],_,_,h=>absurd ((h x).mp GV) (fun q=>nomatch q)
 | x::xs,y::ys,hx,hy,h=>by
  have hx':=Jz.mp hx;have hy':=Jz.mp hy
  have e:x=y:=by
   rcases GU.mp ((h x).mp GV) with e | m1
   . exact e
   . rcases GU.mp ((h y).mpr GV) with e | m2
     . exact e.symm
     . have:=hy'.1 x m1;have:=hx'.1 y m2;omega
  subst e;refine congrArg (x::·) (qG hx'.2 hy'.2 fun z=>⟨fun m=>?_,fun m=>?_⟩)
  . rcases GU.mp ((h z).mp (GR _ m)) with e | q
    . have:=hx'.1 z m;omega
    . exact q
  . rcases GU.mp ((h z).mpr (GR _ m)) with e | q
    . have:=hy'.1 z m;omega
    . exact q
end L2
namespace L2
open PySem PySem.Spec PyProof.Rows
def wk9(t:String):Lean.MacroM Lean.Syntax:=do
 let x<-(t.splitOn " ").toArray.mapM fun s=>`(Lean.Parser.Tactic.simpLemma|$(Lean.mkIdent s.toName):term)
 `(tactic|(first|simp only[$x,*]|dsimp only|skip))
def ws1:String:="aB bE bM aL bO bP w_c dN bN bQ bF bR w_b w_not c7 fo bS bT c9 cH bj d7 bG db cI d8 dc bU bV bW bX bf bg bc aY aZ aR de df dg dh dj dk dm dn dq dr dt du fq bY a6 bZ ft b2 bh a7 dv dw b3 b4 b5 List.getElem?_cons_zero List.getElem?_cons_succ Option.some.injEq exists_eq_left' exists_eq_left List.set_cons_zero List.set_cons_succ aX V.int.injEq V.bl.injEq V.ref.injEq V.str.injEq List.nil_append List.cons_append"
local macro_rules|`(tactic|walk_at "w")=>wk9 ws1
local macro_rules|`(tactic|symm)=>`(tactic|walk_at "w")
def aV{n:Nat}(h:n<=1000):n<=sizeLine:=Hs (ay h)
def lnR{n:Nat}(h:Nat.ble n 1000=true):n<=sizeLine:=aV (HA h)
def IsFl(H:Hp)(a:Addr)(h w g:Int):Prop:=H a=some (.tup [.int h,.int w,.int g])
variable{H:Hp}{p:Addr}
def Same.laid{H':Hp}{o:HO}(s:Same H H')(h:H' p=none):Same H (upd H' p o):=fun b u e=>by
 rw[aj (av (s b u e) h)];exact s b u e
def bn{U:Addr}(O:HO)(h:H U=none):∃ z,upd H U O=z/\Same H z/\z U=some O:=⟨_,rfl,(GJ H).laid h,ah⟩
def Same.own{H':Hp}{o:HO}(s:Same H H')(h:H p=none):Same H (upd H' p o):=fun b u e=>by
 rw[aj (av e h)];exact s b u e
variable{l:∅}{i:Nat}
def im{x:Int}(h:l[i]? =some x):l.getD i 0=x:=by
 rw[List.getD,h];rfl
variable{ns:∅}
def pY{k:Int}(h0:0<=k)(h1:k<ns.length):atI (ns.map V.int) k=⇑(ns.getD k.toNat 0):=by
 have e:((k.toNat:Nat):Int)=k:=Int.toNat_of_nonneg h0;have hlt:k.toNat<ns.length:=by omega
 have:(ns.map V.int)[k.toNat]? =⇑(ns.getD k.toNat 0):=by
  rw[GK,GH hlt];simp[List.getD,hlt]
 have q:=fk this;rw[e] at q;exact q
def a8{α:Type}(l:List α):l.filter (fun _=>true)=l:=Iv.mpr fun _ _=>rfl
theorem bb{y:V}(h:(l.map V.int)[i]? =some y):∃ z,l[i]? =some z/\y=.int z:=by
 rw[GK] at h
 cases e:l[i]? with
 | none=>rw[e] at h;cases h
 | some z=>rw[e] at h;cases h;exact⟨z,rfl,rfl⟩
theorem kX{l:List Addr}{y:V}(h:(l.map V.ref)[i]? =some y):∃ z,l[i]? =some z/\y=.ref z:=by
 rw[GK] at h
 cases e:l[i]? with
 | none=>rw[e] at h;cases h
 | some z=>rw[e] at h;cases h;exact⟨z,rfl,rfl⟩
def nD{h w:Int}(h0:1<=h)(h1:h<=6):CMul h w:=.inl ⟨by omega,by omega⟩
def jI{ps:List Addr}{k:Int}(h0:0<=k)(h:ps[k.toNat]? =some p):atI (ps.map V.ref) k=↑p:=by
 have e:((k.toNat:Nat):Int)=k:=Int.toNat_of_nonneg h0;have q0:(ps.map V.ref)[k.toNat]? =↑p:=by rw[GK,h];rfl
 have q:=fk q0;rw[e] at q;exact q
section
variable{k:Nat}{lo:Int}{n:Nat}{tt:TT}{te:TE}{fin:Addr->Hp->Prop}{σ0:St}{H1:Hp}{K:Frag}{a:Addr}
def jJ{n i:Nat}(b:Nat->Bool)(h:i<n)(hn:n<=900):((List.range i).filter b).length<=900:=by
 have:=Hg b (List.range i);rw[HX] at this;omega
theorem pj (b:Nat->Bool) (f:Nat->V) (hn:n<=900)
  (ht:∀ i H R,i<n->Same H1 H->(∀ H',Same H H'->R (b i) H')->tt (σ0.set k ⇑(lo+i)) H R)
  (he:∀ i H Q,i<n->b i=true->Same H1 H->(∀ H',Same H H'->Q (f i) H')->te (σ0.set k ⇑(lo+i)) H Q)
  (hd:∀ l H,H1 l=none->Same H1 H->H l=↥(((List.range n).filter b).map f)->fin l H):
  CompR (Itr lo n) (gName k) tt te fin σ0 H1:=by
 refine qB (fun l i σ H=>(σ=σ0\/∃ cv,σ=σ0.set k cv)/\Same H1 H/\H l=↥(((List.range i).filter b).map f)) (fun l hl=>⟨.inl rfl,(GJ H1).laid hl,by rw[ah];rfl⟩) ?_ (fun l σ H hl p=>hd l H hl p.2.1 p.2.2);rintro l i σ H hl hi ⟨hσ,s1,el⟩;rw[aL]
 have e:σ.set k ⇑(lo+i)=σ0.set k ⇑(lo+i):=by
  rcases hσ with rfl | ⟨cv,rfl⟩
  . rfl
  . exact IB ..
 rw[e];refine ht i H _ hi s1 fun H2 s2=>?_;have el2:=s2 _ _ el
 cases hb:b i with
 | false=>
  rw[G3 GM];refine⟨.inr ⟨_,rfl⟩,s1.trans s2,?_⟩;rw[HH,Hm,Hv,hb]
  simpa using el2
 | true=>
  rw[G9 rfl];refine he i H2 _ hi hb (s1.trans s2) fun H3 s3=>⟨_,s3 _ _ el2,by rw[GG];exact ay (GS (jJ b hi hn) #[1]),.inr ⟨_,rfl⟩,((s1.trans s2).trans s3).own hl,?_⟩;rw[ah,HH,Hm,Hv,hb];simp
theorem ck {xs:List V} (b:Nat->Bool) (f:Nat->V) (hn:xs.length<=900) (hq:SqL K H1 a xs)
  (ht:∀ i x H R,xs[i]? =some x->Same H1 H->(∀ H',Same H H'->R (b i) H')->tt (σ0.set k (some x)) H R)
  (he:∀ i x H Q,xs[i]? =some x->b i=true->Same H1 H->(∀ H',Same H H'->Q (f i) H')->te (σ0.set k (some x)) H Q)
  (hd:∀ l H,H1 l=none->Same H1 H->H l=↥(((List.range xs.length).filter b).map f)->fin l H):
  CompR (Itl K a) (gName k) tt te fin σ0 H1:=by
 refine nv (xs:=xs) (fun l i σ H=>(σ=σ0\/∃ cv,σ=σ0.set k cv)/\Same H1 H/\H l=↥(((List.range i).filter b).map f)) (fun l hl=>⟨.inl rfl,(GJ H1).laid hl,by rw[ah];rfl⟩) (fun l i σ H _ _ p=>p.2.1.seq hq) ?_ (fun l σ H hl p=>hd l H hl p.2.1 p.2.2);rintro l i x σ H hl hx ⟨hσ,s1,el⟩;have hi:i<xs.length:=(GN.mp hx).1;rw[aL]
 have e:σ.set k (some x)=σ0.set k (some x):=by
  rcases hσ with rfl | ⟨cv,rfl⟩
  . rfl
  . exact IB ..
 rw[e];refine ht i x H _ hx s1 fun H2 s2=>?_;have el2:=s2 _ _ el
 cases hb:b i with
 | false=>
  rw[G3 GM];refine⟨.inr ⟨_,rfl⟩,s1.trans s2,?_⟩;rw[HH,Hm,Hv,hb]
  simpa using el2
 | true=>
  rw[G9 rfl];refine he i x H2 _ hx hb (s1.trans s2) fun H3 s3=>⟨_,s3 _ _ el2,by rw[GG];exact ay (GS (jJ b hi hn) #[1]),.inr ⟨_,rfl⟩,((s1.trans s2).trans s3).own hl,?_⟩;rw[ah,HH,Hm,Hv,hb];simp
def kY (b:Nat->Bool) (f:Nat->Int) (hn:n<=900)
  (ht:∀ i H R,i<n->Same H1 H->(∀ H',Same H H'->R (b i) H')->tt (σ0.set k ⇑(lo+i)) H R)
  (he:∀ i H Q,i<n->b i=true->Same H1 H->(∀ H',Same H H'->Q (.int (f i)) H')->te (σ0.set k ⇑(lo+i)) H Q)
  (hd:∀ l H,H1 l=none->Same H1 H->H l=↥((((List.range n).filter b).map f).map V.int)->fin l H):
  CompR (Itr lo n) (gName k) tt te fin σ0 H1:=
 pj b (fun i=>.int (f i)) hn ht he fun l H hl s1 el=>hd l H hl s1 (by rw[Hn];exact el)
def zQ(b:Int->Bool)(f:Int->Int)(xs:∅):((List.range xs.length).filter fun i=>b (xs.getD i 0)).map (fun i=>V.int (f (xs.getD i 0)))=((xs.filter b).map f).map V.int:=by
 have e:xs=(List.range xs.length).map fun i=>xs.getD i 0:=by
  refine Id fun i=>?_;rw[GK];by_cases h:i<xs.length
  . rw[HM h,GH h];simp[List.getD,h]
  . rw[G4 #[0],G4 (by simpa using h)];rfl
 conv=>rhs;rw[e]
 rw[Jk,Hn,Hn];rfl
def bH {xs:∅} (b:Int->Bool) (f:Int->Int) (hn:xs.length<=900) (hq:SqL K H1 a (xs.map V.int))
  (ht:∀ x H R,x∈xs->Same H1 H->(∀ H',Same H H'->R (b x) H')->tt (σ0.set k ⇑x) H R)
  (he:∀ x H Q,x∈xs->b x=true->Same H1 H->(∀ H',Same H H'->Q (.int (f x)) H')->te (σ0.set k ⇑x) H Q)
  (hd:∀ l H,H1 l=none->Same H1 H->H l=↥(((xs.filter b).map f).map V.int)->fin l H):
  CompR (Itl K a) (gName k) tt te fin σ0 H1:=by
 refine ck (xs:=xs.map V.int) (fun i=>b (xs.getD i 0)) (fun i=>.int (f (xs.getD i 0))) (by rw[GG];exact hn) hq ?_ ?_ ?_
 . intro i x H R hx s1 h;obtain⟨z,hz,rfl⟩:=bb hx;rw[im hz] at h;exact ht z H R (GQ hz) s1 h
 . intro i x H Q hx hb s1 h;obtain⟨z,hz,rfl⟩:=bb hx;rw[im hz] at h hb;exact he z H Q (GQ hz) hb s1 h
 . intro l H hl s1 el;refine hd l H hl s1 ?_;rw[GG] at el;rw[el,zQ]
structure NewAt(H1 H:Hp)(l:Addr)(as:List Addr)(os:List HO):Prop where
 len:as.length=os.length
 nd:as.Nodup
 nl:l∉as
 fr:∀ a∈as,H1 a=none
 at_:∀(j:Nat) (a:Addr) (o:HO),as[j]? =some a->os[j]? =some o->H a=some o
def NewAt.nil{H1 H:Hp}{l:Addr}:NewAt H1 H l [] [] where
 len:=rfl
 nd:=IU
 nl:=by simp
 fr:=fun a h=>nomatch h
 at_:=fun j a o h=>by simp at h
def NewAt.same{H1 H H':Hp}{l:Addr}{as:List Addr}{os:List HO}(x:NewAt H1 H l as os)(s:Same H H'):NewAt H1 H' l as os:=
 ⟨x.len,x.nd,x.nl,x.fr,fun j a o h1 h2=>s _ _ (x.at_ j a o h1 h2)⟩
def NewAt.mem{H1 H:Hp}{l:Addr}{as:List Addr}{os:List HO}(x:NewAt H1 H l as os){a:Addr}(h:a∈as):∃ o,H a=some o:=by
 obtain⟨j,hj,e⟩:=Ib.mp h;have hj2:j<os.length:=by rw[← x.len];exact hj
 exact⟨os[j],x.at_ j a os[j] (by rw[GH hj,e]) (GH hj2)⟩
def NewAt.more{H1 H H2:Hp}{l p:Addr}{as:List Addr}{os:List HO}{o u:HO}(x:NewAt H1 H l as os)(s1:Same H1 H)(s:Same H H2)(hp:H p=none)(e:H2 p=some o)(hl:H l=some u)(o':HO):NewAt H1 (upd H2 l o') l (as++[p]) (os++[o]):=by
 have npl:p≠l:=fun z=>by rw[z,hl] at hp;cases hp
 refine⟨by simp[x.len],?_,?_,?_,?_⟩
 . refine Ip.mpr ⟨x.nd,by simp,fun a ha b hb z=>?_⟩;rw[GW.mp hb] at z;obtain⟨o2,e2⟩:=x.mem ha;rw[z,hp] at e2;cases e2
 . intro hm;rcases Hc.mp hm with hm | hm
   . exact x.nl hm
   . exact npl (GW.mp hm).symm
 . intro a ha;rcases Hc.mp ha with ha | ha
   . exact x.fr a ha
   . rw[GW.mp ha]
     cases q:H1 p with
     | none=>rfl
     | some v=>rw[s1 _ _ q] at hp;cases hp
 . intro j a o2 h1 h2;have GD:=x.len;by_cases hj:j<as.length
   . rw[Ho hj] at h1;rw[Ho #[0]] at h2;have nal:a≠l:=fun z=>x.nl (z ▸ GQ h1);rw[aj nal];exact s _ _ (x.at_ j a o2 h1 h2)
   . rw[Hu #[0]] at h1;rw[Hu #[0]] at h2
     have e0:j-as.length=0:=by
      have:=(GN.mp h1).1;simp at this;omega
     rw[e0] at h1;rw[show j-os.length=0 by omega] at h2;simp at h1 h2;subst h1 h2;rw[aj npl];exact e
theorem wy (b:Nat->Bool) (o:Nat->HO) (hn:n<=900)
  (ht:∀ i H R,i<n->Same H1 H->(∀ H',Same H H'->R (b i) H')->tt (σ0.set k ⇑(lo+i)) H R)
  (he:∀ i H Q,i<n->b i=true->Same H1 H->(∀ a H',Same H H'->H a=none->H' a=some (o i)->Q (.ref a) H')->te (σ0.set k ⇑(lo+i)) H Q)
  (hd:∀ l as H,H1 l=none->Same H1 H->H l=↥(as.map V.ref)->NewAt H1 H l as (((List.range n).filter b).map o)->fin l H):
  CompR (Itr lo n) (gName k) tt te fin σ0 H1:=by
 refine qB (fun l i σ H=>(σ=σ0\/∃ cv,σ=σ0.set k cv)/\Same H1 H/\∃ as:List Addr,H l=↥(as.map V.ref)/\NewAt H1 H l as (((List.range i).filter b).map o)) (fun l hl=>⟨.inl rfl,(GJ H1).laid hl,[],by rw[ah];rfl,NewAt.nil⟩) ?_ (fun l σ H hl ⟨_,s1,as,el,x⟩=>hd l as H hl s1 el x);rintro l i σ H hl hi ⟨hσ,s1,as,el,x⟩;rw[aL]
 have e:σ.set k ⇑(lo+i)=σ0.set k ⇑(lo+i):=by
  rcases hσ with rfl | ⟨cv,rfl⟩
  . rfl
  . exact IB ..
 rw[e];refine ht i H _ hi s1 fun H2 s2=>?_;have el2:=s2 _ _ el;have x2:=x.same s2;have s12:=s1.trans s2
 cases hb:b i with
 | false=>
  rw[G3 GM];refine⟨.inr ⟨_,rfl⟩,s12,as,el2,?_⟩;rw[HH,Hm,Hv,hb]
  simpa using x2
 | true=>
  rw[G9 rfl];refine he i H2 _ hi hb s12 fun p H3 s3 hp ep=>⟨_,s3 _ _ el2,?_,.inr ⟨_,rfl⟩,(s12.trans s3).own hl,as++[p],?_,?_⟩
  . rw[GG,x2.len,GG];exact ay (GS (jJ b hi hn) #[1])
  . rw[ah];simp
  . have y:=x2.more s12 s3 hp ep el2 (.lst (as.map V.ref++[V.ref p]));rw[HH,Hm,Hv,hb]
    simpa using y
theorem yh {xs:List V} (b:Nat->Bool) (o:Nat->HO) (hn:xs.length<=900) (hq:SqL K H1 a xs)
  (ht:∀ i x H R,xs[i]? =some x->Same H1 H->(∀ H',Same H H'->R (b i) H')->tt (σ0.set k (some x)) H R)
  (he:∀ i x H Q,xs[i]? =some x->b i=true->Same H1 H->(∀ a H',Same H H'->H a=none->H' a=some (o i)->Q (.ref a) H')->te (σ0.set k (some x)) H Q)
  (hd:∀ l as H,H1 l=none->Same H1 H->H l=↥(as.map V.ref)->NewAt H1 H l as (((List.range xs.length).filter b).map o)->fin l H):
  CompR (Itl K a) (gName k) tt te fin σ0 H1:=by
 refine nv (xs:=xs) (fun l i σ H=>(σ=σ0\/∃ cv,σ=σ0.set k cv)/\Same H1 H/\∃ as:List Addr,H l=↥(as.map V.ref)/\NewAt H1 H l as (((List.range i).filter b).map o)) (fun l hl=>⟨.inl rfl,(GJ H1).laid hl,[],by rw[ah];rfl,NewAt.nil⟩) (fun l i σ H _ _ p=>p.2.1.seq hq) ?_ (fun l σ H hl ⟨_,s1,as,el,x⟩=>hd l as H hl s1 el x);rintro l i y σ H hl hy ⟨hσ,s1,as,el,x⟩;have hi:i<xs.length:=(GN.mp hy).1;rw[aL]
 have e:σ.set k (some y)=σ0.set k (some y):=by
  rcases hσ with rfl | ⟨cv,rfl⟩
  . rfl
  . exact IB ..
 rw[e];refine ht i y H _ hy s1 fun H2 s2=>?_;have el2:=s2 _ _ el;have x2:=x.same s2;have s12:=s1.trans s2
 cases hb:b i with
 | false=>
  rw[G3 GM];refine⟨.inr ⟨_,rfl⟩,s12,as,el2,?_⟩;rw[HH,Hm,Hv,hb]
  simpa using x2
 | true=>
  rw[G9 rfl];refine he i y H2 _ hy hb s12 fun p H3 s3 hp ep=>⟨_,s3 _ _ el2,?_,.inr ⟨_,rfl⟩,(s12.trans s3).own hl,as++[p],?_,?_⟩
  . rw[GG,x2.len,GG];exact ay (GS (jJ b hi hn) #[1])
  . rw[ah];simp
  . have z:=x2.more s12 s3 hp ep el2 (.lst (as.map V.ref++[V.ref p]));rw[HH,Hm,Hv,hb]
    simpa using z
end
theorem xn:∀{ds:List PyData},(∀ d∈ds,PyData.canLay0 d=true)->PyData.canLayAll0 ds=true
 | [],_=>rfl
 | d::r,h=>by rw[PyData.canLayAll0,h d GV,xn fun e he=>h e (GR _ he)];rfl
theorem tJ{n:Nat}:∀{ds:List PyData},(∀ d∈ds,PyData.depth d<=n)->PyData.depthAll ds<=n
 | [],_=>HG _
 | d::r,h=>by rw[PyData.depthAll];exact Nat.max_le.mpr ⟨h d GV,tJ fun e he=>h e (GR _ he)⟩
theorem sw{α:Type}[DecidableEq α](g:α->PyData)(hg:∀ a b,PyData.eqv (g a) (g b)=decide (a=b)):∀ xs ys:List α,PyData.eqvAll (xs.map g) (ys.map g)=decide (xs=ys)
 | [],[]=>rfl
 | [],_::_=>rfl
 | _::_,[]=>rfl
 | x::xs,y::ys=>by
  rw[Hd,Hd,PyData.eqvAll,hg,sw g hg xs ys,Hx];simp
structure IsLL(H:Hp)(l:Addr)(as:List Addr)(GC:List ∅):Prop where
 top:H l=↥(as.map V.ref)
 len:as.length=GC.length
 at_:∀(j:Nat) (a:Addr) (xs:∅),as[j]? =some a->GC[j]? =some xs->H a=↥(xs.map V.int)
def IsLL.same{H':Hp}{l:Addr}{as:List Addr}{GC:List ∅}(x:IsLL H l as GC)(s:Same H H'):IsLL H' l as GC:=
 ⟨s _ _ x.top,x.len,fun j a xs h1 h2=>s _ _ (x.at_ j a xs h1 h2)⟩
def jw(K:Frag):Sp:=fun vs H Q _=>∃ a h w g c,vs=[.ref a,.int c]/\IsFl H a h w g/\0<w/\w<100/\∀ p,H p=none->Q (.ref p) (upd H p (.tup [.int (c/w),.int (c%w)]))
def mq(K:Frag):TS:=#[":glbk0df#1 h#2 iNabU12abB12e"]
abbrev eD9(Q:VK):Ends:={nx:=fun _ H'=>Q .non H',rt:=Q}
variable{K:Frag}{vs:List V}
def yi{Q:VK}{E:XK}(h:jw K vs H Q E):mq K (eD9 Q) (start ["floor","cell","wide"] vs) H:=by
 obtain⟨a,h,w,g,c,rfl,ha,w0,w1,k⟩:=h;ac_nf;unfold mq;symm;rw[gg ha];refine aP (a:=V.int w) rfl ?_;symm;refine⟨⟨w0,by omega⟩,w0,lnR rfl,k⟩
def kn(K:Frag):Sp:=fun vs H Q _=>∃ a h w g c,vs=[.ref a,.int c]/\IsFl H a h w g/\0<w/\w<100/\∀ l H',Same H H'->H l=none->H' l=↥((besL h w c).map V.int)->Q (.ref l) H'
def nE(K:Frag):TS:=#[":glbk0df#0 h#2 glbk0df#1 h#3 gl,~Mca0a1eh#4 glveh#5 gmob>bk4df#0 df#0 VHcGW5abO13engmob>bk4df#1 df#0 VHcGW5abO1df#1 engmob<bk4df#1 bO3df#1 VHcGW5abu1df#1 engmob<bk4df#0 bO2df#1 VHcGW5abu13eni5"]
theorem qH {D:Ends} {σ:St} {t:TT} {e:TE} {b:Bool} {v:Int} {l:Addr} (hσ:σ[i]? =some ↑l) (ht:∀ R,R b H->t σ H R) (hl:H l=↥(ns.map V.int)) (hn:ns.length<=900)
  (he:∀ Q,Q (.int v) H->e σ H Q) (k:∀ H',(H' l=↥((ns++if b=true then [v] else []).map V.int))->(∀ c,c≠l->H' c=H c)->D.nx σ H'):
  tIfS t (tDrop (tBM K "list" bK (tVar i) (tCons e tNil))) tNext D σ H:=by
 rw[ax];refine ht _ ?_
 cases b with
 | false=>
  refine iteF ?_;rw[bE];exact k H (by simpa using hl) fun _ _=>rfl
 | true=>
  refine iteT ?_;rw[bF,d8,DD];refine⟨_,hσ,bD hl,?_⟩;rw[bj];refine he _ ?_;rw[cH,d9 hl];refine⟨by rw[GG];exact ay #[0],k _ ?_ fun c hc=>aj hc⟩;rw[ah];simp
def zR{Q:VK}{E:XK}(h:kn K vs H Q E):nE K (eD9 Q) (start ["floor","cell","high","wide","spot","found"] vs) H:=by
 obtain⟨a,h,w,g,c,rfl,ha,w0,w1,k⟩:=h;ac_nf;unfold nE;symm;rw[gg ha];refine aP (a:=V.int h) rfl ?_;symm;rw[gg ha];refine aP (a:=V.int w) rfl ?_;symm;refine⟨a,h,w,g,c,rfl,ha,w0,w1,fun p hp=>?_⟩;symm;refine⟨aV #[1],fun l hl=>?_⟩;have npl:p≠l:=fun e=>by rw[e,ah] at hl;cases hl
 have hl0:H l=none:=by rw[aj npl.symm] at hl;exact hl
 have hpS:∀ H':Hp,(∀ d,d≠l->H' d=upd H p (.tup [.int (c/w),.int (c%w)]) d)->H' p=some (.tup [.int (c/w),.int (c%w)]):=fun H' e=>by rw[e p npl,ah]
 refine qH (ns:=[]) (l:=l) (i:=5) (b:=decide (0<c/w)) (v:=c-w) rfl (fun R q=>?_) ah #[1] (fun Q q=>?_) fun H1 e1 f1=>?_
 . symm;rw[gg (hpS _ fun d hd=>aj hd)];refine aP rfl ?_;symm;exact q
 . symm;exact q
 symm;refine qH (l:=l) (i:=5) (b:=decide (0<c%w)) (v:=c-1) rfl (fun R q=>?_) e1 (by simp;split <;> simp) (fun Q q=>?_) fun H2 e2 f2=>?_
 . symm;rw[gg (hpS _ fun d hd=>by rw[f1 d hd,aj hd])];refine aP rfl ?_;symm;exact q
 . symm;exact q
 symm;refine qH (l:=l) (i:=5) (b:=decide (c%w<w-1)) (v:=c+1) rfl (fun R q=>?_) e2 (by simp;split <;> split <;> simp) (fun Q q=>?_) fun H3 e3 f3=>?_
 . symm;rw[gg (hpS _ fun d hd=>by rw[f2 d hd,f1 d hd,aj hd])];refine aP rfl ?_;symm;exact q
 . symm;exact q
 symm;refine qH (l:=l) (i:=5) (b:=decide (c/w<h-1)) (v:=c+w) rfl (fun R q=>?_) e3 (by simp;split <;> split <;> split <;> simp) (fun Q q=>?_) fun H4 e4 f4=>?_
 . symm;rw[gg (hpS _ fun d hd=>by rw[f3 d hd,f2 d hd,f1 d hd,aj hd])];refine aP rfl ?_;symm;exact q
 . symm;exact q
 symm;refine k l H4 (fun b o e=>?_) hl0 ?_
 . have nb:b≠l:=av e hl0;have nbp:b≠p:=av e hp;rw[f4 b nb,f3 b nb,f2 b nb,f1 b nb,aj nb,aj nbp];exact e
 . rw[e4];unfold besL;simp[GX]
structure FlOk(h w g:Int):Prop where
 h0:1<=h
 h1:h<=6
 w0:1<=w
 w1:w<=6
 m:h*w<=16
 g0:1<=g
 g1:g<=6
section
variable{K:Frag}{H:Hp}{Q:VK}
def vk{p:Addr}{xs:List V}(hp:H p=↥xs)(h:Q (.bl true) H):kIsi [.ref p,.ty "list"] H Q:=by
 refine⟨by decide,aP (a:="list") (by unfold jH;dsimp only;rw[hp]) ?_⟩;rw[show isTy "list" "list"=true by decide];exact h
def zS{p:Addr}{xs:List V}(hp:H p=some (.tup xs))(h:Q (.bl true) H):kIsi [.ref p,.ty "tuple"] H Q:=by
 refine⟨by decide,aP (a:="tuple") (by unfold jH;dsimp only;rw[hp]) ?_⟩;rw[show isTy "tuple" "tuple"=true by decide];exact h
def CY{n:Nat}{t:TGs}{σ:St}{k:St->Hp->Prop}{p:Addr}{xs:List V}(hp:H p=some (.tup xs))(hn:xs.length=n)(h:t xs σ H k):gTup K n t (.ref p) σ H k:=⟨p,xs,rfl,Kc hp,hn,h⟩
def AV{i j:Nat}{x y:V}{σ:St}{k:St->Hp->Prop}:gCons (gName i) (gCons (gName j) gNil) [x,y] σ H k=k ((σ.set i (some x)).set j (some y)) H:=by
 refine propext ⟨?_,fun h=>⟨x,[y],rfl,y,[],rfl,rfl,h⟩⟩;rintro⟨v,r,e,v2,r2,e2,e3,h⟩;cases e;cases e2;exact h
end
end L2
namespace L2
open PySem PySem.Builtin PySem.Builtin.Str
def tx(l:List Nat):Str:=⟨l.toArray⟩
def qI(l:List Nat):(tx l).cps.toList=l:=by simp[tx]
def DF(x:Str):tx x.cps.toList=x:=by cases x;simp[tx]
def zT{a b:List Nat}(h:tx a=tx b):a=b:=by rw[← qI a,h,qI]
def fI(l:List Nat):(tx l).length=l.length:=by simp[tx,Str.length]
def qJ(a b:List Nat):tx a++tx b=tx (a++b):=by
 refine Str.ext' ?_;rw[Str.cps_append];simp[tx]
def b6(a b:List Nat):decide (tx a=tx b)=decide (a=b):=by
 by_cases h:a=b
 . subst h;simp
 . have:¬ tx a=tx b:=fun e=>h (zT e);rw[GI h,GI this]
def catL(c:Nat):List (List Nat)->List Nat
 | []=>[]
 | [x]=>x
 | x::y::r=>x++c::catL c (y::r)
theorem sy(c:Nat):∀ ts:List (List Nat),Str.join (tx [c]) (ts.map tx)=tx (catL c ts)
 | []=>rfl
 | [x]=>rfl
 | x::y::r=>by
  show tx x++tx [c]++Str.join (tx [c]) ((y::r).map tx)=_;rw[sy c (y::r),qJ,qJ];show tx _=tx (x++c::catL c (y::r));rw[JH];rfl
def AW(sep:Str)(ts:List Str):Txt.join sep ts=Str.join sep ts:=StrLaws.glued_eq_join sep ts
theorem xo{c:Nat}:∀{a b x y:List Nat},c∉a->c∉b->a++c::x=b++c::y->a=b/\x=y
 | [],[],_,_,_,_,h=>⟨rfl,by simpa using h⟩
 | [],b::bs,_,_,_,hb,h=>by
  simp at h;exact absurd (GU.mpr (.inl h.1)) hb
 | a::as,[],_,_,ha,_,h=>by
  simp at h;exact absurd (GU.mpr (.inl h.1.symm)) ha
 | a::as,b::bs,x,y,ha,hb,h=>by
  simp at h;have:=xo (fun z=>ha (GR _ z)) (fun z=>hb (GR _ z)) h.2;exact⟨by rw[h.1,this.1],this.2⟩
def vm{c:Nat}:∀{x:List Nat} {r:List (List Nat)} {y:List Nat},c∈catL c (x::y::r):=by
 intro x r y;show c∈x++c::_;simp
theorem vn{c:Nat}:∀{xs ys:List (List Nat)},xs≠[]->ys≠[]->(∀ x∈xs,c∉x)->(∀ y∈ys,c∉y)->catL c xs=catL c ys->xs=ys
 | [],_,h,_,_,_,_=>absurd rfl h
 | _,[],_,h,_,_,_=>absurd rfl h
 | [x],[y],_,_,_,_,h=>by
  have h':x=y:=h;rw[h']
 | [x],y::z::r,_,_,hx,_,h=>by
  have h':x=catL c (y::z::r):=h;exact absurd (h' ▸ vm) (hx x GV)
 | x::z::r,[y],_,_,_,hy,h=>by
  have h':catL c (x::z::r)=y:=h;exact absurd (h' ▸ vm) (hy y GV)
 | x::z::r,y::u::s,_,_,hx,hy,h=>by
  obtain⟨e1,e2⟩:=xo (hx x GV) (hy y GV) (show x++c::catL c (z::r)=y++c::catL c (u::s) from h);rw[e1,vn (by simp) (by simp) (fun w hw=>hx w (GR _ hw)) (fun w hw=>hy w (GR _ hw)) e2]
def AX(x y:Str):Txt.split x y≠[]:=by
 intro h;unfold Txt.split at h
 split at h
 . cases h
 . split at h
   . cases h
   . rw[StrLaws.partsBetween_eq] at h;obtain⟨p,r,e⟩:=StrLaws.partsFrom_ne x y.length 0 (occurrences x y 0 x.length (x.length+1));rw[e] at h;cases h
def AY{c:Nat}{Gy:List (List Nat)}(hne:Gy≠[])(hf:∀ r∈Gy,c∉r):Txt.split (tx (catL c Gy)) (tx [c])=Gy.map tx:=by
 have h1:=StrLaws.join_split (tx (catL c Gy)) (tx [c]);have h2:∀ p∈Txt.split (tx (catL c Gy)) (tx [c]),c∉p.cps.toList:=StrLaws.split_free _ c;have h3:=AX (tx (catL c Gy)) (tx [c]);generalize Txt.split (tx (catL c Gy)) (tx [c])=S at*
 have e:S=(S.map (·.cps.toList)).map tx:=by
  rw[Hn]
  conv=>lhs;rw[← J8 S]
  exact Ii fun x _=>(DF x).symm
 rw[e,sy] at h1;have h4:=zT h1;have h5:=vn (c:=c) (xs:=S.map (·.cps.toList)) (ys:=Gy) (by simpa using h3) hne (fun x hx=>by obtain⟨p,hp,rfl⟩:=G1.mp hx;exact h2 p hp) hf h4;rw[e,h5]
end L2
namespace L2
end L2
namespace L2
open PySem PySem.Spec PyProof.Rows
local macro_rules|`(tactic|walk_at "w")=>wk9 ws1
local macro_rules|`(tactic|symm)=>`(tactic|walk_at "w")
section
variable{k:Nat}{tt:TT}{te:TE}{fin:Addr->Hp->Prop}{σ0:St}{H1:Hp}
def zU {cs:List Nat} (b:Nat->Bool) (f:Nat->V) (hn:cs.length<=900)
  (ht:∀ i c H R,cs[i]? =some c->Same H1 H->(∀ H',Same H H'->R (b i) H')->tt (σ0.set k (some (.str (tx [c])))) H R)
  (he:∀ i c H Q,cs[i]? =some c->b i=true->Same H1 H->(∀ H',Same H H'->Q (f i) H')->te (σ0.set k (some (.str (tx [c])))) H Q)
  (hd:∀ l H,H1 l=none->Same H1 H->H l=↥(((List.range cs.length).filter b).map f)->fin l H):
  CompR (Its (tx cs)) (gName k) tt te fin σ0 H1:=by
 intro l hl;have hsz:(tx cs).cps.size=cs.length:=by simp[tx]
 refine⟨fun i m σ H=>m=cs.length-i/\i<=cs.length/\(σ=σ0\/∃ cv,σ=σ0.set k cv)/\Same H1 H/\H l=↥(((List.range i).filter b).map f),⟨cs.length,by simp,HG _,.inl rfl,(GJ H1).laid hl,by rw[ah];rfl⟩,?_⟩;rintro i m σ H ⟨rfl,hi,hσ,s1,el⟩;by_cases hlt:i<cs.length
 . refine .inr ⟨by show i < (tx cs).cps.size;rw[hsz];exact hlt,fun σ H=>(σ=σ0\/∃ cv,σ=σ0.set k cv)/\Same H1 H/\H l=↥(((List.range (i+1)).filter b).map f),fun σ' H' p'=>⟨cs.length - (i+1),by omega,rfl,hlt,p'⟩,?_⟩;rintro x H' ⟨rfl,c,hc,rfl⟩;have hc':cs[i]? =some c:=by simpa [tx] using hc
   show gName k (.str (tx [c])) σ H' _;rw[aL]
   have e:σ.set k (some (.str (tx [c])))=σ0.set k (some (.str (tx [c]))):=by
    rcases hσ with rfl | ⟨cv,rfl⟩
    . rfl
    . exact IB ..
   rw[e];refine ht i c H' _ hc' s1 fun H2 s2=>?_;have el2:=s2 _ _ el
   cases hb:b i with
   | false=>
    rw[G3 GM];refine⟨.inr ⟨_,rfl⟩,s1.trans s2,?_⟩;rw[HH,Hm,Hv,hb]
    simpa using el2
   | true=>
    rw[G9 rfl];refine he i c H2 _ hc' hb (s1.trans s2) fun H3 s3=>⟨_,s3 _ _ el2,by rw[GG];exact ay (GS (jJ b hlt hn) #[1]),.inr ⟨_,rfl⟩,((s1.trans s2).trans s3).own hl,?_⟩;rw[ah,HH,Hm,Hv,hb];simp
 . have e:i=cs.length:=by omega
   subst e;exact .inl ⟨by show(tx cs).cps.size<=_;rw[hsz];exact GP _,hd l H hl s1 el⟩
end
def mW{α:Type}(xs:∅)(g:Int->α):(List.range xs.length).map (fun i=>g (xs.getD i 0))=xs.map g:=by
 have e:xs=(List.range xs.length).map fun i=>xs.getD i 0:=by
  refine Id fun i=>?_;rw[GK];by_cases h:i<xs.length
  . rw[HM h,GH h];simp[List.getD,h]
  . rw[G4 #[0],G4 (by simpa using h)];rfl
 conv=>rhs;rw[e]
 rw[Hn];rfl
def vo{sep:Str}{ts:List Str}(h1:ts.length<=1000)(h2:∀ t∈ts,t.length<=1000)(h3:sep.length<=10):JoinOk sep ts=true:=by
 unfold JoinOk;rw[IV];refine StrLaws.joinFits (B:=1000) h2 ?_;have a1:ts.length*1000<=1000*1000:=Jg _ h1;have a2:ts.length*sep.length<=1000*10:=Nat.mul_le_mul h1 h3;omega
abbrev rIsN:R2:=fun x y H Q=>y=.non/\Q (.bl (decide (x=.non))) H
abbrev rNotN:R2:=fun x y H Q=>y=.non/\Q (.bl (!decide (x=.non))) H
def kStr:List V->Hp->VK->Prop
 | [.int i],H,Q=>i.natAbs.log2<1920/\Q (.str (Str.ofString (toString i))) H
 | _,_,_=>False
section
variable{X:Cx}
def tK:CallR X (.type "str") kStr:=by
 intro Gx s σ H xs us Q I r h;unfold kStr at h
 split at h
 . obtain⟨hi,q⟩:=h
   cases r with
   | cons r0 rr=>
    cases rr;obtain⟨t,rfl⟩:=r0;exact PySem.P.str_of_int hi ⟨.str _,H,I.tok _,⟨_,rfl⟩,q⟩
 . exact h.elim
end
section
variable{K:Frag}{H:Hp}{Q:VK}
def fz{x:V}:rIsN x .non H Q=Q (.bl (decide (x=.non))) H:=by simp[rIsN]
def dG{x:V}:rNotN x .non H Q=Q (.bl (!decide (x=.non))) H:=by simp[rNotN]
def eH{i:Int}:kStr [.int i] H Q=(i.natAbs.log2<1920/\Q (.str (Str.ofString (toString i))) H):=rfl
end
structure Bt2(mg:Str->Option Value):Prop extends Bt mg where
 all_:mg "all"=none
 sum_:mg "sum"=none
 enumerate_:mg "enumerate"=none
section
variable{K:Frag}{H:Hp}{Q:VK}{D:Ends}{σ:St}{g:TG}{tb:TS}{ta:TA}{ix:List (Option Nat)}{tt:TT}{te tf:TE}{k:Nat}
def eI:tIf tt te tf σ H Q=tt σ H fun c H1=>if c=true then te σ H1 Q else tf σ H1 Q:=rfl
def bq:tComp ix (oK ta) g tt te σ H Q=ta σ H fun vs H1=>∃ i j:Int,vs=[.int i,.int j]/\(-(2^62)<=i/\i<2^62/\ -(2^62)<=j/\j<2^62)/\CompR (Itr i (j-i).toNat) g tt te (fun l H'=>Q (.ref l) H') (subσ ix σ) H1:=rfl
def a9:sComp k ix (oK ta) g tt te D σ H=ta σ H fun vs H1=>∃ i j:Int,vs=[.int i,.int j]/\(-(2^62)<=i/\i<2^62/\ -(2^62)<=j/\j<2^62)/\CompR (Itr i (j-i).toNat) g tt te (fun l H'=>D.nx (σ.set k ↑l) H') (subσ ix σ) H1:=rfl
def isiE{x:V}{n t:String}{b:Bool}(hx:jH H x=some t)(hn:oO n=true)(hb:isTy t n=b):kIsi [x,.ty n] H Q=Q (.bl b) H:=by
 subst hb;show(oO n=true/\bnd (jH H x) fun t=>Q (.bl (isTy t n)) H)=_;rw[hx];simp only[hn,true_and,aX]
def br{i:Int}:kIsi [.int i,.ty "int"] H Q=Q (.bl true) H:=isiE (t:="int") rfl #[1] #[1]
def bt{i:Int}:kIsi [.int i,.ty "bool"] H Q=Q (.bl false) H:=isiE (t:="int") rfl #[1] #[1]
def bu{i:Int}:kIsi [.int i,.ty "str"] H Q=Q (.bl false) H:=isiE (t:="int") rfl #[1] #[1]
def bv{i:Bool}:kIsi [.bl i,.ty "bool"] H Q=Q (.bl true) H:=isiE (t:="bool") rfl #[1] #[1]
def bw{i:Bool}:kIsi [.bl i,.ty "int"] H Q=Q (.bl true) H:=isiE (t:="bool") rfl #[1] #[1]
def bx{i:Str}:kIsi [.str i,.ty "str"] H Q=Q (.bl true) H:=isiE (t:="str") rfl #[1] #[1]
def bz{i:Bool}:kIsi [.bl i,.ty "str"] H Q=Q (.bl false) H:=isiE (t:="bool") rfl #[1] #[1]
def cV{A B:Prop}:(if true=true then A else B)=A:=G9 rfl
def cW{A B:Prop}:(if false=true then A else B)=B:=G3 GM
def cX{i:Int}:rU (fun i=>.int (-i)) (.int i) H Q=Q (.int (-i)) H:=by
 refine propext ⟨?_,fun h=>⟨i,rfl,h⟩⟩;rintro⟨j,e,h⟩;cases e;exact h
def ixT{p:Addr}{i:Int}{xs:List V}{v:V}(h:H p=some (.tup xs))(e:atI xs i=some v)(q:Q v H):cIx (.ref p) (.int i) H Q:=by
 rw[gg h];exact aP e q
def ixL{p:Addr}{i:Int}{xs:List V}{v:V}(h:H p=↥xs)(e:atI xs i=some v)(q:Q v H):cIx (.ref p) (.int i) H Q:=by
 rw[Bv h];exact aP e q
def ixI{p:Addr}{i:Int}{ns:∅}(h:H p=↥(ns.map V.int))(h0:0<=i)(h1:i<ns.length)(q:Q (.int (ns.getD i.toNat 0)) H):cIx (.ref p) (.int i) H Q:=ixL h (pY h0 h1) q
end
def cMulB:R2
 | .int i,.int j,H,Q=>IntMulOk i j/\Q (.int (i*j)) H
 | _,_,_,_=>False
end L2
namespace Att
open PySem PySem.W PySem.Calls PyProof.Rows
end Att
namespace L2
open PySem PySem.Spec PyProof.Rows
section
variable{K:Frag}{H:Hp}{Q:VK}{D:Ends}{σ:St}
def DY{i j:Int}:cMulB (.int i) (.int j) H Q=(IntMulOk i j/\Q (.int (i*j)) H):=rfl
def fA{i j:Int}:cPow (.int i) (.int j) H Q=(CPow i j/\Q (.int (i^j.toNat)) H):=rfl
def xp{ix:List (Option Nat)}{tl:TE}{g:TG}{tt:TT}{te:TE}:tComp ix (iTup K tl) g tt te σ H Q=tl σ H fun x H1=>∃ a,x=.ref a/\(∃ xs,SqT K H1 a xs)/\CompR (Itt K a) g tt te (fun l H'=>Q (.ref l) H') (subσ ix σ) H1:=rfl
def yj{p:Addr}{bs:List Bool}(hp:H p=↥(bs.map V.bl))(h:Q (.bl (bs.any id)) H):kAny [.ref p] H Q:=by
 show bnd (unL (H p)) _;rw[hp];exact aP (a:=bs.map V.bl) rfl ⟨bs,rfl,h⟩
def qK{p q:Addr}{xs ys:List V}(hp:H p=↥xs)(hq:H q=↥ys)(hn:xs.length+ys.length<=1000)(h:∀ r,H r=none->Q (.ref r) (upd H r (.lst (xs++ys)))):cAdd (.ref p) (.ref q) H Q:=by
 show bnd (unM (H p)) _;rw[hp];refine aP (a:=xs) rfl ?_;rw[hq];exact aP (a:=ys) rfl ⟨Hs (ay hn),h⟩
def AZ {g:TG} {tt:TT} {te:TE} {a:Addr} {xs:List V} {fin:Addr->Hp->Prop} {σ0:St} {H1:Hp} (Pv:Addr->Nat->St->Hp->Prop) (h0:∀ l,H1 l=none->Pv l 0 σ0 (upd H1 l (.lst []))) (hq:∀ l i σ H,H1 l=none->i<=xs.length->Pv l i σ H->SqT K H a xs)
  (hs:∀ l i x σ H,H1 l=none->xs[i]? =some x->Pv l i σ H->g x σ H fun σ2 H3=>tt σ2 H3 fun b H4=>if b=true then te σ2 H4 fun y H5=>∃ ys,H5 l=↥ys/\ys.length<sizeLine/\Pv l (i+1) σ2 (upd H5 l (.lst (ys++[y]))) else Pv l (i+1) σ2 H4)
  (hd:∀ l σ H,H1 l=none->Pv l xs.length σ H->fin l H):CompR (Itt K a) g tt te fin σ0 H1:=by
 intro l hl0;refine⟨fun i m σ H=>m=xs.length-i/\i<=xs.length/\Pv l i σ H,⟨xs.length,by simp,HG _,h0 l hl0⟩,?_⟩;rintro i m σ H ⟨rfl,hi,p⟩;have q:=hq l i σ H hl0 hi p;by_cases hlt:i<xs.length
 . refine .inr ⟨⟨xs,xs[i],q,by simp[hlt]⟩,Pv l (i+1),fun σ' H' p'=>⟨xs.length - (i+1),by omega,rfl,hlt,p'⟩,fun x H' y=>?_⟩;obtain⟨e,y⟩:=y;subst e;exact hs l i x σ _ hl0 (y xs q) p
 . have e:i=xs.length:=by omega
   subst e;exact .inl ⟨⟨xs,q,GP _⟩,hd l σ H hl0 p⟩
end
inductive RK where
 | Rule | Unlike | Sum | Rising | Seen | Count | Joined | NoSquare | Ring
 deriving DecidableEq
structure RCl (ι:Type) where
 A:ι->Addr
 ok:ι->Bool
section
variable{ι:Type}
def tFldK(c:RCl ι)(ta:TE)(f:Str):TE:=fun σ H Q=>ta σ H fun x H1=>∃ a k dx fs v,x=.ref a/\c.ok k=true/\H1 a=some (.ins (c.A k) dx fs)/\fs.lookup f=some v/\Q v H1
def sFldK(c:RCl ι)(ta tv:TE)(f:Str):TS:=fun D σ H=>tv σ H fun y H1=>ta σ H1 fun x H2=>∃ a k dx fs,x=.ref a/\c.ok k=true/\H2 a=some (.ins (c.A k) dx fs)/\fs.length<1000/\
 D.nx σ (upd H2 a (.ins (c.A k) dx (putF f y fs)))
def aM(c:RCl ι)(okm:ι->Bool)(m:Str)(sp:ι->Sp)(ta:TE)(t:TA):TE:=fun σ H Q=>ta σ H fun x H1=>∃ a k dx fs,x=.ref a/\okm k=true/\H1 a=some (.ins (c.A k) dx fs)/\fs.lookup m=none/\
 t σ H1 fun vs H2=>sp k (x::vs) H2 Q E0
structure FldK(K:Frag)(c:RCl ι)(f:Str):Prop where
 ex:∀ k,c.ok k=true->Cls K (c.A k)/\NoAttr K (c.A k) f
structure MCal(P:Program)(w:World)(K:Frag)(mg:Str->Option Value)(base:Heap)(c:RCl ι)(okm:ι->Bool)(k:Nat)(m:Str)(ps:List Str)(sp:ι->Sp):Prop where
 ex:∀ i,okm i=true->∃(f:Addr) (fd:FuncData),Cls K (c.A i)/\Meth K (c.A i) m f/\FnOk P w K mg base CX0 k f fd ps (sp i)/\Binds K fd ps []
structure KCal(P:Program)(w:World)(K:Frag)(mg:Str->Option Value)(base:Heap)(k:Nat)(x:Str)(C:Addr)(ps:List Str)(sp:Sp):Prop where
 ex:∃(f:Addr) (fd:FuncData),Mk K C f/\FnOk P w K mg base CX0 k f fd ps sp/\mg x=↑C/\Binds K fd ps []
end
section
variable{ι:Type}{X:Cx}{c:RCl ι}{o e value:Expr}{es:List Expr}{f x m:Str}{p pos pos' apos:Pos}{ta tv:TE}{t:TA}{okm:ι->Bool}{k n:Nat}{ps:List Str}{sp:ι->Sp}{sp1:Sp}{C:Addr}
def bi(he:PE X e ta)(F:FldK X.K c f)(hb:attributeBase e f X.env (eval e X.env)=eval e X.env:=by rfl):PE X (.Attribute e f pos) (tFldK c ta f):=by
 intro Gx s σ H Q I h;refine BL hb (thn (he Gx s σ H _ I h) fun u s1 ⟨x,H1,I1,rx,a,k,dx,fs,v,ex,hk,ea,l,q⟩=>?_);subst ex;obtain rfl:u=Value.ref a:=rx;obtain⟨cl,na⟩:=F.ex k hk;exact ya I1 ea cl na l fun u' s2 I2 ru=>⟨v,H1,I2,ru,q⟩
def gB(ha:PE X o ta)(hv:PE X value tv)(F:FldK X.K c f)(hs:swapsWith value (some (.Attribute o f pos')) pos.line X.env=pure false:=by rfl):PS X (.Assign [.Attribute o f pos'] value pos) (sFldK c ta tv f):=by
 intro Gx s σ H D I h;refine plainObj_wpAny_Assign_Attribute (thn (hv Gx s σ H _ I h) fun u s1 ⟨y,H1,I1,ry,q⟩=>thn (ha Gx s1 σ H1 _ I1 q) fun ov s2 ⟨x,H2,I2,rx,a,k,dx,fs,ex,hk,ea,l,q2⟩=>?_) hs;subst ex;obtain rfl:ov=Value.ref a:=rx;obtain⟨cl,na⟩:=F.ex k hk;exact yb I2 ea cl na l ry fun s3 I3=>⟨σ,_,I3,q2⟩
def cB {pl:Sem Bool} (M:MCal X.prog X.w X.K X.mg X.base c okm k m ps sp) (hr:Room n X.A) (hk:k<=n) (he:PE X o ta) (ha:PA X (e::es) t)
  (hst:starEach (e::es) X.env=(false,eval e X.env)::starEach es X.env:=by rfl) (hpl:(backTo pos (starEach es X.env)).any (·.1)=false:=by rfl)
  (ht:eval (.Call (.Attribute o m apos) (e::es) [] pos) X.env=(do
   let ov ← eval o X.env
   standAt apos.atName
   let (f,first) ← holding [ov] (getMethod ov m pl)
   callWith pos f first (backTo pos (starEach (e::es) X.env)) (backToKw pos (keywordEach [] X.env))):=by rfl):
  PE X (.Call (.Attribute o m apos) (e::es) [] pos) (aM c okm m sp ta t):=by
 intro Gx s σ H Q I h;refine J6 (pl:=pl) (thn (he Gx s σ H _ I h) fun u s1 ⟨x,H1,I1,rx,a,i,dx,fs,ex,hi,ea,l,q⟩=>?_) ht;subst ex;obtain rfl:u=Value.ref a:=rx;obtain⟨f,fd,cl,hm,F,hb⟩:=M.ex i hi;refine qu I1 ea cl hm l ?_;refine Jw (first:=[.ref a]) (h₀:=X.base) I.ok.mod.kin hm.kp (thn (ha pos Gx s1 σ H1 _ I1 q) fun us s2 ⟨vs,H2,I2,r,q2⟩=>⟨I2.kIn,?_⟩) hst hpl;exact uV (us:=.ref a::us) (vs:=.ref a::vs) F (hr.mono hk) hb .nil uK I2 (.cons rfl r) (by rw[List.append_nil];exact q2)
def aW {pl:Sem Bool} (M:MCal X.prog X.w X.K X.mg X.base c okm k m ps sp) (hr:Room n X.A) (hk:k<=n) (he:PE X o ta)
  (ht:eval (.Call (.Attribute o m apos) [] [] pos) X.env=(do
   let ov ← eval o X.env
   standAt apos.atName
   let (f,first) ← holding [ov] (getMethod ov m pl)
   callWith pos f first (backTo pos (starEach [] X.env)) (backToKw pos (keywordEach [] X.env))):=by rfl):
  PE X (.Call (.Attribute o m apos) [] [] pos) (aM c okm m sp ta tNil):=by
 intro Gx s σ H Q I h;refine J6 (pl:=pl) (thn (he Gx s σ H _ I h) fun u s1 ⟨x,H1,I1,rx,a,i,dx,fs,ex,hi,ea,l,q⟩=>?_) ht;subst ex;obtain rfl:u=Value.ref a:=rx;obtain⟨f,fd,cl,hm,F,hb⟩:=M.ex i hi;refine qu I1 ea cl hm l ?_;exact PySem.W.callWith_K0 (first:=[.ref a]) I1.kIn hm.kp (uV (us:=[.ref a]) (vs:=[.ref a]) F (hr.mono hk) hb .nil uK I1 (.cons rfl .nil) q)
def jx (M:KCal X.prog X.w X.K X.mg X.base k x C ps sp1) (hr:Room n X.A) (hk:k+1<=n) (hg:Gl X x) (ha:PA X (e::es) t)
  (hdb:(x==("__debug__":Str))=false:=by decide) (he:starEach (e::es) X.env=(false,eval e X.env)::starEach es X.env:=by rfl) (hpl:(backTo pos (starEach es X.env)).any (·.1)=false:=by rfl):
  PE X (.Call (.Name x p) (e::es) [] pos) (tMake C sp1 [] E0 t):=by
 obtain⟨f,fd,mk,F,hm,hb⟩:=M.ex;exact BN mk F (hr.mono hk) hg hm hb .nil uK ha hdb he hpl
end
def jK(K:Frag):List V->Hp->VK->Prop
 | [.ref p],H,Q=>bnd (unM (H p)) fun ys=>∀ l,H l=none->Q (.ref l) (upd H l (.tup ys))
 | _,_,_=>False
def tInG(ws:List Str)(neg:Bool)(te:TE):TE:=fun σ H Q=>te σ H fun x H1=>∃ z,x=.str z/\Q (.bl (if neg then !decide (z∈ws) else decide (z∈ws))) H1
structure GTup(K:Frag)(mg:Str->Option Value)(x:Str)(ws:List Str):Prop where
 ex:∃(p:Addr) (o:Obj) (GB:Array Value) (n:Nat),mg x=↑p/\K.lookup p=some o/\o.cls=.type "tuple"/\o.data=.seq GB n/\GB.size<=sizeLine/\Vals (ws.map V.str) GB.toList
theorem iQ:∀ ns:List Str,(ns.map V.str).all flatV=true
 | []=>rfl
 | n::r=>by rw[Hd,Jd,iQ r];rfl
theorem jL(i:Str):∀ ns:List Str,inV (.str i) (ns.map V.str)=decide (i∈ns)
 | []=>by simp[inV]
 | n::r=>by
  have ih:=jL i r;unfold inV at ih ⊢;rw[Hd,JK,ih];show((n==i)||decide (i∈r))=decide (i∈n::r);rw[Hx,IO,IF,GX,GX,GU];exact⟨fun h=>h.elim (fun e=>.inl e.symm) .inr,fun h=>h.elim (fun e=>.inl e.symm) .inr⟩
section
variable{X:Cx}{a:Expr}{ta:TE}{pos p:Pos}{x:Str}{ws:List Str}
def pk:CallR X (.type "tuple") (jK X.K):=by
 intro Gx s σ H xs us Q I r h;unfold jK at h
 split at h
 . obtain⟨ys,e,q⟩:=aQ h;exact ug Gx s σ H _ us Q I r ⟨_,ys,rfl,.inl ⟨G6 (gG e),q⟩⟩
 . exact h.elim
def CZ{ws:List Str}{q:Addr}(hq:∃(o:Obj) (GB:Array Value) (n:Nat),X.K.lookup q=some o/\o.cls=.type "tuple"/\o.data=.seq GB n/\GB.size<=sizeLine/\Vals (ws.map V.str) GB.toList):
  OpR X (compareOp .In) (fun x y H Q=>∃ z,x=.str z/\y=.ref q/\Q (.bl (decide (z∈ws))) H):=by
 intro Gx s σ H x y v u Q I rx ry h;obtain⟨z,rfl,rfl,h⟩:=h;refine no Gx s σ H _ _ v u Q I rx ry ⟨q,ws.map V.str,rfl,.inr (.inr hq),rfl,iQ ws,?_⟩;rw[jL];exact h
def BY{ws:List Str}{q:Addr}(hq:∃(o:Obj) (GB:Array Value) (n:Nat),X.K.lookup q=some o/\o.cls=.type "tuple"/\o.data=.seq GB n/\GB.size<=sizeLine/\Vals (ws.map V.str) GB.toList):
  OpR X (compareOp .NotIn) (fun x y H Q=>∃ z,x=.str z/\y=.ref q/\Q (.bl (!decide (z∈ws))) H):=by
 intro Gx s σ H x y v u Q I rx ry h;obtain⟨z,rfl,rfl,h⟩:=h;refine np Gx s σ H _ _ v u Q I rx ry ⟨q,ws.map V.str,rfl,.inr (.inr hq),rfl,iQ ws,?_⟩;rw[jL];exact h
end
section
variable{ι:Type}{c:RCl ι}{ta tv:TE}{t:TA}{f m:Str}{σ:St}{H:Hp}{Q:VK}{D:Ends}{okm:ι->Bool}{sp:ι->Sp}{sp1:Sp}{C:Addr}{K:Frag}
def dH:tMake C sp1 [] E0 t σ H Q=t σ H fun vs H1=>∀ x dx,H1 x=none->H1 dx=none->dx≠x->sp1 (.ref x::(vs++[])) (upd (upd H1 dx (.own x)) x (.ins C dx [])) (fun v H2=>v=.non/\Q (.ref x) H2) E0:=rfl
def fB{ws:List Str}{neg:Bool}{te:TE}:tInG ws neg te σ H Q=te σ H fun x H1=>∃ z,x=.str z/\Q (.bl (if neg then !decide (z∈ws) else decide (z∈ws))) H1:=rfl
def BZ{p:Addr}{xs:List V}(hp:H p=↥xs)(h:∀ l,H l=none->Q (.ref l) (upd H l (.tup xs))):jK K [.ref p] H Q:=by
 unfold jK;dsimp only;rw[hp];exact h
end
def cntD(ns:∅):Nat:=(firstMet (fun i=>ns.getD i 0) ns.length).length
def oR(te:TE):TE:=fun σ H Q=>te σ H fun x H1=>∃ p ns,x=.ref p/\H1 p=↥(ns.map V.int)/\ns.length<=900/\Q (.int (cntD ns:Nat)) H1
def bI{te:TE}{σ:St}{H:Hp}{Q:VK}:oR te σ H Q=te σ H fun x H1=>∃ p ns,x=.ref p/\H1 p=↥(ns.map V.int)/\ns.length<=900/\Q (.int (cntD ns:Nat)) H1:=rfl
def B0:bootBuiltins "set"=some (.type "set"):=by decide+kernel
def tL {X:Cx} {e:Expr} {te:TE} {p p2 pos pos2:Pos} (hc:X.calm=true) (hgl:Gl X "len") (hgs:Gl X "set") (hl:X.mg "len"=none) (hs:X.mg "set"=none) (he:PE X e te)
  (hs1:starEach [.Call (.Name "set" p2) [e] [] pos2] X.env=[(false,eval (.Call (.Name "set" p2) [e] [] pos2) X.env)]:=by rfl) (hs2:starEach [e] X.env=[(false,eval e X.env)]:=by rfl):
  PE X (.Call (.Name "len" p) [.Call (.Name "set" p2) [e] [] pos2] [] pos) (oR te):=by
 intro Gx s σ H Q I h;refine HS (fF I hgl hl aU ?_ #[1] #[1]);refine Ja ?_ hs1 rfl;rw[hs1];show wpAny _ _ (spliced [(false,eval (.Call (.Name "set" p2) [e] [] pos2) X.env)]) _ _ s;refine Iz ?_;refine HS (fF I hgs hs B0 ?_ #[1] #[1]);refine HF ?_ hs2 rfl;rw[hs2];show wpAny _ _ (spliced [(false,eval e X.env)]) _ _ s;refine Iz (thn (he Gx s σ H _ I h) fun u s1 ⟨x,H1,I1,r1,q1⟩=>?_);refine IE ?_;obtain⟨l,ns,rfl,hys,hn,q⟩:=q1;cases r1;obtain⟨GB,n,rv,ho,hz⟩:=I1.lst hys;have hL:s1.heap.IsList l GB.toArray:=⟨_,ho,rfl,n,rfl⟩;have hI:IntsAre GB ns:=qv rv;have GD:=rv.length;rw[GG] at GD;refine call_set_list (ns:=ns) (I.ok.hd hc) hL (by simpa using hI) (by rw[GT,← GD];exact HU (Nat.succ_le_succ hn) #[1]) fun h' tk hS old=>?_;refine IE ?_;obtain⟨o,es,ep,t,h1,h2,h3,h4,h5,h6,h7,h8⟩:=hS;have hb:(firstMet (fun i=>ns.getD i 0) GB.toArray.size).length<=900:=GS (firstMet_length_le _ _) (by rw[GT,← GD];exact hn);refine call_len_set h1 h2 h3 h7 #[0] ?_;have I2:Inv X Gx σ H1 {s1 with heap:=h',toks:=tk}:=I1.kept fun b o' e=>old b o' (GY e) e;refine⟨.int _,H1,I2.tok _,⟨_,rfl⟩,?_⟩;rw[h8,GT,← GD];exact q
def nF:V->List V->Hp->VK->Prop
 | .str sep,[.ref p],H,Q=>bnd (unS (H p)) fun ys=>∃ ts:List Str,ys=ts.map V.str/\JoinOk sep ts=true/\Q (.str (Txt.join sep ts)) H
 | _,_,_,_=>False
def zV{X:Cx}:MtR X "str.join" nF:=by
 intro Gx s σ H x vs v us Q I rx rv h;unfold nF at h
 split at h
 . rename_i sep p
   obtain⟨ys,e,ts,rfl,hok,q⟩:=aQ h;rcases lF (K:=X.K) e with hq | hq
   . obtain⟨t,rfl⟩:=rx;obtain⟨u,rfl,ru⟩:=c5 rv;cases ru;obtain⟨GB,rvv,pl,hz⟩:=I.list hq;obtain⟨l,rfl,hl⟩:=sk rvv;exact SC.join pl.isList hl hok fun t' k=>⟨.str _,H,I.tok k,⟨t',rfl⟩,q⟩
   . obtain⟨t,rfl⟩:=rx;obtain⟨u,rfl,ru⟩:=c5 rv;cases ru;obtain⟨GB,rvv,pl,hz⟩:=I.tuple hq;obtain⟨l,rfl,hl⟩:=sk rvv;subst hl;obtain⟨o,h1,h2,n,h3⟩:=pl;have hok':=hok;unfold JoinOk at hok';rw[IV] at hok';exact IA F.slot_str_join (Jb _ _ _) F.entry_str_join (F.args_str_join_2 _ _) (meets_str_join_tuple sep t p l hok') ⟨⟨o,n,h1,h2,h3⟩,post_join l ⟨joinFit_length hok',fun t' k=>⟨.str _,H,I.tok k,⟨t',rfl⟩,q⟩⟩⟩
 . exact h.elim
section
variable{X:Cx}{e:Expr}{te:TE}{p2 p3 p4 pos:Pos}{z0:Nat}
def qL:V->List V->Hp->VK->Prop
 | .ref l,[.int i],H,Q=>bnd (unM (H l)) fun xs=>0<=i/\i<xs.length/\bnd (xs[i.toNat]?) fun y=>Q y (upd H l (.lst (xs.eraseIdx i.toNat)))
 | _,_,_,_=>False
def seqIx{i:Int}{n:Nat}(h0:0<=i)(h1:i<n):seqIndex? i n=some i.toNat:=by
 obtain⟨k,rfl⟩:=Int.eq_ofNat_of_zero_le h0;have hk:k<n:=by omega
 unfold seqIndex?;have hn:¬ ((k:Int)<0):=by omega
 simp[hk,hn]
def zW:MtR X "list.pop" qL:=by
 intro Gx s σ H x vs v us Q I rx rv h;unfold qL at h
 split at h
 . obtain⟨xs,e,h0,h1,h⟩:=aQ h;obtain⟨y,ey,q⟩:=aQ h;have hz:xs.length<=sizeLine:=(I.lstM (gG e)).1;have hs:(sizeLine:Int)<2^63:=by decide
   exact AN Gx s σ H _ _ v us Q I rx rv ⟨_,xs,_,_,y,rfl,rfl,gG e,by omega,by omega,seqIx h0 h1,ey,q⟩
 . exact h.elim
def tRevL(te:TE):TE:=fun σ H Q=>te σ H fun x H1=>∃ p xs,x=.ref p/\H1 p=↥xs/\∀ l,H1 l=none->Q (.ref l) (upd H1 l (.lst xs.reverse))
end
section
variable{σ:St}{H:Hp}{Q:VK}{te:TE}
def fC{i j:Int}{H:Hp}{Q:VK}:kMax [.int i,.int j] H Q=Q (.int (if j>i then j else i)) H:=rfl
def dI:tRevL te σ H Q=te σ H fun x H1=>∃ p xs,x=.ref p/\H1 p=↥xs/\∀ l,H1 l=none->Q (.ref l) (upd H1 l (.lst xs.reverse)):=rfl
def B1{l:Addr}{i:Int}{xs:List V}{y:V}(hl:H l=↥xs)(h0:0<=i)(h1:i<xs.length)(ey:xs[i.toNat]? =some y)(q:Q y (upd H l (.lst (xs.eraseIdx i.toNat)))):qL (.ref l) [.int i] H Q:=by
 show bnd (unM (H l)) _;rw[hl];exact aP (a:=xs) rfl ⟨h0,h1,aP ey q⟩
end
def yk:typeLookup (.type "str") (Str.ofString "__int__")=pure none:=by rw[J3,I0];kernel_rfl
def vp:typeLookup (.type "str") (Str.ofString "__index__")=pure none:=by rw[J3,I0];kernel_rfl
def vq:typeLookup (.type "str") (Str.ofString "__trunc__")=pure none:=by rw[J3,I0];kernel_rfl
def numC(n:Nat):List Nat:=if n<10 then [48+n] else [48+n/10,48+n%10]
variable{n:Nat}
def zX(h:n<100):((tx (numC n)).cps.all fun x=>decide (x<128))=true:=by
 have t:((List.range 100).all fun n=>(tx (numC n)).cps.all fun x=>decide (x<128))=true:=by decide+kernel
 exact GZ.mp t n (G0.mpr h)
def zY{α:Type}{M:Model}{A:Around}{E:Value->Shared->Prop}{s:Shared}{Q:α->Shared->Prop}{m m':Sem α}(e:m=m')(h:wpAny M A m' Q E s):wpAny M A m Q E s:=e ▸ h
def gis(n:Nat)(hn:n<100)(u:Tok):Gives (Builtin.«int.__new__» ⟨[.type "int",.str (tx (numC n)) u],[]⟩) (.int n):=
 .of_wp fun M A E s Q h=>by
  obtain⟨hp,g,d,tk,os⟩:=s;have f1:=PySem.F.conv_sub_int;have f2:=PySem.F.madeHere_int;have f3:=yk;have f4:=vp;have f5:=vq
  iterate 44 (any_goals (first | assumption | wp_step))
  refine Hl (wpAny_of_eq (a:=some (tx (numC n))) rfl ?_);refine wpAny_of_eq (a:=some (numC n)) ?e1 ?_
  case e1=>
   show(pure (some (if ((tx (numC n)).cps.all fun x=>decide (x<128))=true then(tx (numC n)).cps.toList else _)):Sem _)=_;rw[G9 (zX hn),qI]
  refine zY (m':=mkInt (n:Int)) ?e2 ?_
  case e2=>
   clear h f1 f2 f3 f4 f5
   match n,hn with | 0,_=>kernel_rfl | 1,_=>kernel_rfl | 2,_=>kernel_rfl | 3,_=>kernel_rfl | 4,_=>kernel_rfl | 5,_=>kernel_rfl | 6,_=>kernel_rfl | 7,_=>kernel_rfl | 8,_=>kernel_rfl | 9,_=>kernel_rfl | 10,_=>kernel_rfl | 11,_=>kernel_rfl | 12,_=>kernel_rfl | 13,_=>kernel_rfl | 14,_=>kernel_rfl | 15,_=>kernel_rfl | 16,_=>kernel_rfl | 17,_=>kernel_rfl | 18,_=>kernel_rfl | 19,_=>kernel_rfl | 20,_=>kernel_rfl | 21,_=>kernel_rfl | 22,_=>kernel_rfl | 23,_=>kernel_rfl | 24,_=>kernel_rfl | 25,_=>kernel_rfl | 26,_=>kernel_rfl | 27,_=>kernel_rfl | 28,_=>kernel_rfl | 29,_=>kernel_rfl | 30,_=>kernel_rfl | 31,_=>kernel_rfl | 32,_=>kernel_rfl | 33,_=>kernel_rfl | 34,_=>kernel_rfl | 35,_=>kernel_rfl | 36,_=>kernel_rfl | 37,_=>kernel_rfl | 38,_=>kernel_rfl | 39,_=>kernel_rfl | 40,_=>kernel_rfl | 41,_=>kernel_rfl | 42,_=>kernel_rfl | 43,_=>kernel_rfl | 44,_=>kernel_rfl | 45,_=>kernel_rfl | 46,_=>kernel_rfl | 47,_=>kernel_rfl | 48,_=>kernel_rfl | 49,_=>kernel_rfl | 50,_=>kernel_rfl | 51,_=>kernel_rfl | 52,_=>kernel_rfl | 53,_=>kernel_rfl | 54,_=>kernel_rfl | 55,_=>kernel_rfl | 56,_=>kernel_rfl | 57,_=>kernel_rfl | 58,_=>kernel_rfl | 59,_=>kernel_rfl | 60,_=>kernel_rfl | 61,_=>kernel_rfl | 62,_=>kernel_rfl | 63,_=>kernel_rfl | 64,_=>kernel_rfl | 65,_=>kernel_rfl | 66,_=>kernel_rfl | 67,_=>kernel_rfl | 68,_=>kernel_rfl | 69,_=>kernel_rfl | 70,_=>kernel_rfl | 71,_=>kernel_rfl | 72,_=>kernel_rfl | 73,_=>kernel_rfl | 74,_=>kernel_rfl | 75,_=>kernel_rfl | 76,_=>kernel_rfl | 77,_=>kernel_rfl | 78,_=>kernel_rfl | 79,_=>kernel_rfl | 80,_=>kernel_rfl | 81,_=>kernel_rfl | 82,_=>kernel_rfl | 83,_=>kernel_rfl | 84,_=>kernel_rfl | 85,_=>kernel_rfl | 86,_=>kernel_rfl | 87,_=>kernel_rfl | 88,_=>kernel_rfl | 89,_=>kernel_rfl | 90,_=>kernel_rfl | 91,_=>kernel_rfl | 92,_=>kernel_rfl | 93,_=>kernel_rfl | 94,_=>kernel_rfl | 95,_=>kernel_rfl | 96,_=>kernel_rfl | 97,_=>kernel_rfl | 98,_=>kernel_rfl | 99,_=>kernel_rfl | (m+100),hm=>exact absurd hm #[0]
  repeat (any_goals (first | assumption | wp_step))
  all_goals first | exact⟨_,rfl,h⟩ | skip
def oS:List V->Hp->VK->Prop
 | [.int i],H,Q=>Q (.int i) H
 | [.bl k],H,Q=>Q (.int (if k then 1 else 0)) H
 | [.str z],H,Q=>∃ n:Nat,n<100/\z=tx (numC n)/\Q (.int n) H
 | _,_,_=>False
def yl{X:Cx}:CallR X (.type "int") oS:=by
 intro Gx s σ H xs us Q I r h;unfold oS at h
 split at h
 . exact tq Gx s σ H _ us Q I r (.inl ⟨_,rfl,h⟩)
 . exact tq Gx s σ H _ us Q I r (.inr ⟨_,rfl,h⟩)
 . obtain⟨n,hn,rfl,q⟩:=h;obtain⟨u,rfl,ru⟩:=c5 r;obtain⟨t,rfl⟩:=ru;exact call_int_1 (gis n hn t).meets (show(Made.int (n:Int)).post _ s from⟨rfl,⟨.int n,H,I.tok _,⟨_,rfl⟩,q⟩⟩)
 . exact h.elim
def cy{k:Bool}{H:Hp}{Q:VK}:oS [.bl k] H Q=Q (.int (if k then 1 else 0)) H:=rfl
def cz{i:Int}{H:Hp}{Q:VK}:oS [.int i] H Q=Q (.int i) H:=rfl
def xq(h:n<100):Str.ofString (toString (n:Int))=tx (numC n):=by
 have t:((List.range 100).all fun(n:Nat)=>decide (Str.ofString (toString (n:Int))=tx (numC n)))=true:=by decide+kernel
 simpa using GZ.mp t n (G0.mpr h)
def pZ(h:n<100):32∉numC n:=by
 have t:((List.range 100).all fun(n:Nat)=>decide (32∉numC n))=true:=by decide+kernel
 simpa using GZ.mp t n (G0.mpr h)
def C0(h:n<100):numC n≠[]:=by unfold numC;split <;> simp
def oT:(numC n).length<=2:=by unfold numC;split <;> simp
def A0(h:n<100):((numC n).head? =some 48->n=0)/\numC 0=[48]:=by
 have t:((List.range 100).all fun(n:Nat)=>decide ((numC n).head? =some 48->n=0))=true:=by decide+kernel
 exact⟨Hy (GZ.mp t n (G0.mpr h)),rfl⟩
def xt(h:n<100):∀ c∈numC n,48<=c/\c<=57:=by
 have t:((List.range 100).all fun(n:Nat)=>(numC n).all fun c=>decide (48<=c/\c<=57))=true:=by decide+kernel
 intro c hc
 simpa using GZ.mp (GZ.mp t n (G0.mpr h)) c hc
local macro_rules|`(tactic|walk_at "w")=>wk9 ws1
local macro_rules|`(tactic|symm)=>`(tactic|walk_at "w")
def cC(K:Frag):Sp:=fun vs H Q _=>∃ a h w g,vs=[.ref a]/\IsFl H a h w g/\1<=h/\h<=6/\Q (.int (h*w)) H
def iX(K:Frag):TS:=#[":ibJbk0df#0 bk0df#1 "]
variable{K:Frag}{vs:List V}{H:Hp}{Q:VK}{E:XK}
def uh(h:cC K vs H Q E):iX K (eD9 Q) (start ["floor"] vs) H:=by
 obtain⟨a,h,w,g,rfl,ha,h0,h1,q⟩:=h;ac_nf;unfold iX;symm;rw[gg ha];refine aP (a:=V.int h) rfl ?_;symm;rw[gg ha];refine aP (a:=V.int w) rfl ?_;symm;exact⟨nD h0 h1,q⟩
def cornB(h w c:Int):Bool:=decide (c/w<h-1)&&decide (c%w<w-1)
def jM(K:Frag):Sp:=fun vs H Q _=>∃ a h w g c,vs=[.ref a,.int c]/\IsFl H a h w g/\0<w/\w<100/\∀ H',Same H H'->Q (.bl (cornB h w c)) H'
def jN(K:Frag):TS:=#[":gl,~Mca0a1eh#2 iPb<bk2df#0 bObk0df#0 df#1 b<bk2df#1 bObk0df#1 df#1 "]
theorem vt(h:jM K vs H Q E):jN K (eD9 Q) (start ["floor","cell","spot"] vs) H:=by
 obtain⟨a,h,w,g,c,rfl,ha,w0,w1,k⟩:=h;ac_nf;unfold jN;symm;refine⟨a,h,w,g,c,rfl,ha,w0,w1,fun p hp=>?_⟩;have s1:Same H (upd H p (.tup [.int (c/w),.int (c%w)])):=(GJ H).laid hp;have k1:=k _ s1;have ha1:=s1 _ _ ha;have hp1:(upd H p (.tup [.int (c/w),.int (c%w)])) p=some (.tup [.int (c/w),.int (c%w)]):=ah;generalize upd H p (.tup [.int (c/w),.int (c%w)])=H1 at*;symm;rw[gg hp1];refine aP (a:=V.int (c/w)) rfl ?_;symm;rw[gg ha1];refine aP (a:=V.int h) rfl ?_;symm;unfold cornB at k1
 cases hb:decide (c/w<h-1) with
 | false=>
  rw[hb,Hz] at k1;exact iteF k1
 | true=>
  rw[hb,HB] at k1;refine iteT ?_;rw[gg hp1];refine aP (a:=V.int (c%w)) rfl ?_;symm;rw[gg ha1];refine aP (a:=V.int w) rfl ?_;symm;exact k1
def sqL(w c:Int):∅:=[c,c+1,c+w,c+w+1]
def jO(K:Frag):Sp:=fun vs H Q _=>∃ a h w g c,vs=[.ref a,.int c]/\IsFl H a h w g/\∀ p,H p=none->Q (.ref p) (upd H p (.lst ((sqL w c).map V.int)))
def jP(K:Frag):TS:=#[":glbu1bk0df#1 h#2 iva1abu1df#1 a2abu2df#1 e"]
def vv(h:jO K vs H Q E):jP K (eD9 Q) (start ["floor","corner","below"] vs) H:=by
 obtain⟨a,h,w,g,c,rfl,ha,k⟩:=h;ac_nf;unfold jP;symm;rw[gg ha];refine aP (a:=V.int w) rfl ?_;symm;exact⟨lnR rfl,k⟩
def squL(h w:Int):List ∅:=((List.range (h*w).toNat).filter fun(i:Nat)=>cornB h w i).map fun(i:Nat)=>sqL w i
def mr(K:Frag):Sp:=fun vs H Q _=>∃ a h w g,vs=[.ref a]/\IsFl H a h w g/\FlOk h w g/\
 ∀ l as H',Same H H'->H l=none->IsLL H' l as (squL h w)->as.Nodup->l∉as->(∀ a∈as,H a=none)->Q (.ref l) H'
def mt(K:Frag):TS:=#[":iy&--0 Xa,~gca0eeh#1 w,'ica2a1e,'jca2a1e"]
def NewAt.ll{H1:Hp}{l:Addr}{as:List Addr}{GC:List ∅}(x:NewAt H1 H l as (GC.map fun xs=>.lst (xs.map V.int)))(e:H l=↥(as.map V.ref)):IsLL H l as GC:=
 ⟨e,by rw[x.len,GG],fun j a xs h1 h2=>x.at_ j a _ h1 (by rw[GK,h2];rfl)⟩
def ym(h:mr K vs H Q E):mt K (eD9 Q) (start ["floor"] vs) H:=by
 obtain⟨a,h,w,g,rfl,ha,F,k⟩:=h;obtain⟨h0,h1,w0,w1,m16,g0,g1⟩:=F;have mpos:0<=h*w:=IG #[0] #[0];ac_nf;unfold mt;symm;refine⟨a,h,w,g,rfl,ha,h0,h1,?_⟩;symm;refine⟨h*w,rfl,by omega,by omega,?_⟩;refine wy (fun(i:Nat)=>cornB h w i) (fun(i:Nat)=>.lst ((sqL w i).map V.int)) #[0] ?_ ?_ ?_
 . intro i H1 R hi s1 k1;show tB _ [none,⇑(0+(i:Int)),↑a] H1 R;symm;rw[Iq];exact⟨a,h,w,g,_,rfl,s1 _ _ ha,by omega,by omega,fun H2 s2=>⟨_,rfl,k1 H2 s2⟩⟩
 . intro i H1 Q1 hi hb s1 k1;show tCall _ _ _ _ [none,⇑(0+(i:Int)),↑a] H1 Q1;symm;rw[Iq];exact⟨a,h,w,g,_,rfl,s1 _ _ ha,fun p hp=>k1 p _ ((GJ H1).laid hp) hp ah⟩
 . intro l as H2 hl s2 el x
   have x':NewAt H H2 l as ((squL h w).map fun xs=>.lst (xs.map V.int)):=by
    unfold squL;rw[Hn];exact x
   exact k l as H2 s2 hl (x'.ll el) x.nd x.nl x.fr
def ws4:String:="aB dH fB bI dI cy cz fC fz dG fA if_true if_false Bool.false_eq_true decide_true decide_false b9 ca eI bq a9 b7 cU b8 bp cS cT bo eh br bt bv bw bx bz bu cV cW cX cR eH Bool.not_true Bool.not_false aB "++ws1
local macro_rules|`(tactic|walk_at "w")=>wk9 ws4
def nmC:RK->List Nat
 | .Rule=>[]
 | .Unlike=>[117,110,108,105,107,101]
 | .Sum=>[115,117,109]
 | .Rising=>[114,105,115,105,110,103]
 | .Seen=>[115,101,101,110]
 | .Count=>[99,111,117,110,116]
 | .Joined=>[106,111,105,110,101,100]
 | .NoSquare=>[110,111,115,113,117,97,114,101]
 | .Ring=>[114,105,110,103]
def fV:List Str:=[tx [115,117,109],tx [115,101,101,110],tx [99,111,117,110,116]]
def fJ:List Str:=[tx [99,111,117,110,116],tx [106,111,105,110,101,100],tx [110,111,115,113,117,97,114,101],tx [114,105,110,103]]
def fD:List Str:=[tx [106,111,105,110,101,100],tx [110,111,115,113,117,97,114,101],tx [114,105,110,103]]
def rFs(p W C:Addr)(n m:Int):List (Str × V):=[("floor",.ref p),("words",.ref W),("cells",.ref C),("amount",.int n),("mark",.int m)]
structure IsRule(H:Hp)(c:RCl RK)(k:RK)(r p:Addr)(ws:List (List Nat))(cs:∅)(n m:Int):Prop where
 ok:c.ok k=true
 ex:∃ dx W C,H r=some (.ins (c.A k) dx (rFs p W C n m))/\H W=some (.tup ((ws.map tx).map V.str))/\H C=some (.tup (cs.map V.int))
variable{H:Hp}{c:RCl RK}{p:Addr}{cs:∅}
def IsRule.same{H':Hp}{k:RK}{r:Addr}{ws:List (List Nat)}{n m:Int}(x:IsRule H c k r p ws cs n m)(s:Same H H'):IsRule H' c k r p ws cs n m:=by
 obtain⟨dx,W,C,h1,h2,h3⟩:=x.ex;exact⟨x.ok,dx,W,C,s _ _ h1,s _ _ h2,s _ _ h3⟩
section
variable{ι:Type}{c:RCl ι}{σ:St}{H:Hp}{Q:VK}{i:Nat}{r dx:Addr}{k:ι}{fs:List (Str × V)}{f m:Str}{v:V}{okm:ι->Bool}{sp:ι->Sp}{t:TA}{D:Ends}{tv:TE}{y:V}{H1:Hp}
def fldE(hσ:σ[i]? =some ↑r)(ok:c.ok k=true)(hr:H r=some (.ins (c.A k) dx fs))(hl:fs.lookup f=some v)(q:Q v H):tFldK c (tVar i) f σ H Q:=iF hσ ⟨r,k,dx,fs,v,rfl,ok,hr,hl,q⟩
def methE(hσ:σ[i]? =some ↑r)(ok:okm k=true)(hr:H r=some (.ins (c.A k) dx fs))(hl:fs.lookup m=none)(q:t σ H fun vs H2=>sp k (.ref r::vs) H2 Q E0):aM c okm m sp (tVar i) t σ H Q:=iF hσ ⟨r,k,dx,fs,rfl,ok,hr,hl,q⟩
def sfldV{j:Nat}{x:V}(hj:σ[j]? =some (some x))(hσ:σ[i]? =some ↑r)(ok:c.ok k=true)(hr:H r=some (.ins (c.A k) dx fs))(hn:fs.length<1000)(q:D.nx σ (upd H r (.ins (c.A k) dx (putF f x fs)))):sFldK c (tVar i) (tVar j) f D σ H:=
 iF hj (iF hσ ⟨r,k,dx,fs,rfl,ok,hr,hn,q⟩)
def sfldT {K:Frag} {j:Nat} {p:Addr} {xs:List V} (hj:σ[j]? =some ↑p) (hp:H p=↥xs) (hσ:σ[i]? =some ↑r) (ok:c.ok k=true) (hr:H r=some (.ins (c.A k) dx fs)) (hn:fs.length<1000)
  (q:∀ l,H l=none->D.nx σ (upd (upd H l (.tup xs)) r (.ins (c.A k) dx (putF f (.ref l) fs)))):sFldK c (tVar i) (tCB (jK K) (tCons (tVar j) tNil)) f D σ H:=by
 unfold sFldK;symm;refine iF hj (BZ hp fun l hl=>?_);exact iF hσ ⟨r,k,dx,fs,rfl,ok,by rw[aj (av hr hl)];exact hr,hn,q l hl⟩
end
variable{Q:VK}
def B2{xs:List V}(hp:H p=some (.tup xs))(h:∀ l,H l=none->Q (.ref l) (upd H l (.lst xs))):kList [.ref p] H Q:=by
 unfold kList;dsimp only;rw[hp];exact h
def B3{sep:Str}{ts:List Str}(hp:H p=↥(ts.map V.str))(hok:JoinOk sep ts=true)(h:Q (.str (Txt.join sep ts)) H):nF (.str sep) [.ref p] H Q:=by
 unfold nF;dsimp only;rw[hp];exact⟨ts,rfl,hok,h⟩
variable{K:Frag}{fin:Addr->Hp->Prop}
theorem tM {a:Addr} {k:Nat} {tt:TT} {te:TE} {σ0:St} {H1:Hp} {xs:∅} (b:Int->Bool) (f:Int->Int) (hn:xs.length<=900) (hq:H1 a=some (.tup (xs.map V.int)))
  (ht:∀ x H R,x∈xs->Same H1 H->(∀ H',Same H H'->R (b x) H')->tt (σ0.set k ⇑x) H R)
  (he:∀ x H Q,x∈xs->b x=true->Same H1 H->(∀ H',Same H H'->Q (.int (f x)) H')->te (σ0.set k ⇑x) H Q)
  (hd:∀ l H,H1 l=none->Same H1 H->H l=↥(((xs.filter b).map f).map V.int)->fin l H):CompR (Itt K a) (gName k) tt te fin σ0 H1:=by
 refine AZ (xs:=xs.map V.int) (fun l i σ H=>(σ=σ0\/∃ cv,σ=σ0.set k cv)/\Same H1 H/\H l=↥((((xs.take i).filter b).map f).map V.int)) (fun l hl=>⟨.inl rfl,(GJ H1).laid hl,by rw[ah];rfl⟩) (fun l i σ H _ _ p=>Kc (p.2.1 _ _ hq)) ?_ (fun l σ H hl p=>hd l H hl p.2.1 (by have:=p.2.2;rw[GG,Ix] at this;exact this));rintro l i x σ H hl hx ⟨hσ,s1,el⟩;obtain⟨z,hz,rfl⟩:=bb hx;have hi:i<xs.length:=(GN.mp hz).1;have et:xs.take (i+1)=xs.take i++[z]:=by rw[IH,hz];rfl
 rw[aL]
 have e:σ.set k ⇑z=σ0.set k ⇑z:=by
  rcases hσ with rfl | ⟨cv,rfl⟩
  . rfl
  . exact IB ..
 rw[e];refine ht z H _ (GQ hz) s1 fun H2 s2=>?_;have el2:=s2 _ _ el
 have GD:((((xs.take i).filter b).map f).map V.int).length<sizeLine:=by
  rw[GG,GG];refine ay (GS (Hg b _) ?_);rw[HV];omega
 cases hb:b z with
 | false=>
  rw[G3 GM];refine⟨.inr ⟨_,rfl⟩,s1.trans s2,?_⟩;rw[et,Hm,Hv,hb]
  simpa using el2
 | true=>
  rw[G9 rfl];refine he z H2 _ (GQ hz) hb (s1.trans s2) fun H3 s3=>⟨_,s3 _ _ el2,GD,.inr ⟨_,rfl⟩,((s1.trans s2).trans s3).own hl,?_⟩;rw[ah,et,Hm,Hv,hb];simp
def sA(K:Frag)(c:RCl RK)(k:RK):Sp:=fun vs H Q _=>∃ r p w ws cs n m,vs=[.ref r]/\IsRule H c k r p (w::ws) cs n m/\Q (.str (tx w)) H
def io(K:Frag)(c:RCl RK)(k:RK):Sp:=fun vs H Q _=>∃ r p ws cs n m,vs=[.ref r]/\IsRule H c k r p ws cs n m/\∀ l,H l=none->Q (.ref l) (upd H l (.lst (cs.map V.int)))
def gC(K:Frag)(c:RCl RK)(k:RK):Sp:=fun vs H Q _=>∃ r p ws cs n m,vs=[.ref r]/\IsRule H c k r p ws cs n m/\Q (.int n) H
def oU(K:Frag)(c:RCl RK)(k:RK):Sp:=fun vs H Q _=>∃ r p ws cs n m,vs=[.ref r]/\IsRule H c k r p ws cs n m/\Q (.int m) H
def sgAt(xs cs:∅):∅:=cs.map fun c=>xs.getD c.toNat 0
def mkAt(xs cs:∅)(m:Int):∅:=cs.filter fun c=>decide (xs.getD c.toNat 0=m)
def be(cs:∅)(n:Nat):Prop:=cs.length<=63/\∀ c∈cs,0<=c/\c<n
def fm(K:Frag)(c:RCl RK)(k:RK):Sp:=fun vs H Q _=>∃ r p f ws cs xs n m,vs=[.ref r,.ref f]/\IsRule H c k r p ws cs n m/\H f=↥(xs.map V.int)/\be cs xs.length/\
 ∀ l H',Same H H'->H l=none->H' l=↥((sgAt xs cs).map V.int)->Q (.ref l) H'
def gD(K:Frag)(c:RCl RK)(k:RK):Sp:=fun vs H Q _=>∃ r p f ws cs xs n m,vs=[.ref r,.ref f]/\IsRule H c k r p ws cs n m/\H f=↥(xs.map V.int)/\be cs xs.length/\
 ∀ l H',Same H H'->H l=none->H' l=↥((mkAt xs cs m).map V.int)->Q (.ref l) H'
def risB:∅->Bool
 | x::y::r=>decide (x<y)&&risB (y::r)
 | _=>true
def seenN(xs:∅):Int × Int:=xs.foldl (fun a x=>if a.1<x then(x,a.2+1) else a) (0,0)
noncomputable def joinB (h w:Int) (ms:∅):Bool:=@decide (ms=[]\/(ms.Pairwise (· < ·)/\∀ x∈ms,RC h w ms (ms.headD 0) x)) (Classical.propDecidable _)
def twoB(h w:Int)(ms:∅)(c:Int):Bool:=decide (((besL h w c).filter fun y=>decide (y∈ms)).length=2)
noncomputable def hoB (k:RK) (h w:Int) (cs:∅) (n m:Int) (xs:∅):Bool:=match k with
 | .Unlike=>decide (cntD (sgAt xs cs)=(sgAt xs cs).length)
 | .Sum=>decide ((sgAt xs cs).sum=n)
 | .Rising=>risB (sgAt xs cs)
 | .Seen=>decide ((seenN (sgAt xs cs)).2=n)
 | .Count=>decide (((mkAt xs cs m).length:Int)=n)
 | .NoSquare=>!((squL h w).any fun sq=>sq.all fun c=>decide (c∈mkAt xs cs m))
 | .Joined=>joinB h w (mkAt xs cs m)
 | .Ring=>joinB h w (mkAt xs cs m)&&(mkAt xs cs m).all (twoB h w (mkAt xs cs m))
 | _=>true
def dO(K:Frag)(c:RCl RK)(k:RK):Sp:=fun vs H Q _=>∃ r p f ws cs xs n m h w g,vs=[.ref r,.ref f]/\IsRule H c k r p ws cs n m/\IsFl H p h w g/\FlOk h w g/\H f=↥(xs.map V.int)/\be cs xs.length/\(∀ x∈xs,0<=x/\x<=1000)/\
 ∀ H',Same H H'->Q (.bl (hoB k h w cs n m xs)) H'
def gH(K:Frag)(c:RCl RK)(k:RK):Sp:=fun vs H Q _=>∃ r p C ws cs ms n m h w g,vs=[.ref r,.ref C]/\IsRule H c k r p ws cs n m/\IsFl H p h w g/\FlOk h w g/\H C=↥(ms.map V.int)/\ms.length<=63/\
 ∀ H',Same H H'->Q (.bl (joinB h w ms)) H'
def fZ(K:Frag)(c:RCl RK)(k:RK):Sp:=fun vs H Q _=>∃ r p C ws cs ms n m h w g z,vs=[.ref r,.ref C,.int z]/\IsRule H c k r p ws cs n m/\IsFl H p h w g/\FlOk h w g/\H C=↥(ms.map V.int)/\ms.length<=63/\
 ∀ H',Same H H'->Q (.bl (twoB h w ms z)) H'
def aK(K:Frag)(c:RCl RK):Sp:=fun vs H Q _=>∃ k x dx p W C ws cs n m,vs=[.ref x,.ref p,.ref W,.ref C,.int n,.int m]/\c.ok k=true/\H x=some (.ins (c.A k) dx [])/\W≠x/\C≠x/\
 H W=↥((ws.map tx).map V.str)/\H C=↥(cs.map V.int)/\∀ H',(∀ b o,b≠x->H b=some o->H' b=some o)->IsRule H' c k x p ws cs n m->Q .non H'
def gh(K:Frag)(c:RCl RK):TS:=#[":g;j01?g;j0p~Nca2e~Og;j0p~Nca3e~ng;j04~h;j05~B"]
variable{vs:List V}{E:XK}
def p0(h:aK K c vs H Q E):gh K c (eD9 Q) (start ["self","floor","words","cells","amount","mark"] vs) H:=by
 obtain⟨k,x,dx,p,W,C,ws,cs,n,m,rfl,ok,hx,nW,nC,hW,hC,q⟩:=h;ac_nf;unfold gh;symm;refine sfldV (k:=k) (j:=1) rfl rfl ok hx #[1] ?_;symm;refine sfldT (k:=k) (j:=2) (p:=W) rfl (by rw[aj nW];exact hW) rfl ok ah (by show(1:Nat)<1000;decide) fun l1 h1=>?_;have n1:l1≠x:=fun e=>by rw[e,ah] at h1;cases h1
 have g1:H l1=none:=by rw[aj n1] at h1;exact h1
 symm;refine sfldT (k:=k) (j:=3) (p:=C) rfl (by rw[aj nC,aj (av hC g1),aj nC];exact hC) rfl ok ah (by show(2:Nat)<1000;decide) fun l2 h2=>?_;have n2:l2≠x:=fun e=>by rw[e,ah] at h2;cases h2
 have n21:l2≠l1:=fun e=>by rw[e,aj n1,ah] at h2;cases h2
 have g2:H l2=none:=by rw[aj n2,aj n21,aj n2] at h2;exact h2
 symm;refine sfldV (k:=k) (j:=4) rfl rfl ok ah (by show(3:Nat)<1000;decide) ?_;symm;refine sfldV (k:=k) (j:=5) rfl rfl ok ah (by show(4:Nat)<1000;decide) ?_;refine q _ (fun b o hb e=>?_) ⟨ok,dx,l1,l2,by rw[ah];rfl,?_,?_⟩
 . rw[aj hb,aj hb,aj hb,aj (av e g2),aj hb,aj (av e g1),aj hb];exact e
 . rw[aj n1,aj n1,aj n1,aj n21.symm,aj n1,ah]
 . rw[aj n2,aj n2,aj n2,ah]
def nG(K:Frag)(c:RCl RK):Sp:=fun vs H Q E=>∃ k,sA K c k vs H Q E
def jQ(K:Frag)(c:RCl RK):TS:=#[":ibkIj0~Odf#0 "]
def vw(h:nG K c vs H Q E):jQ K c (eD9 Q) (start ["self"] vs) H:=by
 obtain⟨k,r,p,w,ws,cs,n,m,rfl,x,q⟩:=h;obtain⟨dx,W,C,h1,h2,h3⟩:=x.ex;ac_nf;unfold jQ;symm;refine fldE rfl x.ok h1 (v:=.ref W) (by rfl) ?_;symm;have e0:atI (((w::ws).map tx).map V.str) 0=some (V.str (tx w)):=fk (j:=0) rfl;exact ixT h2 e0 q
def mX(K:Frag)(c:RCl RK):Sp:=fun vs H Q E=>∃ k,io K c k vs H Q E
def iY(K:Frag)(c:RCl RK):TS:=#[":ip~oaIj0~ne"]
def ui(h:mX K c vs H Q E):iY K c (eD9 Q) (start ["self"] vs) H:=by
 obtain⟨k,r,p,ws,cs,n,m,rfl,x,q⟩:=h;obtain⟨dx,W,C,h1,h2,h3⟩:=x.ex;ac_nf;unfold iY;symm;refine fldE rfl x.ok h1 (v:=.ref C) (by rfl) ?_;symm;exact B2 h3 q
def lJ(K:Frag)(c:RCl RK):Sp:=fun vs H Q E=>∃ k,gC K c k vs H Q E
def ip(K:Frag)(c:RCl RK):TS:=#[":iIj0~h"]
def sB(h:lJ K c vs H Q E):ip K c (eD9 Q) (start ["self"] vs) H:=by
 obtain⟨k,r,p,ws,cs,n,m,rfl,x,q⟩:=h;obtain⟨dx,W,C,h1,h2,h3⟩:=x.ex;ac_nf;unfold ip;symm;exact fldE rfl x.ok h1 (v:=.int n) (by rfl) q
def nI(K:Frag)(c:RCl RK):Sp:=fun vs H Q E=>∃ k,oU K c k vs H Q E
def jR(K:Frag)(c:RCl RK):TS:=#[":iIj0~B"]
def vx(h:nI K c vs H Q E):jR K c (eD9 Q) (start ["self"] vs) H:=by
 obtain⟨k,r,p,ws,cs,n,m,rfl,x,q⟩:=h;obtain⟨dx,W,C,h1,h2,h3⟩:=x.ex;ac_nf;unfold jR;symm;exact fldE rfl x.ok h1 (v:=.int m) (by rfl) q
def jS(K:Frag)(c:RCl RK):Sp:=fun vs H Q E=>∃ k,fm K c k vs H Q E
def gi(K:Frag)(c:RCl RK):TS:=#[":iy&--1 ~PcIj0~nh#1 Dbk21"]
def p5(h:jS K c vs H Q E):gi K c (eD9 Q) (start ["self","filling"] vs) H:=by
 obtain⟨k,r,p,f,ws,cs,xs,n,m,rfl,x,hf,⟨hn,hc⟩,q⟩:=h;obtain⟨dx,W,C,h1,h2,h3⟩:=x.ex;ac_nf;unfold gi;rw[bN,xp];refine fldE rfl x.ok h1 (v:=.ref C) (by rfl) ?_;refine⟨C,rfl,⟨_,Kc h3⟩,?_⟩;refine tM (xs:=cs) (fun _=>true) (fun c=>xs.getD c.toNat 0) #[0] h3 ?_ ?_ ?_
 . intro x H1 R hx s1 k1;exact k1 _ (GJ _)
 . intro z H1 Q1 hz hb s1 k1;show tOp cIx _ _ [none,⇑z,↑f] H1 Q1;symm;have:=hc z hz;exact ixI (s1 _ _ hf) this.1 #[0] (k1 _ (GJ _))
 . intro l H1 hl s1 el;rw[a8] at el;exact q l H1 s1 hl el
def jT(K:Frag):Sp:=fun vs H Q _=>∃ n:Nat,vs=[.str (tx (numC n))]/\n<100/\∀ H',Same H H'->Q (.int n) H'
def jU(K:Frag):TS:=#[":gmMobsc0dqr=Mob>pCa0edf#9 ~Qobscbk0df#0 dqr`0obQc0dqr`0id~CngmKwp[ay&-- 'k0h#1 DbYcA1dqr`1eid~Cnip'la0e",[48],[48,49,50,51,52,53,54,55,56,57]]
def C4{c:Nat}(h0:48<=c)(h1:c<=57):(!(Builtin.Str.occurrences (tx [48,49,50,51,52,53,54,55,56,57]) ⟨#[c]⟩ 0 (tx [48,49,50,51,52,53,54,55,56,57]).length 1).isEmpty)=true:=by
 have t:((List.range 58).all fun c=>!decide (48<=c)||!(Builtin.Str.occurrences (tx [48,49,50,51,52,53,54,55,56,57]) ⟨#[c]⟩ 0 (tx [48,49,50,51,52,53,54,55,56,57]).length 1).isEmpty)=true:=by decide+kernel
 have:=GZ.mp t c (G0.mpr #[0])
 simpa [h0] using this
theorem vy(h:jT K vs H Q E):jU K (eD9 Q) (start ["word"] vs) H:=by
 obtain⟨n,rfl,hn,q⟩:=h;have hne:=C0 hn;have hl:=oT (n:=n);ac_nf;unfold jU;rw[aB,ax];symm;rw[b6,GI hne];refine iteF ⟨by rw[fI];exact aV #[0],?_⟩;symm;rw[fI,GI (show ¬ (9:Int) < ((numC n).length:Nat) by omega)];refine iteF ?_;rw[DE,fI,qI]
 obtain⟨c,r,ec⟩:∃ c r,numC n=c::r:=by
  cases e:numC n with
  | nil=>exact absurd e hne
  | cons c r=>exact⟨c,r,rfl⟩
 refine⟨aV #[0],aP (a:=c) (by rw[ec];exact fk (j:=0) rfl) ?_⟩;symm
 have e1:decide ((⟨#[c]⟩:Str)=tx [48])=decide (c=48):=by
  have:(⟨#[c]⟩:Str)=tx [c]:=rfl;rw[this,b6];simp
 rw[e1,b6]
 have e2:(decide (c=48)=true->decide (numC n=[48])=true):=by
  intro h;rw[GX] at h;have:=(A0 hn).1 (by rw[ec,h];rfl);subst this;decide
 have goal2:tSeq (tIfS (tNot (tB (tCB kAll (tCons (tComp [none,none] (iStr (tVar 0)) (gName 1) tTrue (tOp (cIn K false) (tVar 1) (tC (.str (tx [48,49,50,51,52,53,54,55,56,57]))))) tNil)))) (tRet (tC .non)) tNext) (tRet (tCB oS (tCons (tVar 0) tNil)))
   (eD9 Q) [some (.str (tx (numC n)))] H:=by
  rw[aB,ax];symm;refine zU (cs:=numC n) (fun _=>true) (fun _=>.bl true) #[0] ?_ ?_ ?_
  . intro i c H1 R hc s1 k1;exact k1 _ (GJ _)
  . intro i c H1 Q1 hc hb s1 k1;have hd:=xt hn c (GQ hc);show tOp (cIn K false) _ _ [none,some (.str (tx [c]))] H1 Q1;symm;have q1:=k1 _ (GJ H1);show Q1 (.bl (if false=true then _ else !(Builtin.Str.occurrences (tx [48,49,50,51,52,53,54,55,56,57]) (tx [c]) 0 (tx [48,49,50,51,52,53,54,55,56,57]).length 1).isEmpty)) H1;rw[G3 GM,show tx [c]=⟨#[c]⟩ from rfl,C4 hd.1 hd.2];exact q1
  . intro l H1 hl1 s1 el
    have eb:((List.range (numC n).length).filter fun _=>true).map (fun _=>V.bl true)=(List.replicate (numC n).length true).map V.bl:=by
     rw[a8,List.map_const',HX,JA]
    rw[eb] at el;refine km el ?_
    have ea:(List.replicate (numC n).length true).all id=true:=by
     rw[GZ];intro b hb;exact(JB.mp hb).2
    rw[ea];symm;exact⟨n,hn,rfl,q _ s1⟩
 cases hc:decide (c=48) with
 | false=>
  refine iteF ?_;exact goal2
 | true=>
  refine iteT ?_;rw[e2 hc];exact goal2
def eJ(K:Frag):Sp:=fun vs H Q _=>∃ n lo hi,vs=[.str (tx (numC n)),.int lo,.int hi]/\n<100/\lo<=n/\n<=hi/\∀ H',Same H H'->Q (.int n) H'
def gj(K:Frag):TS:=#[":gl,'mca0eh#3 gmMob'n3d~CMob<31ob>32Rni3"]
def p6(h:eJ K vs H Q E):gj K (eD9 Q) (start ["word","least","most","number"] vs) H:=by
 obtain⟨n,lo,hi,rfl,hn,h0,h1,q⟩:=h;ac_nf;unfold gj;symm;refine⟨n,rfl,hn,fun H1 s1=>?_⟩;symm;rw[ax];symm;rw[GI (show ¬ V.int n=V.non from fun e=>nomatch e)];refine iteF ?_;rw[GI (show ¬ (n:Int)<lo by omega)];refine iteF ?_;rw[GI (show ¬ hi < (n:Int) by omega)];refine iteF ?_;symm;exact q _ s1
def WOk(ws:List (List Nat)):Prop:=∀ w∈ws,∀ c∈w,c<128
variable{w:List Nat}
def WOk.cons{ws:List (List Nat)}(h:∀ c∈w,c<128)(hs:WOk ws):WOk (w::ws):=fun v hv=>by
 rcases GU.mp hv with rfl | hv
 . exact h
 . exact hs v hv
variable{n:Nat}
def sC(h:n<100):∀ c∈numC n,c<128:=fun c hc=>by have:=xt h c hc;omega
def DG(h:∀ c∈w,c<128):PyData.strOk (tx w)=true:=by
 unfold PyData.strOk;simp[tx];intro c hc;have:=h c hc;omega
def WOk.strs{ws:List (List Nat)}(h:WOk ws):∀ x∈ws.map tx,PyData.strOk x=true:=fun x hx=>by
 obtain⟨w,hw,rfl⟩:=G1.mp hx;exact DG (h w hw)
def dJ(K:Frag):Sp:=fun vs H Q _=>∃ p n ws lo hi,vs=[.ref p,.int lo,.int hi]/\H p=↥(((numC n::ws).map tx).map V.str)/\n<100/\WOk ws/\lo<=n/\n<=hi/\∀ H',Same H H'->Q (.int n) H'
def gI(K:Frag):TS:=#[":gmobsc0veRni,~Rcabk0df#0 a1a2e"]
theorem DVs.strs{K:Frag}{H:Hp}:∀ ns:List Str,DVs K H (ns.map V.str) (ns.map PyData.str)
 | []=>.nil
 | n::r=>.cons (.str n) (DVs.strs r)
def tN(a b:Str):PyData.eqv (.str a) (.str b)=decide (a=b):=by
 rw[PyData.eqv];by_cases h:a=b
 . subst h;simp
 . simp[h]
def iH(ns:List Str)(hs:∀ x∈ns,PyData.strOk x=true):SeqAt.shaped (.list (ns.map PyData.str))=true:=by
 have h1:PyData.canLayAll0 (ns.map PyData.str)=true:=xn fun d hd=>by obtain⟨x,hx,rfl⟩:=G1.mp hd;rw[PyData.canLay0];exact hs x hx
 have h2:PyData.depthAll (ns.map PyData.str)<=0:=tJ fun d hd=>by obtain⟨x,_,rfl⟩:=G1.mp hd;exact GP _
 simp[SeqAt.shaped,PyData.canLay0,h1,PyData.depth];omega
variable{xs:List Str}
def C5{q:Addr}{ys:List Str}(hp:H p=↥(xs.map V.str))(hq:H q=↥(ys.map V.str))(h1:∀ x∈xs,PyData.strOk x=true)(h2:∀ x∈ys,PyData.strOk x=true)(h:Q (.bl (decide (xs=ys))) H):cEq K (.ref p) (.ref q) H Q:=by
 show rEqD K (.ref p) (.ref q) H Q;refine⟨.list (xs.map PyData.str),.list (ys.map PyData.str),.lst (G6 hp) (.strs xs),.lst (G6 hq) (.strs ys),iH xs h1,iH ys h2,?_⟩;rw[PyData.eqv,sw PyData.str tN];exact h
def C6{q:Addr}{ys:List Str}(hp:H p=↥(xs.map V.str))(hq:H q=↥(ys.map V.str))(h1:∀ x∈xs,PyData.strOk x=true)(h2:∀ x∈ys,PyData.strOk x=true)(h:Q (.bl (!decide (xs=ys))) H):cNe K (.ref p) (.ref q) H Q:=by
 show rNeD K (.ref p) (.ref q) H Q;refine⟨.list (xs.map PyData.str),.list (ys.map PyData.str),.lst (G6 hp) (.strs xs),.lst (G6 hq) (.strs ys),iH xs h1,iH ys h2,?_⟩;rw[PyData.eqv,sw PyData.str tN];exact h
def qM(h:dJ K vs H Q E):gI K (eD9 Q) (start ["words","least","most"] vs) H:=by
 obtain⟨p,n,ws,lo,hi,rfl,hp,hn,hw,h0,h1,q⟩:=h;ac_nf;unfold gI;rw[aB,ax];symm;refine⟨aV #[1],fun l hl=>?_⟩;have s1:Same H (upd H l (.lst [])):=(GJ H).laid hl;refine C5 (s1 _ _ hp) (ys:=[]) ah (WOk.strs (WOk.cons (sC hn) hw)) (fun x hx=>nomatch hx) ?_;generalize upd H l (.lst [])=H1 at*;symm;rw[GI (by simp)];refine iteF ?_;symm;have e0:atI (((numC n::ws).map tx).map V.str) 0=some (V.str (tx (numC n))):=fk (j:=0) rfl;refine ixL (s1 _ _ hp) e0 ?_;symm;exact⟨n,lo,hi,rfl,hn,h0,h1,fun H2 s2=>q _ (s1.trans s2)⟩
def A1(acc:∅)(v:Int):(step_dedup acc v).length<=acc.length+1:=by
 unfold step_dedup
 split <;> simp
theorem vz:∀(l acc:∅),(l.foldl step_dedup acc).length<=acc.length+l.length
 | [],acc=>by simp
 | x::r,acc=>by
  have h1:=vz r (step_dedup acc x);have h2:=A1 acc x;rw[HR,He];omega
theorem pq:∀(l acc:∅),acc.Nodup->((l.foldl step_dedup acc).length=acc.length+l.length↔(acc++l).Nodup)
 | [],acc,h=>by simpa using h
 | x::r,acc,h=>by
  rw[HR];by_cases hx:x∈acc
  . have e:step_dedup acc x=acc:=by
     unfold step_dedup;rw[G9 (by simpa using hx)]
    rw[e];have:=vz r acc;constructor
    . intro z;rw[He] at z;omega
    . intro z;have:=(Ip.mp z).2.2 x hx x GV;exact absurd rfl this
  . have e:step_dedup acc x=acc++[x]:=by
     unfold step_dedup;rw[G3 (by simpa using hx)]
    rw[e];have hn:(acc++[x]).Nodup:=Ip.mpr ⟨h,by simp,fun a ha b hb z=>hx (by rw[GW.mp hb] at z;exact z ▸ ha)⟩;have ih:=pq r (acc++[x]) hn;rw[Ha,IZ] at ih;rw[He,show acc.length+(r.length+1)=acc.length+1+r.length by omega,show acc++x::r=acc++[x]++r by simp];exact ih
def sD(ns:∅):(List.range ns.length).map (fun i=>ns.getD i 0)=ns:=by
 have:=mW ns (fun x=>x)
 simpa using this
def vA(ns:∅):cntD ns=ns.length↔ns.Nodup:=by
 unfold cntD firstMet;rw[sD];have:=pq ns [] IU
 simpa using this
def iZ(K:Frag):Sp:=fun vs H Q _=>∃(a p:Addr) (h w g:Int) (ns:List Nat),vs=[.ref a,.ref p]/\IsFl H a h w g/\FlOk h w g/\H p=↥(((ns.map numC).map tx).map V.str)/\ns≠[]/\ns.length<=16/\(∀ n∈ns,(n:Int)<h*w)/\ns.Nodup/\
 ∀ l H',Same H H'->H l=none->H' l=↥((ns.map fun(n:Nat)=>(n:Int)).map V.int)->Q (.ref l) H'
def i6(K:Frag):TS:=#[":g~S#2 &--0 xc1h#1 D,~Rca1adf#0 abO,~gca2edf#1 egmobsc2veRngmobQc~T2pCa2eRni2"]
variable{ns:List Nat}
theorem qN(h:ns.Nodup):(ns.map fun(n:Nat)=>(n:Int)).Nodup:=by
 induction ns with
 | nil=>exact IU
 | cons a r ih=>
  rw[HK] at h;rw[Hd,HK];refine⟨fun z=>?_,ih h.2⟩;obtain⟨b,hb,e⟩:=G1.mp z
  exact h.1 (by have:b=a:=by omega
                exact this ▸ hb)
def uj(h:iZ K vs H Q E):i6 K (eD9 Q) (start ["floor","words","cells"] vs) H:=by
 obtain⟨a,p,h,w,g,ns,rfl,ha,F,hp,hne,hn16,hlt,hnd,q⟩:=h;obtain⟨h0,h1,w0,w1,m16,g0,g1⟩:=F;ac_nf;unfold i6;symm;refine⟨⟨_,G6 hp⟩,?_⟩;refine ck (xs:=((ns.map numC).map tx).map V.str) (fun _=>true) (fun i=>.int (ns.getD i 0:Nat)) (by simp;omega) (G6 hp) ?_ ?_ ?_
 . intro i x H1 R hx s1 k1;exact k1 _ (GJ _)
 . intro i x H1 Q1 hx hb s1 k1;rw[GK,GK,GK] at hx
   cases e:ns[i]? with
   | none=>rw[e] at hx;cases hx
   | some n=>
    rw[e] at hx;cases hx;have hm:=hlt n (GQ e);show tCall _ _ _ _ [none,some (.str (tx (numC n))),↑a] H1 Q1;symm;refine⟨a,h,w,g,rfl,s1 _ _ ha,h0,h1,?_⟩;symm;refine⟨n,0,_,rfl,by omega,by omega,by omega,fun H2 s2=>?_⟩;have q1:=k1 _ s2;have eg:ns.getD i 0=n:=by rw[List.getD,e];rfl
    rw[eg] at q1;exact q1
 . intro l H1 hl s1 el
   have ec:((List.range (((ns.map numC).map tx).map V.str).length).filter fun _=>true).map (fun i=>V.int (ns.getD i 0:Nat))=(ns.map fun(n:Nat)=>(n:Int)).map V.int:=by
    rw[a8,GG,GG,GG,Hn];refine Id fun i=>?_;rw[GK,GK];by_cases h:i<ns.length
    . rw[HM h,GH h];simp[List.getD,h]
    . rw[G4 (by simpa using h),G4 #[0]];rfl
   rw[ec] at el;symm;rw[ax];symm;refine⟨aV #[1],fun z hz=>?_⟩;have s2:Same H1 (upd H1 z (.lst [])):=(GJ H1).laid hz;refine qC (s2 _ _ el) (ys:=[]) ah ?_;generalize upd H1 z (.lst [])=H2 at*;symm;rw[GI (by simpa using hne)];refine iteF ?_;symm;rw[ax];symm;refine⟨l,_,rfl,s2 _ _ el,by rw[GG];omega,?_⟩;rw[cj (s2 _ _ el),GG];symm;rw[GL (by rw[(vA _).mpr (qN hnd)])];refine iteF ?_;symm;exact q l _ (s1.trans s2) hl (s2 _ _ el)
def allK:RK->Bool
 | .Joined=>true
 | .NoSquare=>true
 | .Ring=>true
 | _=>false
def numK:RK->Bool
 | .Sum=>true
 | .Seen=>true
 | .Count=>true
 | _=>false
def sgnK:RK->Bool
 | .Count=>true
 | .Joined=>true
 | .NoSquare=>true
 | .Ring=>true
 | _=>false
def C7(k:RK):decide (tx (nmC k)∈fD)=allK k:=by cases k <;> decide+kernel
def C9(k:RK):decide (tx (nmC k)∈fV)=numK k:=by cases k <;> decide+kernel
def Da(k:RK):decide (tx (nmC k)∈fJ)=sgnK k:=by cases k <;> decide+kernel
structure sE(k:RK)(h w:Int)(ns:List Nat)(cs:∅):Prop where
 told:allK k=false->ns≠[]/\ns.length<=16/\(∀ n∈ns,(n:Int)<h*w)/\ns.Nodup/\cs=ns.map fun(n:Nat)=>(n:Int)
 all:allK k=true->ns=[]/\cs=rngL 0 (h*w)
def kZ(K:Frag):Sp:=fun vs H Q _=>∃ k a p h w g ns cs,vs=[.ref a,.str (tx (nmC k)),.ref p]/\IsFl H a h w g/\FlOk h w g/\H p=↥(((ns.map numC).map tx).map V.str)/\sE k h w ns cs/\(∀ n∈ns,n<100)/\
 ∀ l H',Same H H'->H l=none->H' l=↥(cs.map V.int)->Q (.ref l) H'
def k9(K:Frag):TS:=#[":gmw]'oT1i,'pca0a2engmobQc2veRni~Da,~gca0ee"]
theorem wz(h:kZ K vs H Q E):k9 K (eD9 Q) (start ["floor","name","words"] vs) H:=by
 obtain⟨k,a,p,h,w,g,ns,cs,rfl,ha,F,hp,hc,hn,q⟩:=h;obtain⟨h0,h1,w0,w1,m16,g0,g1⟩:=id F;have mpos:0<=h*w:=IG #[0] #[0];ac_nf;unfold k9;rw[aB,ax];symm;rw[C7]
 cases hk:allK k with
 | false=>
  obtain⟨c1,c2,c3,c4,rfl⟩:=hc.told hk;symm;exact⟨a,p,h,w,g,ns,rfl,ha,F,hp,c1,c2,c3,c4,q⟩
 | true=>
  obtain⟨rfl,rfl⟩:=hc.all hk;symm;rw[ax];symm;refine⟨aV #[1],fun z hz=>?_⟩;have s1:Same H (upd H z (.lst [])):=(GJ H).laid hz;refine C6 (xs:=[]) (ys:=[]) (s1 _ _ hp) ah (fun x hx=>nomatch hx) (fun x hx=>nomatch hx) ?_;generalize upd H z (.lst [])=H1 at*;symm;refine⟨a,h,w,g,rfl,s1 _ _ ha,h0,h1,?_⟩;symm;refine⟨h*w,rfl,by omega,by omega,fun l hl=>?_⟩;exact q l _ (s1.laid hl) (s1.free hl) ah
def mw(K:Frag)(c:RCl RK):Sp:=fun vs H Q _=>∃ k p W C ws cs n m,vs=[.ref p,.ref W,.ref C,.int n,.int m]/\k≠.Rule/\c.ok k=true/\H W=↥(((nmC k::ws).map tx).map V.str)/\H C=↥(cs.map V.int)/\
 ∀ r H',Same H H'->H r=none->IsRule H' c k r p (nmC k::ws) cs n m->Q (.ref r) H'
def mx(K:Frag)(c:RCl RK):TS:=#[":glbk1df#0 h#5 gmobsc5dqr`0i-^'q~acj=/a0a1a2a3a4engmobsc5dqr`1i-^'r~acj=/a0a1a2a3a4engmobsc5dqr`2i-^'s~acj=/a0a1a2a3a4engmobsc5dqr`3i-^'t~acj=/a0a1a2a3a4engmobsc5dqr`4i-^'u~acj=/a0a1a2a3a4engmobsc5dqr`5i-^'v~acj=/a0a1a2a3a4engmobsc5dqr`6i-^'w~acj=/a0a1a2a3a4engmobsc5dqr`7i-^'x~acj=/a0a1a2a3a4enR",[117,110,108,105,107,101],[115,117,109],[114,105,115,105,110,103],[115,101,101,110],[99,111,117,110,116],[106,111,105,110,101,100],[110,111,115,113,117,97,114,101],[114,105,110,103]]
def B4{k:RK}{W C:Addr}{ws:List (List Nat)}{n m:Int}(ok:c.ok k=true)(hW:H W=↥((ws.map tx).map V.str))(hC:H C=↥(cs.map V.int))(q:∀ r H',Same H H'->H r=none->IsRule H' c k r p ws cs n m->Q (.ref r) H'):
  ∀ x dx,H x=none->H dx=none->dx≠x->aK K c (.ref x::([.ref p,.ref W,.ref C,.int n,.int m]++[])) (upd (upd H dx (.own x)) x (.ins (c.A k) dx [])) (fun v H2=>v=.non/\Q (.ref x) H2) E0:=by
 intro x dx hx hd ne;refine⟨k,x,dx,p,W,C,ws,cs,n,m,rfl,ok,ah,av hW hx,av hC hx,?_,?_,fun H' hs hr=>⟨rfl,q x H' (fun b o e=>hs b o (av e hx) ?_) hx hr⟩⟩
 . rw[aj (av hW hx),aj (av hW hd)];exact hW
 . rw[aj (av hC hx),aj (av hC hd)];exact hC
 . rw[aj (av e hx),aj (av e hd)];exact e
theorem yn(h:mw K c vs H Q E):mx K c (eD9 Q) (start ["floor","words","cells","amount","mark","name"] vs) H:=by
 obtain⟨k,p,W,C,ws,cs,n,m,rfl,hk,ok,hW,hC,q⟩:=h;have mk:=B4 (K:=K) ok hW hC q;have e0:atI (((nmC k::ws).map tx).map V.str) 0=some (V.str (tx (nmC k))):=fk (j:=0) rfl;ac_nf;unfold mx;symm;refine ixL hW e0 ?_
 have D:∀(l:List Nat) (t:TS) (u:TS) (D:Ends) (b:Bool),decide (nmC k=l)=b->(if b=true then t D [↑p,↑W,↑C,⇑n,⇑m,some (.str (tx (nmC k)))] H else u D [↑p,↑W,↑C,⇑n,⇑m,some (.str (tx (nmC k)))] H)->
   tIfS (tTest (tOp (cEq K) (tVar 5) (tC (.str (tx l))))) t u D [↑p,↑W,↑C,⇑n,⇑m,some (.str (tx (nmC k)))] H:=fun l t u D b hb hq=>by
  rw[ax];symm;rw[b6,hb];exact hq
 have R:∀(D:Ends),D.rt=Q->tRet (tMake (c.A k) (aK K c) [] E0 (tCons (tVar 0) (tCons (tVar 1) (tCons (tVar 2) (tCons (tVar 3) (tCons (tVar 4) tNil)))))) D [↑p,↑W,↑C,⇑n,⇑m,some (.str (tx (nmC k)))] H:=fun D hD=>by
  symm;rw[hD];exact mk
 cases k with
 | Rule=>exact absurd rfl hk
 | Unlike=>exact D _ _ _ _ true #[1] (iteT (R _ rfl))
 | Sum=>exact D _ _ _ _ false #[1] (iteF (D _ _ _ _ true #[1] (iteT (R _ rfl))))
 | Rising=>exact D _ _ _ _ false #[1] (iteF (D _ _ _ _ false #[1] (iteF (D _ _ _ _ true #[1] (iteT (R _ rfl))))))
 | Seen=>exact D _ _ _ _ false #[1] (iteF (D _ _ _ _ false #[1] (iteF (D _ _ _ _ false #[1] (iteF (D _ _ _ _ true #[1] (iteT (R _ rfl))))))))
 | Count=>exact D _ _ _ _ false #[1] (iteF (D _ _ _ _ false #[1] (iteF (D _ _ _ _ false #[1] (iteF (D _ _ _ _ false #[1] (iteF (D _ _ _ _ true #[1] (iteT (R _ rfl))))))))))
 | Joined=>exact D _ _ _ _ false #[1] (iteF (D _ _ _ _ false #[1] (iteF (D _ _ _ _ false #[1] (iteF (D _ _ _ _ false #[1] (iteF (D _ _ _ _ false #[1] (iteF (D _ _ _ _ true #[1] (iteT (R _ rfl))))))))))))
 | NoSquare=>exact D _ _ _ _ false #[1] (iteF (D _ _ _ _ false #[1] (iteF (D _ _ _ _ false #[1] (iteF (D _ _ _ _ false #[1] (iteF (D _ _ _ _ false #[1] (iteF (D _ _ _ _ false #[1] (iteF (D _ _ _ _ true #[1] (iteT (R _ rfl))))))))))))))
 | Ring=>exact D _ _ _ _ false #[1] (iteF (D _ _ _ _ false #[1] (iteF (D _ _ _ _ false #[1] (iteF (D _ _ _ _ false #[1] (iteF (D _ _ _ _ false #[1] (iteF (D _ _ _ _ false #[1] (iteF (D _ _ _ _ false #[1] (iteF (D _ _ _ _ true #[1] (iteT (R _ rfl))))))))))))))))
def rowW(k:RK)(n m:Nat)(ns:List Nat):List (List Nat):=nmC k::((if numK k then [numC n] else [])++(if sgnK k then [numC m] else [])++ns.map numC)
structure vC(k:RK)(h w g:Int)(n m:Nat)(ns:List Nat)(cs:∅):Prop where
 k0:k≠.Rule
 n0:n<=99
 nz:numK k=false->n=0
 m0:sgnK k=true->1<=(m:Int)/\(m:Int)<=g
 mz:sgnK k=false->m=0
 cl:sE k h w ns cs
 ns0:∀ x∈ns,x<100
 len:ns.length<=16
def jV(K:Frag)(c:RCl RK):Sp:=fun vs H Q _=>∃ k p h w g n m ns cs,vs=[.ref p,.str (tx (catL 32 (rowW k n m ns)))]/\IsFl H p h w g/\FlOk h w g/\vC k h w g n m ns cs/\c.ok k=true/\
 ∀ r H',Same H H'->H r=none->IsRule H' c k r p (rowW k n m ns) cs n m->Q (.ref r) H'
def fE(K:Frag)(c:RCl RK):TS:=#[":i,'ycja0a2a,'zca0a3a4ea5a6e"]
def gJ(K:Frag)(c:RCl RK):TS:=#[":glbk2df#0 h#3 glZ:2Sdf#1 ~ch#4 gldf#0 h#5 gldf#0 h#6 gmw]'AA3gl,~Uca4adf#0 adf#99 eh#5 lZ:4Sdf#1 ~ch#4 ngmw]'BA3gl,~Uca4adf#1 abk0df#2 eh#6 lZ:4Sdf#1 ~ch#4 n'Ccj"]
def jW(K:Frag)(c:RCl RK):TS:=#[":gmKwp*a1ad+~EeRnglHc~E'D1adqr`0eh#2 'Ecj",[32]]
def B5(k:RK):32∉nmC k:=by cases k <;> decide
variable{m:Nat}
def zZ{k:RK}(hn:n<100)(hm:m<100)(hs:∀ x∈ns,x<100):∀ r∈rowW k n m ns,32∉r:=by
 intro r hr;unfold rowW at hr;rcases GU.mp hr with rfl | hr
 . exact B5 k
 rcases Hc.mp hr with hr | hr
 . rcases Hc.mp hr with hr | hr
   . split at hr
     . rw[GW.mp hr];exact pZ hn
     . cases hr
   . split at hr
     . rw[GW.mp hr];exact pZ hm
     . cases hr
 . obtain⟨x,hx,rfl⟩:=G1.mp hr;exact pZ (hs x hx)
theorem A2(xs:List V):cutV xs (some 1) none=xs.drop 1:=by
 unfold cutV;have h1:HT.sIx xs.length 0 (some 1)=min 1 xs.length:=HT.sIx_nat ..;have h2:HT.sIx xs.length xs.length none=xs.length:=rfl;rw[h1,h2]
 cases xs with
 | nil=>rfl
 | cons x r=>
  have:min 1 (x::r).length=1:=by simp
  rw[this];show(r).take _=r;rw[Ht (by simp)]
def kq {k:RK} {W R:Addr} {h w g:Int} {ws:List (List Nat)} {lv:V} (F:FlOk h w g) (ha:IsFl H p h w g) (hW:H W=↥(((nmC k::ws).map tx).map V.str)) (hR:H R=↥(((ns.map numC).map tx).map V.str)) (hc:sE k h w ns cs) (hn:∀ x∈ns,x<100) (k0:k≠.Rule) (ok:c.ok k=true)
  (q:∀ r H',Same H H'->H r=none->IsRule H' c k r p (nmC k::ws) cs n m->Q (.ref r) H'):
  fE K c (eD9 Q) [↑p,some lv,↑W,some (.str (tx (nmC k))),↑R,⇑n,⇑m] H:=by
 unfold fE;symm;refine⟨k,p,R,h,w,g,ns,cs,rfl,ha,F,hR,hc,hn,fun l H1 s1 hl el=>?_⟩;symm;exact⟨k,p,W,l,ws,cs,n,m,rfl,k0,ok,s1 _ _ hW,el,fun r H2 s2 hr x=>q r H2 (s1.trans s2) (s1.free hr) x⟩
def wA{k:RK}(h:ns.length<=16):(rowW k n m ns).length<=100/\∀ w∈rowW k n m ns,w.length<=100:=by
 unfold rowW;refine⟨?_,fun w hw=>?_⟩
 . simp only[He,Ha,GG]
   split <;> split <;> simp <;> omega
 . rcases GU.mp hw with rfl | hw
   . cases k <;> decide
   have h2:∀ x,(numC x).length<=100:=fun x=>GS oT #[1];rcases Hc.mp hw with hw | hw
   . rcases Hc.mp hw with hw | hw
     . split at hw
       . rw[GW.mp hw];exact h2 _
       . cases hw
     . split at hw
       . rw[GW.mp hw];exact h2 _
       . cases hw
   . obtain⟨x,hx,rfl⟩:=G1.mp hw;exact h2 _
theorem qO:∀(Gy:List (List Nat)),(∀ r∈Gy,r.length<=100)->(catL 32 Gy).length<=101*Gy.length
 | [],_=>HG _
 | [x],h=>by
  have:=h x GV;show x.length<=101*1;omega
 | x::y::r,h=>by
  have h1:=h x GV;have ih:=qO (y::r) fun z hz=>h z (GR _ hz);have e:catL 32 (x::y::r)=x++32::catL 32 (y::r):=by first | rfl | simp[catL]
  rw[e,Ha,He,He];omega
def sF{x:Str}(hp:H p=↥((x::xs).map V.str))(q:∀ l,H l=none->Q (.ref l) (upd H l (.lst (xs.map V.str)))):ik (.ref p) (some 1) none H Q:=by
 refine mh hp fun l hl=>?_;rw[A2];exact q l hl
theorem qP {k:RK} {W:Addr} {h w g:Int} {lv:V} (F:FlOk h w g) (ha:IsFl H p h w g) (hW:H W=↥(((rowW k n m ns).map tx).map V.str)) (O:vC k h w g n m ns cs) (ok:c.ok k=true)
  (q:∀ r H',Same H H'->H r=none->IsRule H' c k r p (rowW k n m ns) cs n m->Q (.ref r) H'):
  gJ K c (eD9 Q) [↑p,some lv,↑W,none,none,none,none] H:=by
 obtain⟨k0,n0,nz,m0,mz,cl,ns0,len⟩:=O;obtain⟨h0,h1,w0,w1,m16,g0,g1⟩:=id F;have e0:atI (((rowW k n m ns).map tx).map V.str) 0=some (V.str (tx (nmC k))):=fk (j:=0) rfl;have hns:WOk (ns.map numC):=fun v hv=>by obtain⟨x,hx,rfl⟩:=G1.mp hv;exact sC (ns0 x hx)
 unfold gJ;symm;refine ixL hW e0 ?_;symm;refine sF hW fun R hR=>?_;obtain⟨H1,z9,s1,eR⟩:=bn (.lst ((((if numK k then [numC n] else [])++(if sgnK k then [numC m] else [])++ns.map numC).map tx).map V.str)) hR;rw[z9];symm
 have two:∀{H2:Hp} {R2:Addr},Same H H2->H2 R2=↥((((if sgnK k then [numC m] else [])++ns.map numC).map tx).map V.str)->
   tSeq (tIfS (tB (tInG fJ false (tVar 3))) (tSeq (tAsg (tCall (dJ K) [] E0 (tCons (tVar 4) (tCons (tC (.int 1)) (tCons (tOp cIx (tVar 0) (tC (.int 2))) tNil)))) (gName 6)) (tAsg (tSl ik (tVar 4) (tPart (tC (.int 1))) fU) (gName 4))) tNext) (fE K c) (eD9 Q)
    [↑p,some lv,↑W,some (.str (tx (nmC k))),↑R2,⇑n,⇑0] H2:=by
  intro H2 R2 s2 eR2;rw[aB,ax];symm;rw[Da]
  cases hs:sgnK k with
  | false=>
   rw[hs] at eR2;have:=mz hs;subst this;symm;exact kq F (s2 _ _ ha) (s2 _ _ hW) eR2 cl ns0 k0 ok fun r H3 s3 hr x=>q r H3 (s2.trans s3) (s2.free hr) x
  | true=>
   rw[hs] at eR2;have hm:=m0 hs;symm;refine ixT (s2 _ _ ha) (v:=V.int g) rfl ?_;symm;refine⟨R2,m,ns.map numC,1,g,rfl,eR2,by omega,hns,hm.1,hm.2,fun H3 s3=>?_⟩;symm;refine sF (s3 _ _ eR2) fun R3 hR3=>?_;have s4:Same H3 (upd H3 R3 (.lst (((ns.map numC).map tx).map V.str))):=(GJ H3).laid hR3;have s24:=(s2.trans s3).trans s4;exact kq F (s24 _ _ ha) (s24 _ _ hW) ah cl ns0 k0 ok fun r H5 s5 hr x=>q r H5 (s24.trans s5) (s24.free hr) x
 rw[ax];symm;rw[C9]
 cases hn:numK k with
 | false=>
  rw[hn] at eR;have:=nz hn;subst this;symm;exact two s1 eR
 | true=>
  rw[hn] at eR;symm;refine⟨R,n,(if sgnK k then [numC m] else [])++ns.map numC,0,99,rfl,eR,by omega,?_,by omega,by omega,fun H3 s3=>?_⟩
  . intro v hv;rcases Hc.mp hv with hv | hv
    . split at hv
      . rename_i hs
        have:=m0 hs;rw[GW.mp hv];exact sC #[0]
      . cases hv
    . exact hns v hv
  symm;refine sF (s3 _ _ eR) fun R3 hR3=>?_;have s4:Same H3 (upd H3 R3 (.lst ((((if sgnK k then [numC m] else [])++ns.map numC).map tx).map V.str))):=(GJ H3).laid hR3;symm;exact two ((s1.trans s3).trans s4) ah
def vD(h:jV K c vs H Q E):jW K c (eD9 Q) (start ["floor","line","words","name","rest","amount","mark"] vs) H:=by
 obtain⟨k,p,h,w,g,n,m,ns,cs,rfl,ha,F,O,ok,q⟩:=h
 have hm:m<100:=by
  by_cases hs:sgnK k=true
  . have:=(O.m0 hs).2;have:=F.g1;omega
  . have:=O.mz (by simpa using hs);omega
 have hsp:Txt.split (tx (catL 32 (rowW k n m ns))) (tx [32])=(rowW k n m ns).map tx:=AY (by simp[rowW]) (zZ (by have:=O.n0;omega) hm O.ns0);have hl:=wA (k:=k) (n:=n) (m:=m) O.len;have hl2:=qO _ hl.2;ac_nf;unfold jW;rw[aB,ax];symm;refine⟨Bw,?_⟩;rw[BV,hsp];refine⟨by rw[fI];decide,by rw[fI];exact Hs (HU hl2 (HU (Nat.mul_le_mul_left 101 hl.1) #[1])),by rw[GG];exact aV #[0],fun W hW=>?_⟩;have s1:Same H (upd H W (.lst (((rowW k n m ns).map tx).map V.str))):=(GJ H).laid hW;exact qP F (s1 _ _ ha) ah O ok fun r H2 s2 hr x=>q r H2 (s1.trans s2) (s1.free hr) x
theorem tO{α β:Type}(f:α->β):∀(l:List α) (j:Nat),(l.map f).eraseIdx j=(l.eraseIdx j).map f
 | [],_=>rfl
 | _::_,0=>rfl
 | x::r,j+1=>by
  show f x::(r.map f).eraseIdx j=f x::(r.eraseIdx j).map f;rw[tO f r j]
theorem qQ{α:Type}:∀(l:List α) (j:Nat) (h:j<l.length),(l[j]::l.eraseIdx j).Perm l
 | [],_,h=>absurd h (by simp)
 | x::r,0,_=>List.Perm.refl _
 | x::r,j+1,h=>by
  have hj:j<r.length:=by simpa using h
  have ih:=qQ r j hj;show(r[j]::x::r.eraseIdx j).Perm (x::r);exact(List.Perm.swap x r[j] (r.eraseIdx j)).trans (List.Perm.cons x ih)
theorem nJ{α β:Type}(f:α->β):∀{l:List α},(l.map f).Nodup->l.Nodup
 | [],_=>IU
 | a::r,h=>by
  rw[Hd,HK] at h;rw[HK];exact⟨fun z=>h.1 (G1.mpr ⟨a,z,rfl⟩),nJ f h.2⟩
def z4(n:Int):(rngL 0 n).Nodup:=by
 unfold rngL;have e:(List.range (n-0).toNat).map (fun(k:Nat)=>0+(k:Int))=(List.range (n-0).toNat).map fun(k:Nat)=>(k:Int):=Ii fun k _=>by omega
 rw[e];exact qN List.nodup_range
def sG{n x:Int}(h:x∈rngL 0 n):0<=x/\x<n:=by
 unfold rngL at h;obtain⟨k,hk,rfl⟩:=G1.mp h;have:=G0.mp hk;omega
def kt(K:Frag)(c:RCl RK):Sp:=dO K c .Unlike
def gK(K:Frag)(c:RCl RK):TS:=#[":glzjE~p~qcj0a1eh#2 ibsc~T2pCa2e"]
def qR(h:kt K c vs H Q E):gK K c (eD9 Q) (start ["self","filling","signs"] vs) H:=by
 obtain⟨r,p,f,ws,cs,xs,n,m,h,w,g,rfl,x,ha,F,hf,hC,hx,q⟩:=h;obtain⟨dx,W,C,h1,h2,h3⟩:=x.ex;ac_nf;unfold gK;symm;refine methE rfl x.ok h1 (by rfl) ?_;symm;refine⟨r,p,f,ws,cs,xs,n,m,rfl,x,hf,hC,fun l H1 s1 hl el=>?_⟩;have GD:(sgAt xs cs).length<=100:=by unfold sgAt;rw[GG];exact GS hC.1 #[1]
 symm;refine⟨l,_,rfl,el,by omega,?_⟩;symm;rw[cj el,GG];symm;have q1:=q _ s1;unfold hoB at q1;dsimp only at q1
 have e:decide (((cntD (sgAt xs cs):Nat):Int)=((sgAt xs cs).length:Nat))=decide (cntD (sgAt xs cs)=(sgAt xs cs).length):=by
  rw[Hx,GX,GX];omega
 rw[e];exact q1
def xu(h:n<100):((n:Int)).natAbs.log2<1920:=by
 have t:((List.range 100).all fun n=>decide (n.log2<1920))=true:=by decide+kernel
 have:=GZ.mp t n (G0.mpr h)
 simpa using this
def B6(h:n<100)(q:Q (.str (tx (numC n))) H):kStr [.int (n:Int)] H Q:=by
 refine⟨xu h,?_⟩;rw[xq h];exact q
def z5 {C:Addr} {cs:List Nat} (hC:H C=↥((cs.map fun(n:Nat)=>(n:Int)).map V.int)) (hl:cs.length<=100) (hc:∀ c∈cs,c<100)
  (hd:∀ l H',H l=none->Same H H'->H' l=↥(((cs.map numC).map tx).map V.str)->fin l H'):CompR (Itl K C) (gName 1) tTrue (tCB kStr (tCons (tVar 1) tNil)) fin [none,none] H:=by
 refine ck (xs:=(cs.map fun(n:Nat)=>(n:Int)).map V.int) (fun _=>true) (fun i=>.str (tx (numC (cs.getD i 0)))) (by simp;omega) (G6 hC) ?_ ?_ ?_
 . intro i x H1 R hx s1 k1;exact k1 _ (GJ _)
 . intro i x H1 Q1 hx hb s1 k1;rw[GK,GK] at hx
   cases e:cs[i]? with
   | none=>rw[e] at hx;cases hx
   | some n=>
    rw[e] at hx;cases hx;show tCB kStr _ [none,⇑(n:Int)] H1 Q1;symm;have q1:=k1 _ (GJ H1);have eg:cs.getD i 0=n:=by rw[List.getD,e];rfl
    rw[eg] at q1;have:=B6 (H:=H1) (Q:=Q1) (hc n (GQ e)) q1;exact this
 . intro l H1 hl1 s1 el;refine hd l H1 hl1 s1 ?_;rw[el,a8,GG,GG,Hn,Hn]
   congr 2
   refine Id fun i=>?_;rw[GK,GK];by_cases h:i<cs.length
   . rw[HM h,GH h];simp[List.getD,h]
   . rw[G4 (by simpa using h),G4 #[0]];rfl
section
variable{X:Cx}{a:Expr}{ta:TE}{pos p:Pos}{x:Str}{ws:List Str}
def lK(G:GTup X.K X.mg x ws)(ha:PE X a ta)(hg:Gl X x)(hdb:(x==("__debug__":Str))=false:=by decide)(hm:behindInMarks .In (.Name x p)=false:=by with_unfolding_all rfl):PT X (.Compare a [.In] [.Name x p] pos) (tB (tInG ws false ta)):=by
 obtain⟨q,o,GB,n,h1,h2⟩:=G.ex;have h0:=ap (pos:=pos) (CZ ⟨o,GB,n,h2⟩) ha (dy (v:=V.ref q) hg h1 rfl hdb) hm;intro Gx s σ H Q I h;refine h0 Gx s σ H Q I ?_
 have e:(fun(x:V) (H1:Hp)=>∃ z,x=.str z/\∃ k,V.bl (if false=true then !decide (z∈ws) else decide (z∈ws))=.bl k/\Q k H1)=fun x H1=>∃ z,x=.str z/\(V.ref q=V.ref q)/\∃ k,V.bl (decide (z∈ws))=.bl k/\Q k H1:=by
  funext x H1;simp
 have h':ta σ H (fun(x:V) (H1:Hp)=>∃ z,x=.str z/\∃ k,V.bl (if false=true then !decide (z∈ws) else decide (z∈ws))=.bl k/\Q k H1):=h;rw[e] at h';exact h'
def xv(G:GTup X.K X.mg x ws)(ha:PE X a ta)(hg:Gl X x)(hdb:(x==("__debug__":Str))=false:=by decide)(hm:behindInMarks .NotIn (.Name x p)=false:=by with_unfolding_all rfl):PT X (.Compare a [.NotIn] [.Name x p] pos) (tB (tInG ws true ta)):=by
 obtain⟨q,o,GB,n,h1,h2⟩:=G.ex;have h0:=ap (pos:=pos) (BY ⟨o,GB,n,h2⟩) ha (dy (v:=V.ref q) hg h1 rfl hdb) hm;intro Gx s σ H Q I h;refine h0 Gx s σ H Q I ?_
 have e:(fun(x:V) (H1:Hp)=>∃ z,x=.str z/\∃ k,V.bl (if true=true then !decide (z∈ws) else decide (z∈ws))=.bl k/\Q k H1)=fun x H1=>∃ z,x=.str z/\(V.ref q=V.ref q)/\∃ k,V.bl (!decide (z∈ws))=.bl k/\Q k H1:=by
  funext x H1;simp
 have h':ta σ H (fun(x:V) (H1:Hp)=>∃ z,x=.str z/\∃ k,V.bl (if true=true then !decide (z∈ws) else decide (z∈ws))=.bl k/\Q k H1):=h;rw[e] at h';exact h'
end
inductive PzK where
 | Puzzle
 deriving DecidableEq
structure RR where
 k:RK
 n:Nat
 m:Nat
 ns:List Nat
 cs:∅
def RR.ws(r:RR):List (List Nat):=rowW r.k r.n r.m r.ns
def RR.txt(r:RR):Str:=tx (catL 32 r.ws)
def RR.Ok(r:RR)(h w g:Int):Prop:=vC r.k h w g r.n r.m r.ns r.cs
structure IsRules(H:Hp)(c:RCl RK)(p L:Addr)(rs:List Addr)(Gy:List RR):Prop where
 top:H L=↥(rs.map V.ref)
 len:rs.length=Gy.length
 at_:∀(i:Nat) (r:Addr) (x:RR),rs[i]? =some r->Gy[i]? =some x->IsRule H c x.k r p x.ws x.cs x.n x.m
variable{H:Hp}{c:RCl RK}{p:Addr}{rs:List Addr}{Gy:List RR}
def IsRules.same{H':Hp}{L:Addr}(x:IsRules H c p L rs Gy)(s:Same H H'):IsRules H' c p L rs Gy:=
 ⟨s _ _ x.top,x.len,fun i r y h1 h2=>(x.at_ i r y h1 h2).same s⟩
variable{cs:∅}{o:HO}
def IsRule.lst{k:RK}{r a:Addr}{ws:List (List Nat)}{n m:Int}{xs:List V}(x:IsRule H c k r p ws cs n m)(ha:H a=↥xs):IsRule (upd H a o) c k r p ws cs n m:=by
 obtain⟨dx,W,C,h1,h2,h3⟩:=x.ex;refine⟨x.ok,dx,W,C,?_,?_,?_⟩
 . rw[aj (fun e=>by rw[e,ha] at h1;cases h1)];exact h1
 . rw[aj (fun e=>by rw[e,ha] at h2;cases h2)];exact h2
 . rw[aj (fun e=>by rw[e,ha] at h3;cases h3)];exact h3
def pFs(p L G:Addr):List (Str × V):=[("floor",.ref p),("laws",.ref L),("given",.ref G)]
structure nK(c:RCl RK)(h w g:Int)(Gy:List RR):Prop where
 F:FlOk h w g
 n:Gy.length<=12
 ok:∀ r∈Gy,r.Ok h w g
 c:∀ r∈Gy,c.ok r.k=true
structure CluesOk(h w g:Int)(cl:∅):Prop where
 len:cl.length=(h*w).toNat
 ok:∀ x∈cl,0<=x/\x<=g
structure IsPz(H:Hp)(c:RCl RK)(d:RCl PzK)(P L G:Addr)(h w g:Int)(Gy:List RR)(cl:∅):Prop where
 ok:d.ok .Puzzle=true
 R:nK c h w g Gy
 C:CluesOk h w g cl
 gv:H G=↥(cl.map V.int)
 ex:∃ dx p rs,H P=some (.ins (d.A .Puzzle) dx (pFs p L G))/\IsFl H p h w g/\IsRules H c p L rs Gy
variable{d:RCl PzK}{cl:∅}
def IsPz.same{H':Hp}{P L G:Addr}{h w g:Int}(x:IsPz H c d P L G h w g Gy cl)(s:Same H H'):IsPz H' c d P L G h w g Gy cl:=by
 obtain⟨dx,p,rs,h1,h2,h3⟩:=x.ex;exact⟨x.ok,x.R,x.C,s _ _ x.gv,dx,p,rs,s _ _ h1,s _ _ h2,h3.same s⟩
def dP(K:Frag):Sp:=fun vs H Q _=>∃ i:Int,vs=[.int i]/\Q (.bl true) H
def lc(K:Frag):TS:=#[":iPp*a0ad+~re~Vp*a0ad+~We"]
variable{K:Frag}{vs:List V}{Q:VK}{E:XK}
def wB(h:dP K vs H Q E):lc K (eD9 Q) (start ["value"] vs) H:=by
 obtain⟨i,rfl,q⟩:=h;ac_nf;unfold lc;symm;exact q
def bL(K:Frag):Sp:=fun vs H Q _=>∃ i m:Int,vs=[.int i,.int m]/\Q (.bl (decide (1<=i)&&decide (i<=m))) H
def f6(K:Frag):TS:=#[":iP,~ica0ePb(df#1 0b(01"]
theorem oY(h:bL K vs H Q E):f6 K (eD9 Q) (start ["value","most"] vs) H:=by
 obtain⟨i,m,rfl,q⟩:=h;ac_nf;unfold f6;symm;refine⟨i,rfl,⟨true,rfl,iteT ?_⟩⟩;symm
 cases hb:decide (1<=i) with
 | false=>
  rw[hb,Hz] at q;exact iteF q
 | true=>
  rw[hb,HB] at q;exact iteT q
def ld(K:Frag):Sp:=fun vs H Q _=>∃ h w g:Int,vs=[.int h,.int w,.int g]/\FlOk h w g/\∀ p,H p=none->Q (.ref p) (upd H p (.tup [.int h,.int w,.int g]))
def lf(K:Frag):TS:=#[":gmKw,~sca0adf#6 eRngmKw,~sca1adf#6 eRngmob>bJ01df#16 RngmKw,~sca2adf#6 eRniNa0a1a2e"]
def wC(h:ld K vs H Q E):lf K (eD9 Q) (start ["high","wide","signs"] vs) H:=by
 obtain⟨h,w,g,rfl,F,q⟩:=h;obtain⟨h0,h1,w0,w1,m16,g0,g1⟩:=id F;ac_nf;unfold lf;rw[aB,ax];symm;refine⟨h,6,rfl,⟨_,rfl,?_⟩⟩;rw[GL h0,GL h1,JM];refine iteF ?_;rw[ax];symm;refine⟨w,6,rfl,⟨_,rfl,?_⟩⟩;rw[GL w0,GL w1,JM];refine iteF ?_;rw[ax];symm;refine⟨nD h0 h1,?_⟩;rw[GI (show ¬ (16:Int)<h*w by omega)];refine iteF ?_;rw[ax];symm;refine⟨g,6,rfl,⟨_,rfl,?_⟩⟩;rw[GL g0,GL g1,JM];refine iteF ?_;symm;exact⟨lnR rfl,q⟩
def gk(K:Frag):Sp:=fun vs H Q _=>∃ p h w g,vs=[.ref p]/\IsFl H p h w g/\FlOk h w g/\∀ p,H p=none->Q (.ref p) (upd H p (.tup [.int h,.int w,.int g]))
def gl(K:Frag):TS:=#[":gmMKwp*a0ad+~XeobQcpCa0edf#3 Rni,'Fcabk0df#0 abk0df#1 abk0df#2 e"]
def p7(h:gk K vs H Q E):gl K (eD9 Q) (start ["floor"] vs) H:=by
 obtain⟨p,h,w,g,rfl,hp,F,q⟩:=h;ac_nf;unfold gl;rw[aB,ax];symm;refine zS hp ?_;symm;rw[zG hp,show(([V.int h,V.int w,V.int g]:List V).length:Int)=3 from rfl];symm;refine ixT hp (v:=V.int h) rfl ?_;symm;refine ixT hp (v:=V.int w) rfl ?_;symm;refine ixT hp (v:=V.int g) rfl ?_;symm;exact⟨h,w,g,rfl,F,q⟩
def i7(K:Frag)(c:RCl RK):Sp:=fun vs H Q _=>∃ p a h w g Gy,vs=[.ref p,.ref a]/\IsFl H p h w g/\H a=↥((Gy.map RR.txt).map V.str)/\nK c h w g Gy/\
 ∀ l rs H',Same H H'->H l=none->IsRules H' c p l rs Gy->Q (.ref l) H'
def i8(K:Frag)(c:RCl RK):TS:=#[":gmob>pCa1edf#12 Rniy&--0 xc1h#1 D,'Gcja2a1e"]
def uk(h:i7 K c vs H Q E):i8 K c (eD9 Q) (start ["floor","lines"] vs) H:=by
 obtain⟨p,a,h,w,g,Gy,rfl,hp,ha,O,q⟩:=h;have hn:=O.n;ac_nf;unfold i8;rw[aB,ax];symm;rw[cj ha,GG,GG];symm;rw[GI (show ¬ (12:Int) < (Gy.length:Nat) by omega)];refine iteF ?_;symm;refine⟨⟨_,G6 ha⟩,?_⟩
 refine nv (xs:=(Gy.map RR.txt).map V.str) (fun l i σ H'=>(∃ cv,σ=[none,cv,↑p])/\Same H H'/\∃ rs:List Addr,H' l=↥(rs.map V.ref)/\rs.length=i/\∀(j:Nat) (r:Addr) (x:RR),rs[j]? =some r->Gy[j]? =some x->IsRule H' c x.k r p x.ws x.cs x.n x.m)
  (fun l hl=>⟨⟨none,rfl⟩,(GJ H).laid hl,[],by rw[ah];rfl,rfl,fun j r x e=>by simp at e⟩) (fun l i σ H' _ _ x=>x.2.1.seq (G6 ha)) ?_ ?_
 . rintro l i x σ H1 hl hx ⟨⟨cv,rfl⟩,s1,rs,el,GD,hat⟩;rw[GK,GK] at hx
   cases e:Gy[i]? with
   | none=>rw[e] at hx;cases hx
   | some y=>
    rw[e] at hx;cases hx;have hi:=(GN.mp e).1;have hm:=GQ e;rw[aL];show tTrue [none,some (.str y.txt),↑p] H1 _;symm;refine⟨y.k,p,h,w,g,y.n,y.m,y.ns,y.cs,rfl,s1 _ _ hp,O.F,O.ok y hm,O.c y hm,fun r H2 s2 hr xr=>?_⟩;have nrl:r≠l:=fun z=>by rw[z,el] at hr;cases hr
    refine⟨_,s2 _ _ el,by rw[GG];exact ay #[0],⟨_,rfl⟩,(s1.trans s2).own hl,rs++[r],by rw[ah];simp,by simp[GD],fun j r' x' h1 h2=>?_⟩;by_cases hj:j<rs.length
    . rw[Ho hj] at h1;exact((hat j r' x' h1 h2).same s2).lst (s2 _ _ el)
    . rw[Hu #[0]] at h1
      have hj0:j-rs.length=0:=by
       have:=(GN.mp h1).1;simp at this;omega
      rw[hj0] at h1;have:j=i:=by omega
      subst this;rw[e] at h2;simp at h1;cases h2;subst h1;exact xr.lst (s2 _ _ el)
 . rintro l σ H1 hl ⟨_,s1,rs,el,GD,hat⟩;exact q l rs H1 s1 hl ⟨el,by rw[GD];simp,hat⟩
def filB(least g:Int)(n:Nat)(xs:∅):Bool:=decide (xs.length=n)&&xs.all fun x=>decide (least<=x)&&decide (x<=g)
def i9(K:Frag):Sp:=fun vs H Q _=>∃ p a h w g least xs,vs=[.ref p,.ref a,.int least]/\IsFl H p h w g/\FlOk h w g/\H a=↥(xs.map V.int)/\xs.length<=100/\∀ H',Same H H'->Q (.bl (filB least g (h*w).toNat xs)) H'
def ja(K:Frag):TS:=#[":gmMKwp*a1ad+GeobQcpCa1e,~gca0eidFAnip[ay&--02 xc1h#1 DP,~ica1ePb(31b(1bk2df#2 e"]
def ul(h:i9 K vs H Q E):ja K (eD9 Q) (start ["floor","filling","least"] vs) H:=by
 obtain⟨p,a,h,w,g,least,xs,rfl,hp,F,ha,hn,q⟩:=h;obtain⟨h0,h1,w0,w1,m16,g0,g1⟩:=id F;have mpos:0<=h*w:=IG #[0] #[0];ac_nf;unfold ja;rw[aB,ax];symm;refine vk ha ?_;symm;rw[cj ha,GG];symm;refine⟨p,h,w,g,rfl,hp,h0,h1,?_⟩;symm;unfold filB at q;by_cases hl:xs.length=(h*w).toNat
 . rw[GL (show(xs.length:Int)=h*w by omega)];rw[GL hl] at q;symm;refine⟨⟨_,G6 ha⟩,?_⟩;refine ck (xs:=xs.map V.int) (fun _=>true) (fun i=>.bl (decide (least<=xs.getD i 0)&&decide (xs.getD i 0<=g))) (by rw[GG];omega) (G6 ha) ?_ ?_ ?_
   . intro i x H1 R hx s1 k1;exact k1 _ (GJ _)
   . intro i x H1 Q1 hx hb s1 k1;obtain⟨z,hz,rfl⟩:=bb hx;have q1:=k1 _ (GJ H1);rw[im hz] at q1;show tAndV _ _ [none,⇑z,↑p,⇑least] H1 Q1;symm;refine⟨z,rfl,⟨true,rfl,iteT ?_⟩⟩;symm
     cases hb:decide (least<=z) with
     | false=>
      rw[hb,Hz] at q1;exact iteF q1
     | true=>
      rw[hb,HB] at q1;refine iteT ?_;symm;refine ixT (s1 _ _ hp) (v:=V.int g) rfl ?_;symm;exact q1
   . intro l H1 hl1 s1 el
     have eb:((List.range (xs.map V.int).length).filter fun _=>true).map (fun i=>V.bl (decide (least<=xs.getD i 0)&&decide (xs.getD i 0<=g)))=(xs.map fun x=>decide (least<=x)&&decide (x<=g)).map V.bl:=by
      rw[a8,GG];refine Id fun i=>?_;rw[GK,GK,GK];by_cases h:i<xs.length
      . rw[HM h,GH h];simp[List.getD,h]
      . rw[G4 (by simpa using h),G4 #[0]];rfl
     rw[eb] at el;refine km el ?_;have ea:(xs.map fun x=>decide (least<=x)&&decide (x<=g)).all id=xs.all fun x=>decide (least<=x)&&decide (x<=g):=by rw[IJ];rfl
     rw[ea];exact q _ s1
 . rw[GI (show ¬ (xs.length:Int)=h*w by omega)];rw[GI hl] at q;symm;exact q _ (GJ _)
def gm(K:Frag):Sp:=fun vs H Q _=>∃ p a h w g xs,vs=[.ref p,.ref a]/\IsFl H p h w g/\FlOk h w g/\H a=↥(xs.map V.int)/\CluesOk h w g xs/\∀ l H',Same H H'->H l=none->H' l=↥(xs.map V.int)->Q (.ref l) H'
def gn(K:Frag):TS:=#[":gmKw,'Hca0a1adf#0 eRnip~oa1e"]
def CluesOk.fil{h w g:Int}{xs:∅}(C:CluesOk h w g xs):filB 0 g (h*w).toNat xs=true:=by
 unfold filB;rw[GL C.len,HB,GZ];intro x hx;have:=C.ok x hx;simp[this.1,this.2]
def p8(h:gm K vs H Q E):gn K (eD9 Q) (start ["floor","clues"] vs) H:=by
 obtain⟨p,a,h,w,g,xs,rfl,hp,F,ha,C,q⟩:=h;obtain⟨h0,h1,w0,w1,m16,g0,g1⟩:=id F;ac_nf;unfold gn;rw[aB,ax];symm;refine⟨p,a,h,w,g,0,xs,rfl,hp,F,ha,by have:=C.len;omega,fun H1 s1=>?_⟩;rw[C.fil];refine⟨true,rfl,iteF ?_⟩;symm;refine vh (s1 _ _ ha) fun l hl=>?_;exact q l _ (s1.laid hl) (s1.free hl) ah
def IsRule.ins{k:RK}{r a:Addr}{ws:List (List Nat)}{n m:Int}{C dx:Addr}{fs:List (Str × V)}(x:IsRule H c k r p ws cs n m)(ha:H a=some (.ins C dx fs))(hf:fs.length≠5):IsRule (upd H a o) c k r p ws cs n m:=by
 obtain⟨dx',W,C',h1,h2,h3⟩:=x.ex;refine⟨x.ok,dx',W,C',?_,?_,?_⟩
 . rw[aj (fun e=>by rw[e,ha] at h1;cases h1;exact hf rfl)];exact h1
 . rw[aj (fun e=>by rw[e,ha] at h2;cases h2)];exact h2
 . rw[aj (fun e=>by rw[e,ha] at h3;cases h3)];exact h3
def IsRules.ins{L a:Addr}{C dx:Addr}{fs:List (Str × V)}(x:IsRules H c p L rs Gy)(ha:H a=some (.ins C dx fs))(hf:fs.length≠5):IsRules (upd H a o) c p L rs Gy:=
 ⟨by rw[aj (fun e=>by have:=x.top;rw[e,ha] at this;cases this)];exact x.top,x.len,fun i r y h1 h2=>(x.at_ i r y h1 h2).ins ha hf⟩
def cq(K:Frag)(c:RCl RK)(d:RCl PzK):Sp:=fun vs H Q _=>∃ x dx p a b h w g Gy cl,vs=[.ref x,.ref p,.ref a,.ref b]/\d.ok .Puzzle=true/\H x=some (.ins (d.A .Puzzle) dx [])/\IsFl H p h w g/\H a=↥((Gy.map RR.txt).map V.str)/\H b=↥(cl.map V.int)/\nK c h w g Gy/\CluesOk h w g cl/\
 ∀ L G H',(∀ y o,y≠x->H y=some o->H' y=some o)->H L=none->H G=none->IsPz H' c d x L G h w g Gy cl->Q .non H'
def fK(K:Frag)(c:RCl RK)(d:RCl PzK):TS:=#[":g;t0,'Ica1e?g;t0,'JcjaIt0?a2e~Y;t0,'KcaIt0?a3e~Z"]
def nM(h:cq K c d vs H Q E):fK K c d (eD9 Q) (start ["self","floor","lines","clues"] vs) H:=by
 obtain⟨x,dx,p,a,b,h,w,g,Gy,cl,rfl,ok,hx,hp,ha,hb,R,C,q⟩:=h;ac_nf;unfold fK sFldK;symm;refine⟨p,h,w,g,rfl,hp,R.F,fun p1 hp1=>?_⟩;have nxp:x≠p1:=av hx hp1;refine⟨x,.Puzzle,dx,[],rfl,ok,by rw[aj nxp];exact hx,by show(0:Nat)<1000;decide,?_⟩
 have f1:∀ y o,y≠x->H y=some o->(upd (upd H p1 (.tup [.int h,.int w,.int g])) x (.ins (d.A .Puzzle) dx (putF "floor" (.ref p1) []))) y=some o:=fun y o ny e=>by
  rw[aj ny,aj (av e hp1)];exact e
 have hx1:(upd (upd H p1 (.tup [.int h,.int w,.int g])) x (.ins (d.A .Puzzle) dx (putF "floor" (.ref p1) []))) x=some (.ins (d.A .Puzzle) dx [("floor",.ref p1)]):=ah
 have hp1':IsFl (upd (upd H p1 (.tup [.int h,.int w,.int g])) x (.ins (d.A .Puzzle) dx (putF "floor" (.ref p1) []))) p1 h w g:=by
  show(upd (upd H p1 (.tup [.int h,.int w,.int g])) x _) p1=_;rw[aj nxp.symm,ah]
 have fr1:∀ l,(upd (upd H p1 (.tup [.int h,.int w,.int g])) x (.ins (d.A .Puzzle) dx (putF "floor" (.ref p1) []))) l=none->H l=none:=fun l e=>by
  have n1:l≠x:=fun z=>by rw[z,ah] at e;cases e
  rw[aj n1] at e;have n2:l≠p1:=fun z=>by rw[z,ah] at e;cases e
  rw[aj n2] at e;exact e
 have nax:a≠x:=fun z=>by rw[z,hx] at ha;cases ha
 have nbx:b≠x:=fun z=>by rw[z,hx] at hb;cases hb
 generalize upd (upd H p1 (.tup [.int h,.int w,.int g])) x (.ins (d.A .Puzzle) dx (putF "floor" (.ref p1) []))=H1 at*;refine fldE (c:=d) (k:=.Puzzle) rfl ok hx1 (v:=.ref p1) (by rfl) ?_;symm;refine⟨p1,a,h,w,g,Gy,rfl,hp1',f1 a _ nax ha,R,fun L rs H2 s2 hL X=>?_⟩;refine⟨x,.Puzzle,dx,_,rfl,ok,s2 _ _ hx1,by show(1:Nat)<1000;decide,?_⟩;have nxL:L≠x:=fun z=>by rw[z,hx1] at hL;cases hL
 have X3:=X.ins (o:=.ins (d.A .Puzzle) dx (putF "laws" (.ref L) [("floor",.ref p1)])) (s2 _ _ hx1) (by show(1:Nat)≠5;decide)
 have f2:∀ y o,y≠x->H y=some o->(upd H2 x (.ins (d.A .Puzzle) dx (putF "laws" (.ref L) [("floor",.ref p1)]))) y=some o:=fun y o ny e=>by
  rw[aj ny];exact s2 _ _ (f1 y o ny e)
 have hx3:(upd H2 x (.ins (d.A .Puzzle) dx (putF "laws" (.ref L) [("floor",.ref p1)]))) x=some (.ins (d.A .Puzzle) dx [("floor",.ref p1),("laws",.ref L)]):=ah
 have hp3:IsFl (upd H2 x (.ins (d.A .Puzzle) dx (putF "laws" (.ref L) [("floor",.ref p1)]))) p1 h w g:=by
  show(upd H2 x _) p1=_;rw[aj nxp.symm];exact s2 _ _ hp1'
 have fr3:∀ l,(upd H2 x (.ins (d.A .Puzzle) dx (putF "laws" (.ref L) [("floor",.ref p1)]))) l=none->H1 l=none:=fun l e=>by
  have n1:l≠x:=fun z=>by rw[z,ah] at e;cases e
  rw[aj n1] at e;exact s2.free e
 generalize upd H2 x (.ins (d.A .Puzzle) dx (putF "laws" (.ref L) [("floor",.ref p1)]))=H3 at*;refine fldE (c:=d) (k:=.Puzzle) rfl ok hx3 (v:=.ref p1) (by rfl) ?_;symm;refine⟨p1,b,h,w,g,cl,rfl,hp3,R.F,f2 b _ nbx hb,C,fun G H4 s4 hG eG=>?_⟩;refine⟨x,.Puzzle,dx,_,rfl,ok,s4 _ _ hx3,by show(2:Nat)<1000;decide,?_⟩;have nxG:G≠x:=fun z=>by rw[z,hx3] at hG;cases hG
 refine q L G _ (fun y o ny e=>?_) (fr1 L hL) (fr1 G (fr3 G hG)) ⟨ok,R,C,?_,dx,p1,rs,?_,?_,?_⟩
 . rw[aj ny];exact s4 _ _ (f2 y o ny e)
 . rw[aj nxG];exact eG
 . rw[ah];rfl
 . show(upd H4 x _) p1=_;rw[aj nxp.symm];exact s4 _ _ hp3
 . exact(X3.same s4).ins (s4 _ _ hx3) (by show(2:Nat)≠5;decide)
def Db {Z:Addr->Hp->Prop} {a b:Addr} {h w g:Int} (ok:d.ok .Puzzle=true) (hp:IsFl H p h w g) (ha:H a=↥((Gy.map RR.txt).map V.str)) (hb:H b=↥(cl.map V.int)) (R:nK c h w g Gy) (C:CluesOk h w g cl)
  (q:∀ P L G H',Same H H'->H P=none->H L=none->H G=none->IsPz H' c d P L G h w g Gy cl->Z P H'):
  ∀ x dx,H x=none->H dx=none->dx≠x->cq K c d (.ref x::([.ref p,.ref a,.ref b]++[])) (upd (upd H dx (.own x)) x (.ins (d.A .Puzzle) dx [])) (fun v H2=>v=.non/\Z x H2) E0:=by
 intro x dx hx hd ne;have k:∀ y o,H y=some o->(upd (upd H dx (.own x)) x (.ins (d.A .Puzzle) dx [])) y=some o:=fun y o e=>by rw[aj (av e hx),aj (av e hd)];exact e
 have fr:∀ y,(upd (upd H dx (.own x)) x (.ins (d.A .Puzzle) dx [])) y=none->H y=none:=fun y e=>by
  have n1:y≠x:=fun z=>by rw[z,ah] at e;cases e
  rw[aj n1] at e;have n2:y≠dx:=fun z=>by rw[z,ah] at e;cases e
  rw[aj n2] at e;exact e
 exact⟨x,dx,p,a,b,h,w,g,Gy,cl,rfl,ok,ah,k _ _ hp,k _ _ ha,k _ _ hb,R,C,fun L G H' hs hL hG X=>⟨rfl,q x L G H' (fun y o e=>hs y o (av e hx) (k _ _ e)) hx (fr L hL) (fr G hG) X⟩⟩
def p9(K:Frag)(c:RCl RK)(d:RCl PzK)(_:PzK):Sp:=fun vs H Q _=>∃(P L G:Addr) (h w g:Int) (Gy:List RR) (cl:∅),vs=[.ref P]/\IsPz H c d P L G h w g Gy cl/\∀ p,IsFl H p h w g->Q (.ref p) H
def ku(K:Frag)(c:RCl RK)(d:RCl PzK):Sp:=p9 K c d .Puzzle
def gL(K:Frag)(c:RCl RK)(d:RCl PzK):TS:=#[":iIt0?"]
def qS(h:ku K c d vs H Q E):gL K c d (eD9 Q) (start ["self"] vs) H:=by
 obtain⟨P,L,G,h,w,g,Gy,cl,rfl,x,q⟩:=h;obtain⟨dx,p,rs,h1,h2,h3⟩:=x.ex;ac_nf;unfold gL;symm;exact fldE (k:=.Puzzle) rfl x.ok h1 (v:=.ref p) (by rfl) (q p h2)
def vE(K:Frag)(c:RCl RK)(d:RCl PzK)(_:PzK):Sp:=fun vs H Q _=>∃(P L G:Addr) (h w g:Int) (Gy:List RR) (cl:∅),vs=[.ref P]/\IsPz H c d P L G h w g Gy cl/\∀ l,H l=none->Q (.ref l) (upd H l (.lst (cl.map V.int)))
def kx(K:Frag)(c:RCl RK)(d:RCl PzK):Sp:=vE K c d .Puzzle
def gM(K:Frag)(c:RCl RK)(d:RCl PzK):TS:=#[":ip~oaIt0~Ze"]
def qT(h:kx K c d vs H Q E):gM K c d (eD9 Q) (start ["self"] vs) H:=by
 obtain⟨P,L,G,h,w,g,Gy,cl,rfl,x,q⟩:=h;obtain⟨dx,p,rs,h1,h2,h3⟩:=x.ex;ac_nf;unfold gM;symm;refine fldE (k:=.Puzzle) rfl x.ok h1 (v:=.ref G) (by rfl) ?_;symm;exact vh x.gv q
def gp(K:Frag)(c:RCl RK)(d:RCl PzK)(_:PzK):Sp:=fun vs H Q _=>∃(P L G:Addr) (h w g:Int) (Gy:List RR) (cl:∅),vs=[.ref P]/\IsPz H c d P L G h w g Gy cl/\∀ l p rs,H l=none->IsFl (upd H l (.lst (rs.map V.ref))) p h w g->IsRules (upd H l (.lst (rs.map V.ref))) c p l rs Gy->Q (.ref l) (upd H l (.lst (rs.map V.ref)))
def ky(K:Frag)(c:RCl RK)(d:RCl PzK):Sp:=gp K c d .Puzzle
def gN(K:Frag)(c:RCl RK)(d:RCl PzK):TS:=#[":ip~oaIt0~Ye"]
def qU(h:ky K c d vs H Q E):gN K c d (eD9 Q) (start ["self"] vs) H:=by
 obtain⟨P,L,G,h,w,g,Gy,cl,rfl,x,q⟩:=h;obtain⟨dx,p,rs,h1,h2,h3⟩:=x.ex;ac_nf;unfold gN;symm;refine fldE (k:=.Puzzle) rfl x.ok h1 (v:=.ref L) (by rfl) ?_;symm;refine vh h3.top fun l hl=>?_;have s1:Same H (upd H l (.lst (rs.map V.ref))):=(GJ H).laid hl;exact q l p rs hl (s1 _ _ h2) ⟨ah,h3.len,fun i r y e1 e2=>(h3.at_ i r y e1 e2).same s1⟩
inductive DRows(w:World)(K:Frag):List DictEntry->List (Str × List Str)->Prop
 | nil:DRows w K [] []
 | cons {hsh:Int} {k:Str} {t:Tok} {q:Addr} {o:Obj} {GB:Array Value} {n:Nat} {ws:List Str} {es:List DictEntry} {D:List (Str × List Str)}:hsh=hashStr w k->K.lookup q=some o->o.cls=.type "tuple"->o.data=.seq GB n->GB.size<=sizeLine->Vals (ws.map V.str) GB.toList->DRows w K es D->DRows w K (⟨hsh,.str k t,.ref q⟩::es) ((k,ws)::D)
structure GDict(w:World)(K:Frag)(mg:Str->Option Value)(x:Str)(D:List (Str × List Str)):Prop where
 ex:∃(p:Addr) (o:Obj) (es:Array DictEntry) (ep:Nat),mg x=↑p/\K.lookup p=some o/\o.ExactDict/\o.data=.dict es ep/\DRows w K es.toList D/\(D.map fun x=>x.1).Nodup
theorem DRows.of{P:Program}{w:World}{K:Frag}{es:List DictEntry}{D:List (Str × List Str)}(h:DRows w K es D):
  ∃ GA:List (Str × Value),Pairs (strKind P w) es GA/\GA.map (fun x=>x.1)=D.map (fun x=>x.1)/\(∀ e∈es,∃ k,(strKind P w).is k e.key=true/\e.hash=(strKind P w).hash k)/\
   ∀ k ws,D.lookup k=some ws->∃ q,valueAt GA k=↑q/\∃(o:Obj) (GB:Array Value) (n:Nat),K.lookup q=some o/\o.cls=.type "tuple"/\o.data=.seq GB n/\GB.size<=sizeLine/\Vals (ws.map V.str) GB.toList:=by
 induction h with
 | nil=>exact⟨[],.nil,rfl,fun e he=>(by cases he),fun k ws e=>(by cases e)⟩
 | @cons hsh k t q o GB n ws es D h1 h2 h3 h4 h5 h6 _ ih=>
  obtain⟨GA,p1,p2,p3,p4⟩:=ih;have hk:(strKind P w).is k (.str k t)=true:=by show(k==k)=true;simp
  refine⟨(k,.ref q)::GA,.cons hk rfl p1,by rw[Hd,Hd,p2],fun e he=>?_,fun k' ws' e=>?_⟩
  . rcases GU.mp he with rfl | he
    . exact⟨k,hk,h1⟩
    . exact p3 e he
  . rw[Hw] at e;unfold valueAt;rw[Im];by_cases hkk:k'=k
    . subst hkk;simp at e;subst e;refine⟨q,by simp,o,GB,n,h2,h3,h4,h5,h6⟩
    . have hb:(k'==k)=false:=by simpa using hkk
      rw[hb] at e;have hd:decide (k=k')=false:=GI (fun z=>hkk z.symm);dsimp only;rw[hd];exact p4 k' ws' e
def tIxG(K:Frag)(D:List (Str × List Str))(te:TE):TE:=fun σ H Q=>te σ H fun y H1=>∃ k ws,y=.str k/\D.lookup k=some ws/\∀ q,SqT K H1 q (ws.map V.str)->Q (.ref q) H1
def rInS(K:Frag):R2:=fun x y H Q=>∃(z:Str) (q:Addr) (ws:List Str),x=.str z/\y=.ref q/\SqT K H q (ws.map V.str)/\Q (.bl (decide (z∈ws))) H
section
variable{X:Cx}{a b:Expr}{ta tb:TE}{pos p:Pos}{x:Str}{D:List (Str × List Str)}
def Dc(G:GDict X.w X.K X.mg x D)(hb:PE X b tb)(hg:Gl X x)(hpi:sj b)(hdb:(x==("__debug__":Str))=false:=by decide):PE X (.Subscript (.Name x p) b pos) (tIxG X.K D tb):=by
 obtain⟨pd,o,es,ep,h1,h2,h3,h4,h5,h6⟩:=G.ex;obtain⟨GA,p1,p2,p3,p4⟩:=h5.of (P:=X.prog)
 have ir:IxR X (fun x y H Q=>x=.ref pd/\∃ k ws,y=.str k/\D.lookup k=some ws/\∀ q,SqT X.K H q (ws.map V.str)->Q (.ref q) H):=by
  intro value slice Gx s σ H x y v u Q I rx ry h hs;obtain⟨rfl,k,ws,rfl,hl,q⟩:=h;cases (show v=Value.ref pd from rx);have hget:s.heap.get? pd=some o:=I.kIn pd o h2;have dd:Heap.DictOf (strKind X.prog X.w) s.heap pd GA:=⟨o,es,ep,hget,h3,h4,fun e he=>p3 e (Array.mem_toList_iff.mpr he),p1,by rw[p2];exact h6⟩;obtain⟨qa,hv,o2,GB,n,g1,g2,g3,g4,g5⟩:=p4 k ws hl;obtain⟨t,rfl⟩:∃ t,u=Value.str k t:=ry;have hk:(strKind X.prog X.w).is k (.str k t)=true:=by show(k==k)=true;simp
  refine tail_any dd.typeIs JD.lookup (wpAny_getItem_of hk dd.mapOf hv ?_) hs;exact⟨.ref qa,H,I.tok _,rfl,q qa (.inr ⟨o2,GB,n,g1,g2,g3,g4,g5⟩)⟩
 have h0:=uJ (pos:=pos) ir (dy (pos:=p) (v:=V.ref pd) hg h1 rfl hdb) hb hpi;intro Gx s σ H Q I h;refine h0 Gx s σ H Q I ?_
 have e:(fun(y:V) (H1:Hp)=>∃ k ws,y=.str k/\D.lookup k=some ws/\∀ q,SqT X.K H1 q (ws.map V.str)->Q (.ref q) H1)=fun y H1=>(V.ref pd=V.ref pd)/\∃ k ws,y=.str k/\D.lookup k=some ws/\∀ q,SqT X.K H1 q (ws.map V.str)->Q (.ref q) H1:=by
  funext y H1;simp
 have h':tb σ H (fun(y:V) (H1:Hp)=>∃ k ws,y=.str k/\D.lookup k=some ws/\∀ q,SqT X.K H1 q (ws.map V.str)->Q (.ref q) H1):=h;rw[e] at h';exact h'
def Dd:OpR X (compareOp .In) (rInS X.K):=by
 intro Gx s σ H x y v u Q I rx ry h;obtain⟨z,q,ws,rfl,rfl,hq,h⟩:=h;refine no Gx s σ H _ _ v u Q I rx ry ⟨q,ws.map V.str,rfl,.inr hq,rfl,iQ ws,?_⟩;rw[jL];exact h
end
section
variable{K:Frag}{σ:St}{H:Hp}{Q:VK}{te:TE}{D:List (Str × List Str)}
def DH:tIxG K D te σ H Q=te σ H fun y H1=>∃ k ws,y=.str k/\D.lookup k=some ws/\∀ q,SqT K H1 q (ws.map V.str)->Q (.ref q) H1:=rfl
end
def ws5:String:="aB if_true if_false Bool.false_eq_true decide_true decide_false b9 ca eI bq a9 b7 cU b8 bp cS cT bo eh br bt bv bw bx bz bu cV cW cX cR eH Bool.not_true Bool.not_false aB "++ws1
local macro_rules|`(tactic|walk_at "w")=>wk9 ws5
def stB(m s:Int):Bool:=decide (1<=s)&&(decide (s<=((Builtin.Int.intBits m:Nat):Int))&&decide (m/2^(s-1).toNat%2=1))
def iR(K:Frag):Sp:=fun vs H Q _=>∃ m s:Int,vs=[.int m,.int s]/\Q (.bl (stB m s)) H
def nN(K:Frag):TS:=#[":iPb(df#1 1Pb(1~*c~r~+0bscbBb'L0bO1df#1 df#2 df#1 "]
variable{K:Frag}{vs:List V}{H:Hp}{Q:VK}{E:XK}
theorem z6(h:iR K vs H Q E):nN K (eD9 Q) (start ["mask","sign"] vs) H:=by
 obtain⟨m,s,rfl,q⟩:=h;ac_nf;unfold nN;symm;unfold stB at q
 cases h1:decide (1<=s) with
 | false=>rw[h1,Hz] at q;exact iteF q
 | true=>
  refine iteT ⟨rfl,?_⟩;symm;rw[h1,HB] at q
  cases h2:decide (s<=((Builtin.Int.intBits m:Nat):Int)) with
  | false=>rw[h2,Hz] at q;exact iteF q
  | true=>
   rw[h2,HB] at q;exact iteT ⟨by have:=Hy h1;omega,by decide,q⟩
def nO(K:Frag):Sp:=fun vs H Q _=>∃ s:Int,vs=[.int s]/\1<=s/\s<=100000/\Q (.int (2^(s-1).toNat)) H
def nQ(K:Frag):TS:=#[":gldf#1 h#1 gLXabO0df#1 eh#2 lbJ1df#2 h#1 i1"]
def z7(h:nO K vs H Q E):nQ K (eD9 Q) (start ["sign","bit","step"] vs) H:=by
 obtain⟨s,rfl,h1,h2,q⟩:=h;ac_nf;unfold nQ;symm;refine⟨s-1,rfl,by omega,by omega,?_⟩;refine d3 (fun i σ H'=>∃ sv:Option V,σ=[⇑s,⇑(2^i),sv]/\H'=H) ⟨none,rfl,rfl⟩ ?_ ?_
 . rintro i σ H' hi ⟨sv,rfl,rfl⟩;symm;refine⟨.inr ⟨by decide,by decide⟩,?_⟩;simp[Int.pow_succ]
 . rintro σ H' ⟨sv,rfl,rfl⟩;symm;exact q
def woI(m s:Int):Int:=if stB m s=true then m-2^(s-1).toNat else m
def my(K:Frag):Sp:=fun vs H Q _=>∃ m s:Int,vs=[.int m,.int s]/\s<=100000/\Q (.int (woI m s)) H
def mB(K:Frag):TS:=#[":i~Fw,~Gca0a1ebO0,'Mca1e0"]
theorem yo(h:my K vs H Q E):mB K (eD9 Q) (start ["mask","sign"] vs) H:=by
 obtain⟨m,s,rfl,h2,q⟩:=h;ac_nf;unfold mB;symm;refine⟨m,s,rfl,_,rfl,?_⟩;unfold woI at q
 cases hb:stB m s with
 | false=>
  rw[hb,G3 GM] at q;exact iteF q
 | true=>
  rw[hb,G9 rfl] at q;refine iteT ⟨s,rfl,?_,h2,?_⟩
  . unfold stB at hb;rw[G7,GX] at hb;exact hb.1
  . symm;exact q
def lg(K:Frag):Sp:=fun vs H Q _=>∃ m s:Int,vs=[.int m,.int s]/\s<=100000/\Q (.bl (decide (woI m s=0))) H
def li(K:Frag):TS:=#[":ibsc,'Nca0a1edf#0 "]
def wD(h:lg K vs H Q E):li K (eD9 Q) (start ["mask","sign"] vs) H:=by
 obtain⟨m,s,rfl,h2,q⟩:=h;ac_nf;unfold li;symm;refine⟨m,s,rfl,h2,?_⟩;symm;exact q
def sgL(m:Int):∅:=((List.range (Builtin.Int.intBits m)).filter fun(i:Nat)=>stB m (1+(i:Int))).map fun(i:Nat)=>1+(i:Int)
def cK(K:Frag):Sp:=fun vs H Q _=>∃ m:Int,vs=[.int m]/\Builtin.Int.intBits m<=900/\∀ l H',Same H H'->H l=none->H' l=↥((sgL m).map V.int)->Q (.ref l) H'
def lj(K:Frag):TS:=#[":iy&--0 ~-adf#1 abu~*c~r~+0df#1 eh#1 w,~Gca2a1e1"]
def wE(h:cK K vs H Q E):lj K (eD9 Q) (start ["mask"] vs) H:=by
 obtain⟨m,rfl,hb,k⟩:=h;ac_nf;unfold lj;symm;refine⟨rfl,1,_,rfl,by omega,?_⟩;have en:(((Builtin.Int.intBits m:Nat):Int)+1-1).toNat=Builtin.Int.intBits m:=by omega
 rw[en];refine kY (fun(i:Nat)=>stB m (1+(i:Int))) (fun(i:Nat)=>1+(i:Int)) hb ?_ ?_ ?_
 . intro i H1 R hi s1 k1;show tB _ [none,⇑(1+(i:Int)),⇑m] H1 R;symm;exact⟨m,_,rfl,_,rfl,k1 _ (GJ _)⟩
 . intro i H1 Q1 hi hb s1 k1;exact k1 _ (GJ _)
 . intro l H1 hl s1 el;exact k l H1 s1 hl el
local macro_rules|`(tactic|walk_at "w")=>wk9 ws4
inductive TK where
 | clue | only | place | count | step | sum | square | reach | turn | pair | ways
 deriving DecidableEq
def tkC:TK->List Nat
 | .clue=>[99,108,117,101]
 | .only=>[111,110,108,121]
 | .place=>[112,108,97,99,101]
 | .count=>[99,111,117,110,116]
 | .step=>[115,116,101,112]
 | .sum=>[115,117,109]
 | .square=>[115,113,117,97,114,101]
 | .reach=>[114,101,97,99,104]
 | .turn=>[116,117,114,110]
 | .pair=>[112,97,105,114]
 | .ways=>[119,97,121,115]
def mC:List Str:=[tx [99,108,117,101],tx [111,110,108,121],tx [112,108,97,99,101],tx [99,111,117,110,116],tx [115,116,101,112],tx [115,117,109],tx [115,113,117,97,114,101],tx [114,101,97,99,104],tx [116,117,114,110],tx [112,97,105,114],tx [119,97,121,115]]
def dB:List Str:=[tx [99,108,117,101],tx [111,110,108,121],tx [112,108,97,99,101],tx [115,116,101,112],tx [112,97,105,114]]
def cA:List Str:=[tx [99,111,117,110,116],tx [115,117,109],tx [119,97,121,115]]
def gd_RULES_OF_KIND:List (Str × List Str):=[(tx [111,110,108,121],[tx [117,110,108,105,107,101]]),(tx [112,108,97,99,101],[tx [117,110,108,105,107,101]]),(tx [99,111,117,110,116],[tx [99,111,117,110,116]]),(tx [115,116,101,112],[tx [114,105,115,105,110,103]]),(tx [115,117,109],[tx [115,117,109]]),(tx [115,113,117,97,114,101],[tx [110,111,115,113,117,97,114,101]]),(tx [114,101,97,99,104],[tx [106,111,105,110,101,100],tx [114,105,110,103]]),(tx [116,117,114,110],[tx [114,105,110,103]]),(tx [112,97,105,114],[tx [117,110,108,105,107,101]])]
def wsOf:TK->List Str
 | .only=>[tx [117,110,108,105,107,101]]
 | .place=>[tx [117,110,108,105,107,101]]
 | .count=>[tx [99,111,117,110,116]]
 | .step=>[tx [114,105,115,105,110,103]]
 | .sum=>[tx [115,117,109]]
 | .square=>[tx [110,111,115,113,117,97,114,101]]
 | .reach=>[tx [106,111,105,110,101,100],tx [114,105,110,103]]
 | .turn=>[tx [114,105,110,103]]
 | .pair=>[tx [117,110,108,105,107,101]]
 | _=>[]
def goesB:TK->RK->Bool
 | .ways,_=>true
 | .only,.Unlike=>true
 | .place,.Unlike=>true
 | .count,.Count=>true
 | .step,.Rising=>true
 | .sum,.Sum=>true
 | .square,.NoSquare=>true
 | .reach,.Joined=>true
 | .reach,.Ring=>true
 | .turn,.Ring=>true
 | .pair,.Unlike=>true
 | _,_=>false
def lineK:TK->Bool
 | .clue=>true
 | .only=>true
 | .place=>true
 | .step=>true
 | .pair=>true
 | _=>false
def nbrK:TK->Bool
 | .count=>true
 | .sum=>true
 | .ways=>true
 | _=>false
def A3(t:TK):decide (tx (tkC t)∈mC)=true:=by cases t <;> decide+kernel
def xw(t:TK):decide (tx (tkC t)∈dB)=lineK t:=by cases t <;> decide+kernel
def z8(t:TK):decide (tx (tkC t)∈cA)=nbrK t:=by cases t <;> decide+kernel
variable{t:TK}
def DI(h1:t≠.clue)(h2:t≠.ways):gd_RULES_OF_KIND.lookup (tx (tkC t))=some (wsOf t):=by
 cases t <;> first | exact absurd rfl h1 | exact absurd rfl h2 | decide+kernel
def B7(h2:t≠.ways)(k:RK):decide (tx (nmC k)∈wsOf t)=goesB t k:=by
 cases t <;> first | exact absurd rfl h2 | (cases k <;> decide+kernel)
def B8(t:TK):decide (tkC t=[119,97,121,115])=decide (t=.ways):=by cases t <;> decide
def sH(t:TK):decide (tkC t=[99,108,117,101])=decide (t=.clue):=by cases t <;> decide
def xx(t:TK):decide (tkC t=[111,110,108,121])=decide (t=.only):=by cases t <;> decide
def mD(K:Frag):Sp:=fun vs H Q _=>∃ p h w g i,vs=[.ref p,.int i]/\IsFl H p h w g/\FlOk h w g/\Q (.bl (decide (0<=i)&&decide (i<h*w))) H
def mE(K:Frag):TS:=#[":iP,~ica1ePb(df#0 1b<1,~gca0e"]
variable{K:Frag}{vs:List V}{H:Hp}{Q:VK}{E:XK}
theorem yp(h:mD K vs H Q E):mE K (eD9 Q) (start ["floor","value"] vs) H:=by
 obtain⟨p,h,w,g,i,rfl,hp,F,q⟩:=h;ac_nf;unfold mE;symm;refine⟨i,rfl,⟨true,rfl,iteT ?_⟩⟩;symm
 cases hb:decide (0<=i) with
 | false=>
  rw[hb,Hz] at q;exact iteF q
 | true=>
  rw[hb,HB] at q;refine iteT ?_;symm;refine⟨p,h,w,g,rfl,hp,F.h0,F.h1,?_⟩;symm;exact q
def mF(K:Frag):Sp:=fun vs H Q _=>∃ p h w g i,vs=[.ref p,.int i]/\IsFl H p h w g/\Q (.bl (decide (1<=i)&&decide (i<=g))) H
def mG(K:Frag):TS:=#[":i,~sca1abk0df#2 e"]
def yq(h:mF K vs H Q E):mG K (eD9 Q) (start ["floor","value"] vs) H:=by
 obtain⟨p,h,w,g,i,rfl,hp,q⟩:=h;ac_nf;unfold mG;symm;refine ixT hp (v:=V.int g) rfl ?_;symm;exact⟨i,g,rfl,q⟩
def mH(K:Frag)(c:RCl RK):Sp:=fun vs H Q _=>∃ t k r p ws cs n m,vs=[.str (tx (tkC t)),.ref r]/\t≠.clue/\IsRule H c k r p (nmC k::ws) cs n m/\Q (.bl (goesB t k)) H
def mI(K:Frag)(c:RCl RK):TS:=#[":i~Hbsc0dqr`0b'OczjE'P'Qcj1e'Rc'S0",[119,97,121,115]]
variable{c:RCl RK}
def yr(h:mH K c vs H Q E):mI K c (eD9 Q) (start ["kind","rule"] vs) H:=by
 obtain⟨t,k,r,p,ws,cs,n,m,rfl,t0,x,q⟩:=h;obtain⟨dx,W,C,h1,h2,h3⟩:=x.ex;ac_nf;unfold mI;symm;rw[b6,B8];by_cases hw:t=.ways
 . subst hw;rw[GL rfl];exact iteT q
 . rw[GI hw];refine iteF ?_;refine methE (k:=k) rfl x.ok h1 (by rfl) ?_;symm;refine⟨r,p,nmC k,ws,cs,n,m,rfl,x,?_⟩;dsimp only;rw[DH];symm;refine⟨_,_,rfl,DI t0 hw,fun qa hq=>?_⟩;refine⟨_,qa,_,rfl,rfl,hq,?_⟩;rw[B7 hw];exact q
def fL(K:Frag)(c:RCl RK):Sp:=fun vs H Q _=>∃ k r p ws cs n m z,vs=[.ref r,.int z]/\IsRule H c k r p ws cs n m/\cs.length<=63/\∀ l H',Same H H'->H l=none->H' l=↥((cs.filter fun x=>!decide (x=z)).map V.int)->Q (.ref l) H'
def nR(K:Frag)(c:RCl RK):TS:=#[":iy&--1 xczjE~t~ucj0eh#1 obQc121"]
def Aa(h:fL K c vs H Q E):nR K c (eD9 Q) (start ["rule","cell"] vs) H:=by
 obtain⟨k,r,p,ws,cs,n,m,z,rfl,x,hn,q⟩:=h;obtain⟨dx,W,C,h1,h2,h3⟩:=x.ex;ac_nf;unfold nR;rw[bN,bc];refine methE (k:=k) rfl x.ok h1 (by rfl) ?_;symm;refine⟨r,p,ws,cs,n,m,rfl,x,fun l hl=>?_⟩;obtain⟨H1,z9,s1,el⟩:=bn (.lst (cs.map V.int)) hl;rw[z9];refine⟨l,rfl,⟨_,G6 el⟩,?_⟩;refine bH (xs:=cs) (fun x=>!decide (x=z)) (fun x=>x) #[0] (G6 el) ?_ ?_ ?_
 . intro y H2 R hy s2 k2;show tTest _ [none,⇑y,⇑z] H2 R;symm;exact k2 _ (GJ _)
 . intro y H2 Q2 hy hb s2 k2;show tVar 1 [none,⇑y,⇑z] H2 Q2;symm;exact k2 _ (GJ _)
 . intro T H2 hT s2 eT;rw[IK] at eT;exact q T H2 (s1.trans s2) (s1.free hT) eT
def hitB(t:TK)(Gy:List RR)(r z:Int):Bool:=if r<0 then false else if t=.clue then decide (r=0) else match Gy[r.toNat]? with
 | none=>false
 | some x=>goesB t x.k&&decide (z∈x.cs)
def gO(K:Frag)(c:RCl RK)(d:RCl PzK):Sp:=fun vs H Q _=>∃ t P L G h w g r z Gy cl,vs=[.ref P,.str (tx (tkC t)),.int r,.int z]/\IsPz H c d P L G h w g Gy cl/\∀ H',Same H H'->Q (.bl (hitB t Gy r z)) H'
def gP(K:Frag)(c:RCl RK)(d:RCl PzK):TS:=#[":gmMKw,~ica2eob<2df#0 idFAngmobsc1dqr`0ibsc2df#0 nglzt~d~j~kcjt0eh#4 gmob)2pCa4eidFAniP,'Tcja1abk42ebYcA3zjE~t~ucjbk42e",[99,108,117,101]]
def RR.ws_cons(r:RR):∃ t,r.ws=nmC r.k::t:=⟨_,rfl⟩
variable{d:RCl PzK}
theorem qV(h:gO K c d vs H Q E):gP K c d (eD9 Q) (start ["puzzle","kind","number","cell","rules"] vs) H:=by
 obtain⟨t,P,L,G,h,w,g,r,z,Gy,cl,rfl,x,q⟩:=h;obtain⟨dx,p,rs,h1,h2,h3⟩:=x.ex;have hN:=x.R.F.m;ac_nf;unfold gP;rw[aB,ax];symm;refine⟨r,rfl,⟨true,rfl,iteF ?_⟩⟩;symm;unfold hitB at q;by_cases hr:r<0
 . rw[G9 hr] at q;rw[GL hr];exact iteT (q _ (GJ _))
 rw[G3 hr] at q;rw[GI hr];refine iteF ?_;rw[ax];symm;rw[b6,sH];by_cases ht:t=.clue
 . rw[G9 ht] at q;rw[GL ht];exact iteT (q _ (GJ _))
 rw[G3 ht] at q;rw[GI ht];refine iteF ?_;refine methE (k:=.Puzzle) rfl x.ok h1 (by rfl) ?_;symm;refine⟨P,L,G,h,w,g,Gy,cl,rfl,x,fun l p2 rs2 hl hp2 X=>?_⟩;have s1:Same H (upd H l (.lst (rs2.map V.ref))):=(GJ H).laid hl;generalize upd H l (.lst (rs2.map V.ref))=H1 at*;have GD:=X.len;symm;rw[ax];symm;rw[cj X.top,GG,GD];symm;by_cases hge:(Gy.length:Int)<=r
 . rw[GL hge];have e:Gy[r.toNat]? =none:=G4 #[0];rw[e] at q;exact iteT (q _ s1)
 rw[GI hge];have hlt:r.toNat<Gy.length:=by omega
 have er:Gy[r.toNat]? =some Gy[r.toNat]:=GH hlt;rw[er] at q;have ea:rs2[r.toNat]? =some rs2[r.toNat]:=GH #[0];have X1:=X.at_ _ _ _ ea er;obtain⟨ws,ews⟩:=RR.ws_cons Gy[r.toNat];rw[ews] at X1;have eix:atI (rs2.map V.ref) r=some (V.ref rs2[r.toNat]):=jI #[0] ea;refine iteF ?_;refine ixL X.top eix ?_;symm;refine⟨t,_,_,p2,ws,_,_,_,rfl,ht,X1,?_⟩;dsimp only at q
 cases hg:goesB t Gy[r.toNat].k with
 | false=>
  rw[hg,Hz] at q;exact⟨false,rfl,iteF (q _ s1)⟩
 | true=>
  rw[hg,HB] at q;refine⟨true,rfl,iteT ?_⟩;unfold aM;symm;obtain⟨dx1,W1,C1,g1,g2,g3⟩:=X1.ex;refine ixL X.top eix ?_;refine⟨_,Gy[r.toNat].k,dx1,_,rfl,X1.ok,g1,by rfl,?_⟩;refine⟨_,p2,_,_,_,_,rfl,X1,fun S hS=>?_⟩;have s2:Same H1 (upd H1 S (.lst (Gy[r.toNat].cs.map V.int))):=(GJ H1).laid hS;have eS:(upd H1 S (.lst (Gy[r.toNat].cs.map V.int))) S=↥(Gy[r.toNat].cs.map V.int):=ah;dsimp only;rw[vg eS];exact q _ (s1.trans s2)
structure IsTh(H:Hp)(T M:Addr)(t:TK)(r z s:Int)(ms:∅):Prop where
 T:H T=some (.tup [.str (tx (tkC t)),.int r,.int z,.int s,.ref M])
 M:H M=↥(ms.map V.int)
 n:ms.length<=100
variable{r z:Int}{ms:∅}
def IsTh.same{H':Hp}{T M:Addr}{s:Int}(x:IsTh H T M t r z s ms)(s':Same H H'):IsTh H' T M t r z s ms:=⟨s' _ _ x.T,s' _ _ x.M,x.n⟩
def formB(h w g:Int)(Gy:List RR)(t:TK)(r z s:Int):Bool:=(decide (0<=z)&&decide (z<h*w))&&((decide (1<=s)&&decide (s<=g))&&hitB t Gy r z)
def jX(K:Frag)(c:RCl RK)(d:RCl PzK):Sp:=fun vs H Q _=>∃ t P L G T M h w g r z s Gy cl ms,vs=[.ref P,.ref T]/\IsPz H c d P L G h w g Gy cl/\IsTh H T M t r z s ms/\∀ H',Same H H'->Q (.bl (formB h w g Gy t r z s)) H'
def gQ(K:Frag)(c:RCl RK)(d:RCl PzK):TS:=#[":iPp*abk1df#4 ad+Gep[ay&-- xcbk1df#4 h#1 D,~ica1ee"]
def jY(K:Frag)(c:RCl RK)(d:RCl PzK):TS:=#[":gmMKwp*a1ad+~XeMobQcpCa1edf#5 w]'UTbk1df#0 idFAnglzt~d'V'Wcjt0eh#2 gmMKw,'Xca2abk1df#2 eKw,'Yca2abk1df#3 eidFAngmKw,'Zcjta0abk1df#0 abk1df#1 abk1df#2 eidFAn'*cjt"]
def qW{P T M:Addr}{s:Int}{v2:Option V}(x:IsTh H T M t r z s ms)(q:∀ H',Same H H'->Q (.bl true) H'):
  gQ K c d (eD9 Q) [↑P,↑T,v2] H:=by
 have hn:=x.n;unfold gQ;symm;refine ixT x.T (v:=V.ref M) rfl ?_;symm;refine vk x.M ?_;symm;refine ixT x.T (v:=V.ref M) rfl ?_;symm;refine⟨⟨_,G6 x.M⟩,?_⟩;refine ck (xs:=ms.map V.int) (fun _=>true) (fun _=>.bl true) (by rw[GG];omega) (G6 x.M) ?_ ?_ ?_
 . intro i y H1 R hy s1 k1;exact k1 _ (GJ _)
 . intro i y H1 Q1 hy hb s1 k1;obtain⟨v,hv,rfl⟩:=bb hy;show tCall _ _ _ _ [none,⇑v] H1 Q1;symm;exact⟨v,rfl,k1 _ (GJ _)⟩
 . intro l H1 hl s1 el
   have eb:((List.range (ms.map V.int).length).filter fun _=>true).map (fun _=>V.bl true)=(List.replicate (ms.map V.int).length true).map V.bl:=by
    rw[a8,List.map_const',HX,JA]
   rw[eb] at el;refine km el ?_
   have ea:(List.replicate (ms.map V.int).length true).all id=true:=by
    rw[GZ];intro b hb;exact(JB.mp hb).2
   rw[ea];exact q _ s1
theorem vF(h:jX K c d vs H Q E):jY K c d (eD9 Q) (start ["puzzle","thought","floor"] vs) H:=by
 obtain⟨t,P,L,G,T,M,h,w,g,r,z,s,Gy,cl,ms,rfl,x,y,q⟩:=h;obtain⟨dx,p,rs,h1,h2,h3⟩:=x.ex;ac_nf;unfold jY;rw[aB,ax];symm;refine zS y.T ?_;symm;rw[zG y.T,show(([.str (tx (tkC t)),.int r,.int z,.int s,.ref M]:List V).length:Int)=5 from rfl];symm;refine ixT y.T (v:=V.str (tx (tkC t))) rfl ?_;symm;rw[A3];symm;refine methE (k:=.Puzzle) rfl x.ok h1 (by rfl) ?_;symm;refine⟨P,L,G,h,w,g,Gy,cl,rfl,x,fun p1 hp1=>?_⟩;symm;rw[ax];symm;refine ixT y.T (v:=V.int z) rfl ?_;symm;refine⟨p1,h,w,g,z,rfl,hp1,x.R.F,?_⟩;unfold formB at q
 cases hb:(decide (0<=z)&&decide (z<h*w)) with
 | false=>
  rw[hb,Hz] at q;exact⟨false,rfl,iteT (q _ (GJ _))⟩
 | true=>
  rw[hb,HB] at q;refine⟨true,rfl,iteF ?_⟩;refine ixT y.T (v:=V.int s) rfl ?_;symm;refine⟨p1,h,w,g,s,rfl,hp1,?_⟩
  cases hb2:(decide (1<=s)&&decide (s<=g)) with
  | false=>
   rw[hb2,Hz] at q;exact⟨false,rfl,iteT (q _ (GJ _))⟩
  | true=>
   rw[hb2,HB] at q;refine⟨true,rfl,iteF ?_⟩;rw[ax];symm;refine ixT y.T (v:=V.str (tx (tkC t))) rfl ?_;symm;refine ixT y.T (v:=V.int r) rfl ?_;symm;refine ixT y.T (v:=V.int z) rfl ?_;symm;refine⟨t,P,L,G,h,w,g,r,z,Gy,cl,rfl,x,fun H1 s1=>?_⟩
   cases hb3:hitB t Gy r z with
   | false=>
    rw[hb3] at q;exact⟨false,rfl,iteT (q _ s1)⟩
   | true=>
    rw[hb3] at q;refine⟨true,rfl,iteF ?_⟩;exact qW (y.same s1) fun H' s2=>q H' (s1.trans s2)
abbrev nsV(cs:List Nat):List V:=(cs.map fun(n:Nat)=>(n:Int)).map V.int
def A4(xs:List V){k:Int}(h:0<=k):cutV xs none (some k)=xs.take k.toNat:=by
 unfold cutV;have e:k=((k.toNat:Nat):Int):=by omega
 have h1:HT.sIx xs.length 0 none=0:=rfl
 have h2:HT.sIx xs.length xs.length (some k)=min k.toNat xs.length:=by
  conv=>lhs;rw[e]
  exact HT.sIx_nat ..
 rw[h1,h2];show(xs.drop 0).take _=_;rw[List.drop_zero];by_cases hk:k.toNat<=xs.length
 . rw[Jl hk];rfl
 . rw[IL #[0],Ht #[0],Ht #[0]]
def Ab{k:RK}{h w g:Int}{m:Nat}(hk:allK k=true)(k0:k≠.Rule)(hn:numK k=false)(hs:sgnK k=true)(m0:1<=(m:Int))(m1:(m:Int)<=g):RR.Ok ⟨k,0,m,[],rngL 0 (h*w)⟩ h w g:=by
 refine⟨k0,HG _,fun _=>rfl,fun _=>⟨m0,m1⟩,fun e=>?_,⟨fun e=>?_,fun _=>⟨rfl,rfl⟩⟩,fun x hx=>(by cases hx),HG _⟩
 . rw[show sgnK k=false from e] at hs;cases hs
 . rw[show allK k=false from e] at hk;cases hk
def iq:TE:=fun _ _ _=>False
def gE{X:Cx}{e:Expr}:PE X e iq:=fun _ _ _ _ _ _ h=>h.elim
theorem RR.cin22{r:RR}{h w g:Int}(O:r.Ok h w g)(F:FlOk h w g):be r.cs (h*w).toNat:=by
 obtain⟨h0,h1,w0,w1,m16,g0,g1⟩:=id F;have mpos:0<=h*w:=IG #[0] #[0]
 cases hk:allK r.k with
 | false=>
  obtain⟨c1,c2,c3,c4,e⟩:=O.cl.told hk;rw[e];refine⟨by rw[GG];omega,fun c hc=>?_⟩;obtain⟨n,hn,rfl⟩:=G1.mp hc;have:=c3 n hn;omega
 | true=>
  obtain⟨_,e⟩:=O.cl.all hk;rw[e];refine⟨by rw[mj];omega,fun c hc=>?_⟩;have:=sG hc;omega
abbrev J9:=@RR.cin22
structure Asks(H:Hp)(c:RCl RK)(d:RCl PzK)(P L G A T M:Addr)(h w g:Int)(Gy:List RR)(cl Gw:∅)(t:TK)(r z s:Int)(ms:∅):Prop where
 P:IsPz H c d P L G h w g Gy cl
 T:IsTh H T M t r z s ms
 A:H A=↥(Gw.map V.int)
 n:Gw.length=(h*w).toNat
variable{Gy:List RR}
def Asks.same{H':Hp}{P L G A T M:Addr}{h w g:Int}{cl Gw:∅}{s:Int}(x:Asks H c d P L G A T M h w g Gy cl Gw t r z s ms)(s':Same H H'):Asks H' c d P L G A T M h w g Gy cl Gw t r z s ms:=⟨x.P.same s',x.T.same s',s' _ _ x.A,x.n⟩
def kA{h w g:Int}{s:Int}(f:formB h w g Gy t r z s=true):0<=z/\z<h*w/\1<=s/\s<=g/\hitB t Gy r z=true:=by
 unfold formB at f;simp only[G7,GX] at f;exact⟨f.1.1,f.1.2,f.2.1.1,f.2.1.2,f.2.2⟩
theorem oV(ht:t≠.clue)(f:hitB t Gy r z=true):0<=r/\∃ x,Gy[r.toNat]? =some x/\goesB t x.k=true/\z∈x.cs:=by
 unfold hitB at f;by_cases hr:r<0
 . rw[G9 hr] at f;cases f
 rw[G3 hr,G3 ht] at f
 cases e:Gy[r.toNat]? with
 | none=>rw[e] at f;cases f
 | some x=>
  rw[e] at f;simp only[G7,GX] at f;exact⟨by omega,x,rfl,f.1,f.2⟩
def gc(K:Frag):Sp:=fun vs H Q _=>∃ A C Gw cs,vs=[.ref A,.ref C]/\H A=↥(Gw.map V.int)/\H C=↥(cs.map V.int)/\be cs Gw.length/\∀ l H',Same H H'->H l=none->H' l=↥((sgAt Gw cs).map V.int)->Q (.ref l) H'
def lm(K:Frag):TS:=#[":iy&--0 xc1h#1 Dbk21"]
def wF(h:gc K vs H Q E):lm K (eD9 Q) (start ["masks","cells"] vs) H:=by
 obtain⟨A,C,Gw,cs,rfl,hA,hC,⟨hn,hc⟩,q⟩:=h;ac_nf;unfold lm;symm;refine⟨⟨_,G6 hC⟩,?_⟩;refine bH (xs:=cs) (fun _=>true) (fun c=>Gw.getD c.toNat 0) #[0] (G6 hC) ?_ ?_ ?_
 . intro x H1 R hx s1 k1;exact k1 _ (GJ _)
 . intro z H1 Q1 hz hb s1 k1;show tOp cIx _ _ [none,⇑z,↑A] H1 Q1;symm;have:=hc z hz;exact ixI (s1 _ _ hA) this.1 #[0] (k1 _ (GJ _))
 . intro l H1 hl s1 el;rw[a8] at el;exact q l H1 s1 hl el
def lq(K:Frag):Sp:=fun vs H Q _=>∃(C:Addr) (ms:∅) (s:Int),vs=[.ref C,.int s]/\H C=↥(ms.map V.int)/\ms.length<=63/\∀ H',Same H H'->Q (.int ((ms.filter fun m=>stB m s).length:Nat)) H'
def lr(K:Frag):TS:=#[":ipCay&--1 xc0h#1 w,~Gca1a2e1e"]
def wG(h:lq K vs H Q E):lr K (eD9 Q) (start ["some","sign"] vs) H:=by
 obtain⟨C,ms,s,rfl,hC,hn,q⟩:=h;ac_nf;unfold lr;symm;refine⟨⟨_,G6 hC⟩,?_⟩;refine bH (xs:=ms) (fun m=>stB m s) (fun m=>m) #[0] (G6 hC) ?_ ?_ ?_
 . intro x H1 R hx s1 k1;show tB _ [none,⇑x,⇑s] H1 R;symm;exact⟨x,s,rfl,_,rfl,k1 _ (GJ _)⟩
 . intro z H1 Q1 hz hb s1 k1;show tVar 1 [none,⇑z,⇑s] H1 Q1;symm;exact k1 _ (GJ _)
 . intro l H1 hl s1 el;rw[IK] at el;rw[cj el,GG];exact q _ s1
def jZ(K:Frag):Sp:=fun vs H Q _=>∃(C:Addr) (ms:∅) (s:Int),vs=[.ref C,.int s]/\H C=↥(ms.map V.int)/\ms.length<=63/\s<=100000/\∀ H',Same H H'->Q (.int ((ms.filter fun m=>decide (woI m s=0)).length:Nat)) H'
def j2(K:Frag):TS:=#[":ipCay&--1 xc0h#1 w,'+ca1a2e1e"]
variable{K:Frag}{vs:List V}{H:Hp}{Q:VK}{E:XK}
def vG(h:jZ K vs H Q E):j2 K (eD9 Q) (start ["some","sign"] vs) H:=by
 obtain⟨C,ms,s,rfl,hC,hn,hs,q⟩:=h;ac_nf;unfold j2;symm;refine⟨⟨_,G6 hC⟩,?_⟩;refine bH (xs:=ms) (fun m=>decide (woI m s=0)) (fun m=>m) #[0] (G6 hC) ?_ ?_ ?_
 . intro x H1 R hx s1 k1;show tB _ [none,⇑x,⇑s] H1 R;symm;exact⟨x,s,rfl,hs,_,rfl,k1 _ (GJ _)⟩
 . intro z H1 Q1 hz hb s1 k1;show tVar 1 [none,⇑z,⇑s] H1 Q1;symm;exact k1 _ (GJ _)
 . intro l H1 hl s1 el;rw[IK] at el;rw[cj el,GG];exact q _ s1
def othL(cs:∅)(z:Int):∅:=cs.filter fun x=>!decide (x=z)
def cntB(cs:∅)(n m:Int)(Gw:∅)(z s:Int)(ms:∅):Bool:=
 decide (ms=[])&&(if s=m then decide (n<=(((sgAt Gw (othL cs z)).filter fun k=>decide (woI k s=0)).length:Int)) else decide ((((sgAt Gw (othL cs z)).filter fun k=>stB k m).length:Int)<n))
def gq(K:Frag)(c:RCl RK):Sp:=fun vs H Q _=>∃ k r p A M ws cs Gw ms n m z s,vs=[.ref r,.ref A,.int z,.int s,.ref M]/\IsRule H c k r p ws cs n m/\be cs Gw.length/\H A=↥(Gw.map V.int)/\H M=↥(ms.map V.int)/\s<=1000/\∀ H',Same H H'->Q (.bl (cntB cs n m Gw z s ms)) H'
def fu(K:Frag)(c:RCl RK):TS:=#[":gl,~Ica1a,~lcja0a2eeh#5 gmobsc3zjE~/~:cj0eib),'-ca5a3ezjE~v~wcj0enib<,'/ca5azjE~/~:cj0eezjE~v~wcj0e"]
def gr(K:Frag)(c:RCl RK):TS:=#[":gmobQc4veidFAn':cj"]
variable{c:RCl RK}{cs Gw:∅}{m z:Int}
def ng {k:RK} {r p A M:Addr} {ws:List (List Nat)} {n s:Int} (x:IsRule H c k r p ws cs n m) (hC:be cs Gw.length) (hA:H A=↥(Gw.map V.int)) (hs0:s<=1000)
  (q:∀ H',Same H H'->Q (.bl (if s=m then decide (n<=(((sgAt Gw (othL cs z)).filter fun k=>decide (woI k s=0)).length:Int)) else decide ((((sgAt Gw (othL cs z)).filter fun k=>stB k m).length:Int)<n))) H'):
  fu K c (eD9 Q) [↑r,↑A,⇑z,⇑s,↑M,none] H:=by
 have hC2:be (othL cs z) Gw.length:=⟨GS (Hg _ _) hC.1,fun y hy=>hC.2 y (HC.mp hy).1⟩;have GD:(sgAt Gw (othL cs z)).length<=63:=by unfold sgAt;rw[GG];exact hC2.1
 unfold fu;symm;refine⟨k,r,p,ws,cs,n,m,z,rfl,x,hC.1,fun O H1 s1 hO eO=>?_⟩;symm;refine⟨A,O,Gw,othL cs z,rfl,s1 _ _ hA,eO,hC2,fun B H2 s2 hB eB=>?_⟩;have s12:=s1.trans s2;have x2:=x.same s12;obtain⟨dx,W,C,h1,h2,h3⟩:=x2.ex;symm;rw[ax];symm;refine methE (k:=k) rfl x2.ok h1 (by rfl) ?_;symm;refine⟨r,p,ws,cs,n,m,rfl,x2,?_⟩;symm;by_cases hs:s=m
 . rw[G9 hs] at q;rw[GL hs];symm;refine⟨B,_,_,rfl,eB,GD,by omega,fun H3 s3=>?_⟩;have x3:=x2.same s3;obtain⟨dx3,W3,C3,g1,g2,g3⟩:=x3.ex;refine methE (k:=k) rfl x3.ok g1 (by rfl) ?_;symm;refine⟨r,p,ws,cs,n,m,rfl,x3,?_⟩;symm;exact q _ (s12.trans s3)
 . rw[G3 hs] at q;rw[GI hs];symm;refine methE (k:=k) rfl x2.ok h1 (by rfl) ?_;symm;refine⟨r,p,ws,cs,n,m,rfl,x2,?_⟩;symm;refine⟨B,_,_,rfl,eB,GD,fun H3 s3=>?_⟩;have x3:=x2.same s3;obtain⟨dx3,W3,C3,g1,g2,g3⟩:=x3.ex;refine methE (k:=k) rfl x3.ok g1 (by rfl) ?_;symm;refine⟨r,p,ws,cs,n,m,rfl,x3,?_⟩;symm;exact q _ (s12.trans s3)
theorem qb(h:gq K c vs H Q E):gr K c (eD9 Q) (start ["rule","masks","cell","sign","more","some"] vs) H:=by
 obtain⟨k,r,p,A,M,ws,cs,Gw,ms,n,m,z,s,rfl,x,hC,hA,hM,hs,q⟩:=h;ac_nf;unfold gr;rw[aB,ax];symm;refine⟨aV #[1],fun Z hZ=>?_⟩;obtain⟨H1,z9,s1,eZ⟩:∃ z,upd H Z (.lst [])=z/\Same H z/\z Z=↥(([]:∅).map V.int):=bn _ hZ;rw[z9];refine oQ (s1 _ _ hM) eZ ?_;unfold cntB at q
 cases hb:decide (ms=[]) with
 | false=>
  rw[hb,Hz] at q;refine⟨true,rfl,?_⟩;symm;exact q _ s1
 | true=>
  rw[hb,HB] at q;refine⟨false,rfl,?_⟩;symm;exact ng (x.same s1) hC (s1 _ _ hA) hs fun H' s2=>q H' (s1.trans s2)
def A5(t:TK):decide (tkC t=[99,111,117,110,116])=decide (t=.count):=by cases t <;> decide
variable{xs:∅}
def qc{q:Addr}{x:Int}(hq:H q=↥(xs.map V.int))(hm:x∈xs)(hn:xs.length<=900)(h:Q (.int (xs.findIdx (· ==x):Nat)) H):lH K (.ref q) [.int x] H Q:=by
 have hlt:xs.findIdx (· ==x)<xs.length:=IW ⟨x,hm,by simp⟩
 have ev:∀ a b:Int,PyData.eqv (.int a) (.int b)=decide (a=b):=fun a b=>by
  rw[PyData.eqv];by_cases h:a=b
  . subst h;simp
  . simp[h]
 refine⟨xs.map PyData.int,.int x,xs.findIdx (· ==x),.lst (G6 hq) (.ints xs),.int x,pV xs,rfl,?_,by omega,⟨PyData.int xs[xs.findIdx (· ==x)],?_,?_⟩,fun m e hm2 he=>?_,h⟩
 . rw[me];omega
 . rw[GK,GH hlt];rfl
 . have:=List.findIdx_getElem (w:=hlt);rw[ev,GX]
   simpa using this
 . have hml:m<xs.length:=by omega
   rw[GK,GH hml] at he;cases he;have:=List.not_of_lt_findIdx hm2;rw[ev,decide_eq_false_iff_not]
   simpa using this
def fv(xs:∅)(x:Int):Nat:=xs.findIdx (· ==x)
def Ac{a b:Int}(a0:0<=a)(b0:0<=b):Builtin.bitOr a b=((a.toNat||| b.toNat:Nat):Int):=by
 have f:∀{x:Int},0<=x->decide (0<= -x-1)=false/\ -(-x-1)-1=x:=fun h=>⟨GI #[0],by omega⟩;unfold Builtin.bitOr Builtin.bitAnd Builtin.bitNot;rw[(f a0).1,(f b0).1];show -(-((((-(-a-1)-1).toNat||| (-(-b-1)-1).toNat:Nat):Int))-1)-1=_;rw[(f a0).2,(f b0).2];omega
def Bx{a b:Int}(a0:0<=a)(a1:a<64)(b0:0<=b)(b1:b<64):0<=Builtin.bitOr a b/\Builtin.bitOr a b<64:=by
 have l:a.toNat||| b.toNat<2^6:=Nat.or_lt_two_pow #[0] #[0];rw[Ac a0 b0];omega
def Df:((List.range 64).all fun m=>decide (Builtin.Int.intBits (m:Int)<=6)&&decide (sgL (m:Int)=(([0,1,2,3,4,5]:List Nat).filter fun(i:Nat)=>stB (m:Int) (1+(i:Int))).map fun(i:Nat)=>1+(i:Int)))=true:=by decide+kernel
def iS(m0:0<=m)(m1:m<64):Builtin.Int.intBits m<=6/\sgL m=(([0,1,2,3,4,5]:List Nat).filter fun(i:Nat)=>stB m (1+(i:Int))).map fun(i:Nat)=>1+(i:Int):=by
 have t:=GZ.mp Df m.toNat (G0.mpr #[0]);have e1:((m.toNat:Nat):Int)=m:=by omega
 rw[e1,G7,GX,GX] at t;exact t
def yt{i:Int}(mm:∀ m∈Gw,0<=m/\m<64)(i0:0<=i)(i1:i<Gw.length):0<=Gw.getD i.toNat 0/\Gw.getD i.toNat 0<64:=by
 have hlt:i.toNat<Gw.length:=by omega
 rw[List.getD,GH hlt];exact mm _ (Hf hlt)
def qX(t:TK):decide (tkC t=[112,108,97,99,101])=decide (t=.place):=by cases t <;> decide
def xy(t:TK):decide (tkC t=[115,116,101,112])=decide (t=.step):=by cases t <;> decide
def oW(xs:List V){a b:Nat}(hab:a<=b):cutV xs (some (a:Int)) (some (b:Int))=(xs.drop a).take (b-a):=by
 have h1:HT.sIx xs.length 0 (some (a:Int))=min a xs.length:=by rw[HT.sIx_nat]
 have h2:HT.sIx xs.length xs.length (some (b:Int))=min b xs.length:=by rw[HT.sIx_nat]
 unfold cutV;rw[h1,h2];by_cases ha:a<=xs.length
 . rw[Jl ha];by_cases hb:b<=xs.length
   . rw[Jl hb]
   . rw[IL #[0],Ht (by simp),Ht (by simp;omega)]
 . rw[IL #[0],IL #[0],List.drop_length,JX #[0]];simp
def iI {k:Nat} {a:Addr} {te:TE} {fin:Addr->Hp->Prop} {σ0:St} {H1:Hp} (f:Int->Bool) (hn:xs.length<=900) (hq:SqL K H1 a (xs.map V.int))
  (he:∀ x H Q,x∈xs->Same H1 H->(∀ H',Same H H'->Q (.bl (f x)) H')->te (σ0.set k ⇑x) H Q)
  (hd:∀ l H,H1 l=none->Same H1 H->H l=↥((xs.map f).map V.bl)->fin l H):
  CompR (Itl K a) (gName k) tTrue te fin σ0 H1:=by
 refine ck (xs:=xs.map V.int) (fun _=>true) (fun i=>.bl (f (xs.getD i 0))) (by rw[GG];exact hn) hq ?_ ?_ ?_
 . intro i x H R hx s1 k1;exact k1 _ (GJ _)
 . intro i x H Q hx hb s1 h;obtain⟨z,hz,rfl⟩:=bb hx;have h2:=h;simp only[im hz] at h2;exact he z H Q (GQ hz) s1 h2
 . intro l H hl s1 el;refine hd l H hl s1 ?_;rw[el,a8,GG,Hn]
   congr 2
   exact mW xs fun x=>V.bl (f x)
def ahdL(cs:∅)(z:Int):∅:=if 0<fv cs z then [cs.getD (fv cs z-1) 0] else []
def behL(cs:∅)(z:Int):∅:=if fv cs z+1<cs.length then [cs.getD (fv cs z+1) 0] else []
def qY(h:z∈cs):fv cs z<cs.length:=IW ⟨z,h,by simp⟩
def xA{o:Int}(h:z∈cs)(ho:o∈ahdL cs z):o∈cs:=by
 have:=qY h;unfold ahdL at ho
 split at ho
 . rw[GW.mp ho,List.getD,GH #[0]];exact Hf _
 . cases ho
def xB{o:Int}(ho:o∈behL cs z):o∈cs:=by
 unfold behL at ho
 split at ho
 . rename_i h
   rw[GW.mp ho,List.getD,GH h];exact Hf _
 . cases ho
def mJ(cs:∅)(k:Nat):(cs.drop k).take 1=if k<cs.length then [cs.getD k 0] else []:=by
 by_cases h:k<cs.length
 . rw[G9 h,List.drop_eq_getElem_cons h,List.getD,GH h];rfl
 . rw[G3 h,JX #[0]];rfl
def iJ(K:Frag)(c:RCl RK):Sp:=fun vs H Q _=>∃ k r p ws cs n m z,vs=[.ref r,.int z]/\IsRule H c k r p ws cs n m/\cs.length<=63/\z∈cs/\∀ l H',Same H H'->H l=none->H' l=↥((ahdL cs z).map V.int)->Q (.ref l) H'
def lu(K:Frag)(c:RCl RK):TS:=#[":glzjE~t~ucj0eh#2 glHcG~Jc2a1eh#3 i~Fob>3df#0 Z:2SbO3df#1 S3ve"]
def wH(h:iJ K c vs H Q E):lu K c (eD9 Q) (start ["rule","cell","spots","place"] vs) H:=by
 obtain⟨k,r,p,ws,cs,n,m,z,rfl,x,hn,hz,q⟩:=h;obtain⟨dx,W,C,h1,h2,h3⟩:=x.ex;have hlt:=qY hz;ac_nf;unfold lu;rw[aB,bM];refine methE (k:=k) rfl x.ok h1 (by rfl) ?_;symm;refine⟨r,p,ws,cs,n,m,rfl,x,fun S hS=>?_⟩;obtain⟨H1,z9,s1,eS⟩:=bn (.lst (cs.map V.int)) hS;rw[z9];symm;refine⟨bD eS,?_⟩;refine qc eS hz #[0] ?_;have ei:(cs.findIdx (· ==z))=fv cs z:=rfl;rw[ei];unfold ahdL at q;generalize fv cs z=j at*;symm;by_cases hj:0<j
 . rw[G9 hj] at q;rw[GL (show(0:Int) < (j:Int) by omega)];refine iteT ?_;refine mh eS fun l hl=>?_;have ej:(j:Int)-1=((j-1:Nat):Int):=by omega
   rw[ej,oW _ #[0],show j - (j-1)=1 by omega,← JN,← Ir,mJ,G9 #[0]];exact q l _ (s1.laid hl) (s1.free hl) ah
 . rw[G3 hj] at q;rw[GI (show ¬ (0:Int) < (j:Int) by omega)];refine iteF ?_;refine⟨aV #[1],fun l hl=>?_⟩;exact q l _ (s1.laid hl) (s1.free hl) ah
def kB(K:Frag)(c:RCl RK):Sp:=fun vs H Q _=>∃ k r p ws cs n m z,vs=[.ref r,.int z]/\IsRule H c k r p ws cs n m/\cs.length<=63/\z∈cs/\∀ l H',Same H H'->H l=none->H' l=↥((behL cs z).map V.int)->Q (.ref l) H'
def nS(K:Frag)(c:RCl RK):TS:=#[":glzjE~t~ucj0eh#2 glHcG~Jc2a1eh#3 iZ:2Sbu3df#1 Sbu3df#2 "]
def Ad(h:kB K c vs H Q E):nS K c (eD9 Q) (start ["rule","cell","spots","place"] vs) H:=by
 obtain⟨k,r,p,ws,cs,n,m,z,rfl,x,hn,hz,q⟩:=h;obtain⟨dx,W,C,h1,h2,h3⟩:=x.ex;ac_nf;unfold nS;rw[aB,bM];refine methE (k:=k) rfl x.ok h1 (by rfl) ?_;symm;refine⟨r,p,ws,cs,n,m,rfl,x,fun S hS=>?_⟩;obtain⟨H1,z9,s1,eS⟩:=bn (.lst (cs.map V.int)) hS;rw[z9];symm;refine⟨bD eS,?_⟩;refine qc eS hz #[0] ?_;have ei:(cs.findIdx (· ==z))=fv cs z:=rfl;rw[ei];unfold behL at q;generalize fv cs z=j at*;symm;refine mh eS fun l hl=>?_;have ej:(j:Int)+1=((j+1:Nat):Int):=by omega
 have ek:(j:Int)+2=((j+2:Nat):Int):=by omega
 rw[ej,ek,oW _ #[0],show j+2 - (j+1)=1 by omega,← JN,← Ir,mJ];exact q l _ (s1.laid hl) (s1.free hl) ah
def nogB(s m:Int):Bool:=(sgL m).all fun x=>decide (s<=x)
def nolB(s m:Int):Bool:=(sgL m).all fun x=>decide (x<=s)
def By(m0:0<=m)(m1:m<64):(sgL m).length<=6:=by
 rw[(iS m0 m1).2,GG];exact Hg _ _
def gt(K:Frag):Sp:=fun vs H Q _=>∃ s m:Int,vs=[.int s,.int m]/\0<=m/\m<64/\∀ H',Same H H'->Q (.bl (nogB s m)) H'
def gu(K:Frag):TS:=#[":ip[ay&--0 xc,~eca1eh#1 Db(21e"]
def qd(h:gt K vs H Q E):gu K (eD9 Q) (start ["sign","mask"] vs) H:=by
 obtain⟨s,m,rfl,m0,m1,q⟩:=h;have sb:=(iS m0 m1).1;have sl:=By m0 m1;ac_nf;unfold gu;symm;refine⟨m,rfl,by omega,fun l H1 s1 hl el=>?_⟩;refine⟨l,rfl,⟨_,G6 el⟩,?_⟩;refine iI (xs:=sgL m) (fun x=>decide (s<=x)) #[0] (G6 el) ?_ ?_
 . intro x H2 Q2 hx s2 k2;show tOp _ _ _ [none,⇑x,⇑s] H2 Q2;symm;exact k2 _ (GJ _)
 . intro l2 H2 hl2 s2 el2;symm;refine km el2 ?_;rw[IJ];exact q _ (s1.trans s2)
def jb(K:Frag):Sp:=fun vs H Q _=>∃ s m:Int,vs=[.int s,.int m]/\0<=m/\m<64/\∀ H',Same H H'->Q (.bl (nolB s m)) H'
def jc(K:Frag):TS:=#[":ip[ay&--0 xc,~eca1eh#1 Db)21e"]
def um(h:jb K vs H Q E):jc K (eD9 Q) (start ["sign","mask"] vs) H:=by
 obtain⟨s,m,rfl,m0,m1,q⟩:=h;have sb:=(iS m0 m1).1;have sl:=By m0 m1;ac_nf;unfold jc;symm;refine⟨m,rfl,by omega,fun l H1 s1 hl el=>?_⟩;refine⟨l,rfl,⟨_,G6 el⟩,?_⟩;refine iI (xs:=sgL m) (fun x=>decide (x<=s)) #[0] (G6 el) ?_ ?_
 . intro x H2 Q2 hx s2 k2;show tOp _ _ _ [none,⇑x,⇑s] H2 Q2;symm;exact k2 _ (GJ _)
 . intro l2 H2 hl2 s2 el2;symm;refine km el2 ?_;rw[IJ];exact q _ (s1.trans s2)
def stpB(cs Gw:∅)(z s:Int):Bool:=((ahdL cs z).any fun o=>nogB s (Gw.getD o.toNat 0))||((behL cs z).any fun o=>nolB s (Gw.getD o.toNat 0))
def stepB(cs Gw:∅)(z s:Int)(ms:∅):Bool:=decide (ms=[])&&stpB cs Gw z s
def gR(K:Frag)(c:RCl RK):Sp:=fun vs H Q _=>∃ k r p A M ws cs Gw ms n m z s,vs=[.ref r,.ref A,.int z,.int s,.ref M]/\IsRule H c k r p ws cs n m/\be cs Gw.length/\z∈cs/\(∀ m∈Gw,0<=m/\m<64)/\H A=↥(Gw.map V.int)/\H M=↥(ms.map V.int)/\∀ H',Same H H'->Q (.bl (stepB cs Gw z s ms)) H'
def fM(K:Frag)(c:RCl RK):TS:=#[":gmwp~Kay&--13 xc,~;cja0a2eh#1 D,';ca3abk21eeidFTnip~Kay&--13 xc,~?cja0a2eh#1 D,'?ca3abk21ee"]
def gS(K:Frag)(c:RCl RK):TS:=#[":gmobQc4veidFAn'[cj"]
def nT {k:RK} {r p A M:Addr} {ws:List (List Nat)} {n s:Int} (x:IsRule H c k r p ws cs n m) (hC:be cs Gw.length) (hz:z∈cs) (mm:∀ m∈Gw,0<=m/\m<64) (hA:H A=↥(Gw.map V.int))
  (q:∀ H',Same H H'->Q (.bl (stpB cs Gw z s)) H'):
  fM K c (eD9 Q) [↑r,↑A,⇑z,⇑s,↑M] H:=by
 have la:(ahdL cs z).length<=1:=by unfold ahdL;split <;> simp
 have lb:(behL cs z).length<=1:=by unfold behL;split <;> simp
 unfold fM;rw[aB,ax];symm;refine⟨k,r,p,ws,cs,n,m,z,rfl,x,hC.1,hz,fun l H1 s1 hl el=>?_⟩;refine⟨l,rfl,⟨_,G6 el⟩,?_⟩;refine iI (xs:=ahdL cs z) (fun o=>nogB s (Gw.getD o.toNat 0)) #[0] (G6 el) ?_ ?_
 . intro o H2 Q2 ho s2 k2;have ci:=hC.2 o (xA hz ho);have mi:=yt mm ci.1 ci.2;show tCall _ _ _ _ [none,⇑o,↑A,⇑s] H2 Q2;symm;refine ixI ((s1.trans s2) _ _ hA) ci.1 ci.2 ?_;exact⟨s,_,rfl,mi.1,mi.2,k2⟩
 . intro l2 H2 hl2 s2 el2;symm;refine yj el2 ?_;have s12:=s1.trans s2;rw[Kh];unfold stpB at q;have ea:(ahdL cs z).any (id ∘ fun o=>nogB s (Gw.getD o.toNat 0))=(ahdL cs z).any fun o=>nogB s (Gw.getD o.toNat 0):=rfl;rw[ea]
   cases hb:(ahdL cs z).any fun o=>nogB s (Gw.getD o.toNat 0) with
   | true=>
    rw[hb,IX] at q;refine⟨true,rfl,iteT ?_⟩;symm;exact q _ s12
   | false=>
    rw[hb,Ia] at q;refine⟨false,rfl,iteF ?_⟩;symm;refine⟨k,r,p,ws,cs,n,m,z,rfl,x.same s12,hC.1,hz,fun l3 H3 s3 hl3 el3=>?_⟩;refine⟨l3,rfl,⟨_,G6 el3⟩,?_⟩;refine iI (xs:=behL cs z) (fun o=>nolB s (Gw.getD o.toNat 0)) #[0] (G6 el3) ?_ ?_
    . intro o H4 Q4 ho s4 k4;have ci:=hC.2 o (xB ho);have mi:=yt mm ci.1 ci.2;show tCall _ _ _ _ [none,⇑o,↑A,⇑s] H4 Q4;symm;refine ixI (((s12.trans s3).trans s4) _ _ hA) ci.1 ci.2 ?_;exact⟨s,_,rfl,mi.1,mi.2,k4⟩
    . intro l4 H4 hl4 s4 el4;symm;refine yj el4 ?_;rw[Kh];exact q _ ((s12.trans s3).trans s4)
theorem qZ(h:gR K c vs H Q E):gS K c (eD9 Q) (start ["rule","masks","cell","sign","more"] vs) H:=by
 obtain⟨k,r,p,A,M,ws,cs,Gw,ms,n,m,z,s,rfl,x,hC,hz,mm,hA,hM,q⟩:=h;ac_nf;unfold gS;rw[aB,ax];symm;refine⟨aV #[1],fun Z hZ=>?_⟩;obtain⟨H1,z9,s1,eZ⟩:∃ z,upd H Z (.lst [])=z/\Same H z/\z Z=↥(([]:∅).map V.int):=bn _ hZ;rw[z9];refine oQ (s1 _ _ hM) eZ ?_;unfold stepB at q
 cases hb:decide (ms=[]) with
 | false=>
  rw[hb,Hz] at q;refine⟨true,rfl,?_⟩;symm;exact q _ s1
 | true=>
  rw[hb,HB] at q;refine⟨false,rfl,?_⟩;symm;exact nT (x.same s1) hC hz mm (s1 _ _ hA) fun H' s2=>q H' (s1.trans s2)
section
variable{X:Cx}
def minI(ns:∅):Int:=ns.getD (argBest (fun i j=>decide (ns.getD i 0<ns.getD j 0)) (ns.length-1)) 0
def maxI(ns:∅):Int:=ns.getD (argBest (fun i j=>decide (ns.getD i 0>ns.getD j 0)) (ns.length-1)) 0
def uP:List V->Hp->VK->Prop
 | [.ref p],H,Q=>bnd (unL (H p)) fun ys=>∃ ns:∅,ys=ns.map V.int/\0<ns.length/\Q (.int (maxI ns)) H
 | _,_,_=>False
def yu(hc:X.calm=true):CallR X (.builtin "max") uP:=by
 intro Gx s σ H xs us Q I r h;unfold uP at h
 split at h
 . rename_i p
   obtain⟨ys,e,ns,rfl,hne,q⟩:=aQ h;obtain⟨u,rfl,ru⟩:=c5 r;cases ru;obtain⟨GB,rv,pl,hz⟩:=I.list (lE e);have hl:=rv.length;rw[GG] at hl
   have hlt:p<s.heap.objs.size:=by
    obtain⟨o,h1,_⟩:=pl.isList;exact GY h1
   have hval:∀(i:Nat) (v:Value),GB.toArray[i]? =some v->∃ t,v=.int (ns.getD i 0) t:=fun i v hP=>by
    have hv:GB[i]? =some v:=by simpa using hP
    obtain⟨x,hx,rx⟩:=rv.get' hv;obtain⟨b,hb,rfl⟩:∃ b,ns[i]? =some b/\V.int b=x:=by simpa using hx
    obtain⟨t,rfl⟩:=rx;exact⟨t,by simp[List.getD,hb]⟩
   have e2:GB.toArray.size=ns.length:=by rw[GT];exact hl.symm
   refine call_max_walkS (ID pl.isList ?_);refine⟨s.heap.objs.size,_,_,_,GB.toArray.size,_,_,fun i j=>decide (ns.getD i 0>ns.getD j 0),rfl,(Kb (A:=X.A.in1) (I.ok.hd hc) s.heap.objs.size p (Hk hlt) GB.toArray).toS,⟨⟨_,G8 _ rfl,rfl,rfl⟩,pl.isList.push _⟩,?_,by omega,CmpOf.ints_gt (fun i=>ns.getD i 0) hval,fun v s' hP hm=>?_⟩
   . intro b hb;show b < (s.heap.push _).objs.size;rw[Ik];rcases GU.mp hb with rfl | hb
     . exact II _
     . rcases GU.mp hb with rfl | hb
       . exact HW hlt
       . cases hb
   . obtain⟨t,rfl⟩:=hval _ v hP;refine⟨.int _,H,I.walked (l:=p) hm,⟨t,rfl⟩,?_⟩;rw[e2];exact q
 . exact h.elim
end
section
variable{H:Hp}{Q:VK}
def Dg{p:Addr}{ns:∅}(hp:H p=↥(ns.map V.int))(hn:0<ns.length)(h:Q (.int (maxI ns)) H):uP [.ref p] H Q:=by
 show bnd (unL (H p)) _;rw[hp];exact aP (a:=ns.map V.int) rfl ⟨ns,rfl,hn,h⟩
end
def mY(xs:∅):xs.filter (fun _=>true)=xs:=Iv.mpr fun _ _=>rfl
def loM(m:Int):Int:=(sgL m).getD 0 0
def hiM(m:Int):Int:=(sgL m).getD ((sgL m).length-1) 0
def Dh:((List.range 64).all fun m=>decide (m=0)||(decide (0 < (sgL (m:Int)).length/\(sgL (m:Int)).length<=6)&&(decide (minI (sgL (m:Int))=loM (m:Int)/\maxI (sgL (m:Int))=hiM (m:Int))&&decide ((1<=loM (m:Int)/\loM (m:Int)<=6)/\1<=hiM (m:Int)/\hiM (m:Int)<=6))))=true:=by decide+kernel
def BA{m:Int}(m0:0<=m)(m1:m<64)(hm:m≠0):(0 < (sgL m).length/\(sgL m).length<=6)/\(minI (sgL m)=loM m/\maxI (sgL m)=hiM m)/\(1<=loM m/\loM m<=6)/\1<=hiM m/\hiM m<=6:=by
 have t:=GZ.mp Dh m.toNat (G0.mpr #[0]);have e1:((m.toNat:Nat):Int)=m:=by omega
 rw[e1,IO,GX,G7,G7,GX,GX,GX] at t;rcases t with t | t
 . omega
 . exact t
def Di:sgL 0=[]:=by decide+kernel
def yw{xs:∅}(h:0<xs.length):atI (xs.map V.int) (-1)=some (V.int (xs.getD (xs.length-1) 0)):=by
 unfold atI ixN;rw[GG,G3 #[1],G9 #[0]];show(xs.map V.int)[((xs.length:Int)+ -1).toNat]? =_;rw[show((xs.length:Int)+ -1).toNat=xs.length-1 by omega,GK,GH #[0],List.getD,GH #[0]];rfl
def smB(os:∅)(n s:Int):Bool:=decide (0∈os)||(decide (n<s+(os.map loM).sum)||decide (s+(os.map hiM).sum<n))
def sumB(cs:∅)(n:Int)(Gw:∅)(z s:Int)(ms:∅):Bool:=decide (ms=[])&&smB (sgAt Gw (othL cs z)) n s
def jy(K:Frag):Sp:=fun vs H Q _=>∃(A:Addr) (ms:∅),vs=[.ref A]/\H A=↥(ms.map V.int)/\Q (.bl (decide (0∈ms))) H
def mK(K:Frag):TS:=#[":ibYcAdf#0 0"]
variable{K:Frag}{vs:List V}{H:Hp}{Q:VK}{E:XK}
def yx(h:jy K vs H Q E):mK K (eD9 Q) (start ["masks"] vs) H:=by
 obtain⟨A,ms,rfl,hA,q⟩:=h;ac_nf;unfold mK;symm;rw[vg hA];exact q
variable{cs:∅}
def DJ{Gw:∅}{z:Int}(hC:be cs Gw.length)(mm:∀ m∈Gw,0<=m/\m<64):∀ m∈sgAt Gw (othL cs z),0<=m/\m<64:=fun m hm=>by
 unfold sgAt at hm;obtain⟨x,hx,rfl⟩:=G1.mp hm;have ci:=hC.2 x (HC.mp hx).1;exact yt mm ci.1 ci.2
def iu(K:Frag)(c:RCl RK):Sp:=fun vs H Q _=>∃ k r p A M ws cs Gw ms n m z s,vs=[.ref r,.ref A,.int z,.int s,.ref M]/\IsRule H c k r p ws cs n m/\be cs Gw.length/\(∀ m∈Gw,0<=m/\m<64)/\H A=↥(Gw.map V.int)/\H M=↥(ms.map V.int)/\∀ H',Same H H'->Q (.bl (sumB cs n Gw z s ms)) H'
def f7(K:Frag)(c:RCl RK):TS:=#[":glbu3p~xay&-- xc5h#1 Dbk,~eca1edf#0 eh#6 glbu3p~xay&-- xc5h#1 Dbk,~eca1e']`0df#1 eh#7 i~Hb>6zjE~v~wcj0eb<7zjE~v~wcj0e",(rU fun i=>.int (-i))]
def f8(K:Frag)(c:RCl RK):TS:=#[":gl,~Ica1a,~lcja0a2eeh#5 gmw,~[ca5eidFTn'^cj"]
def iw(K:Frag)(c:RCl RK):TS:=#[":gmobQc4veidFAn{acj"]
variable{c:RCl RK}
def oZ {k:RK} {r p A M B:Addr} {ws:List (List Nat)} {os:∅} {n m z s:Int} (x:IsRule H c k r p ws cs n m) (ol:os.length<=63) (om:∀ m∈os,0<=m/\m<64) (on:¬ 0∈os) (eB:H B=↥(os.map V.int))
  (q:∀ H',Same H H'->Q (.bl (decide (n<s+(os.map loM).sum)||decide (s+(os.map hiM).sum<n))) H'):
  f7 K c (eD9 Q) [↑r,↑A,⇑z,⇑s,↑M,↑B,none,none] H:=by
 have lh:∀ y∈os,_:=fun y hy=>BA (om y hy).1 (om y hy).2 (fun e=>on (e ▸ hy));unfold f7;symm;refine⟨⟨_,G6 eB⟩,?_⟩;refine bH (xs:=os) (fun _=>true) loM #[0] (G6 eB) ?_ ?_ ?_
 . intro y H1 R hy s1 k1;exact k1 _ (GJ _)
 . intro y H1 Q1 hy hb s1 k1;have hl:=lh y hy;show tOp cIx _ _ [none,⇑y] H1 Q1;symm;refine⟨y,rfl,by have:=(iS (om y hy).1 (om y hy).2);have:=this.1;omega,fun l H2 s2 hl2 el=>?_⟩;refine ixI el #[1] #[0] ?_;exact k1 _ s2
 . intro l1 H1 hl1 s1 el1;rw[mY] at el1;symm;refine uO el1 (fun y hy=>by obtain⟨z,hz,rfl⟩:=G1.mp hy;have:=(lh z hz).2.2.1;omega) (by rw[GG];omega) ?_;symm;refine⟨⟨_,G6 (s1 _ _ eB)⟩,?_⟩;refine bH (xs:=os) (fun _=>true) hiM #[0] (G6 (s1 _ _ eB)) ?_ ?_ ?_
   . intro y H2 R hy s2 k2;exact k2 _ (GJ _)
   . intro y H2 Q2 hy hb s2 k2;have hl:=lh y hy;show tOp cIx _ _ [none,⇑y] H2 Q2;symm;refine⟨y,rfl,by have:=(iS (om y hy).1 (om y hy).2);have:=this.1;omega,fun l H3 s3 hl3 el=>?_⟩;refine ixL el (yw hl.1.1) ?_;exact k2 _ s3
   . intro l2 H2 hl2 s2 el2;rw[mY] at el2;symm;refine uO el2 (fun y hy=>by obtain⟨z,hz,rfl⟩:=G1.mp hy;have:=(lh z hz).2.2.2;omega) (by rw[GG];omega) ?_;symm;have s12:=s1.trans s2;have x2:=x.same s12;obtain⟨dx,W,C,h1,h2,h3⟩:=x2.ex;refine methE (k:=k) rfl x2.ok h1 (by rfl) ?_;symm;refine⟨r,p,ws,cs,n,m,rfl,x2,?_⟩;symm;by_cases hb:n<s+(os.map loM).sum
     . rw[GL hb,IX] at q;rw[GL hb];symm;exact q _ s12
     . rw[GI hb,Ia] at q;rw[GI hb];symm;refine methE (k:=k) rfl x2.ok h1 (by rfl) ?_;symm;refine⟨r,p,ws,cs,n,m,rfl,x2,?_⟩;symm;exact q _ s12
def o0 {k:RK} {r p A M:Addr} {ws:List (List Nat)} {Gw:∅} {n m z s:Int} (x:IsRule H c k r p ws cs n m) (hC:be cs Gw.length) (mm:∀ m∈Gw,0<=m/\m<64) (hA:H A=↥(Gw.map V.int))
  (q:∀ H',Same H H'->Q (.bl (smB (sgAt Gw (othL cs z)) n s)) H'):
  f8 K c (eD9 Q) [↑r,↑A,⇑z,⇑s,↑M,none,none,none] H:=by
 have hC2:be (othL cs z) Gw.length:=⟨GS (Hg _ _) hC.1,fun y hy=>hC.2 y (HC.mp hy).1⟩;have ol:(sgAt Gw (othL cs z)).length<=63:=by unfold sgAt;rw[GG];exact hC2.1
 have om:=DJ (z:=z) hC mm;unfold f8;symm;refine⟨k,r,p,ws,cs,n,m,z,rfl,x,hC.1,fun O H1 s1 hO eO=>?_⟩;symm;refine⟨A,O,Gw,othL cs z,rfl,s1 _ _ hA,eO,hC2,fun B H2 s2 hB eB=>?_⟩;have s12:=s1.trans s2;generalize sgAt Gw (othL cs z)=os at*;symm;rw[ax];symm;refine⟨B,os,rfl,eB,?_⟩;unfold smB at q;by_cases h0:0∈os
 . rw[GL h0,IX] at q;rw[GL h0];refine⟨true,rfl,?_⟩;symm;exact q _ s12
 . rw[GI h0,Ia] at q;rw[GI h0];refine⟨false,rfl,?_⟩;symm;exact oZ (x.same s12) ol om h0 eB fun H' s3=>q H' (s12.trans s3)
theorem sI(h:iu K c vs H Q E):iw K c (eD9 Q) (start ["rule","masks","cell","sign","more","some","least","greatest"] vs) H:=by
 obtain⟨k,r,p,A,M,ws,cs,Gw,ms,n,m,z,s,rfl,x,hC,mm,hA,hM,q⟩:=h;ac_nf;unfold iw;rw[aB,ax];symm;refine⟨aV #[1],fun Z hZ=>?_⟩;obtain⟨H1,z9,s1,eZ⟩:∃ z,upd H Z (.lst [])=z/\Same H z/\z Z=↥(([]:∅).map V.int):=bn _ hZ;rw[z9];refine oQ (s1 _ _ hM) eZ ?_;unfold sumB at q
 cases hb:decide (ms=[]) with
 | false=>
  rw[hb,Hz] at q;refine⟨true,rfl,?_⟩;symm;exact q _ s1
 | true=>
  rw[hb,HB] at q;refine⟨false,rfl,?_⟩;symm;exact o0 (x.same s1) hC mm (s1 _ _ hA) fun H' s2=>q H' (s1.trans s2)
def Ae(t:TK):decide (tkC t=[115,117,109])=decide (t=.sum):=by cases t <;> decide
def nU(K:Frag)(c:RCl RK):Sp:=dO K c .Sum
def j3(K:Frag)(c:RCl RK):TS:=#[":ibscp~xazjE~p~qcj0a1eeIj0~h"]
def Dj{xs:∅}{n:Nat}(hC:be cs n)(hn:n=xs.length)(hx:∀ x∈xs,0<=x/\x<=1000):∀ x∈sgAt xs cs,0<=x/\x<=1000:=fun x hm=>by
 unfold sgAt at hm;obtain⟨c,hc,rfl⟩:=G1.mp hm;have:=hC.2 c hc;have hl:c.toNat<xs.length:=by omega
 rw[List.getD,GH hl];exact hx _ (Hf hl)
def vH(h:nU K c vs H Q E):j3 K c (eD9 Q) (start ["self","filling"] vs) H:=by
 obtain⟨r,p,f,ws,cs,xs,n,m,h,w,g,rfl,x,ha,F,hf,hC,hx,q⟩:=h;obtain⟨dx,W,C,h1,h2,h3⟩:=x.ex;ac_nf;unfold j3;symm;refine methE rfl x.ok h1 (by rfl) ?_;symm;refine⟨r,p,f,ws,cs,xs,n,m,rfl,x,hf,hC,fun l H1 s1 hl el=>?_⟩;have GD:(sgAt xs cs).length<=100:=by unfold sgAt;rw[GG];exact GS hC.1 #[1]
 symm;refine uO el (fun y hy=>by have:=Dj hC rfl hx y hy;omega) #[0] ?_;refine fldE rfl x.ok (s1 _ _ h1) (v:=.int n) (by rfl) ?_;symm;exact q _ s1
theorem xC:∀ l:∅,risB l=(List.range (l.length-1)).all fun i=>decide (l.getD i 0<l.getD (i+1) 0)
 | []=>rfl
 | [x]=>rfl
 | x::y::r=>by
  have ih:=xC (y::r);show(decide (x<y)&&risB (y::r))=(List.range (r.length+1)).all fun i=>decide ((x::y::r).getD i 0 < (x::y::r).getD (i+1) 0);rw[ih,List.range_succ_eq_map,Jd,IJ];rfl
def kC(K:Frag)(c:RCl RK):Sp:=dO K c .Rising
def gU(K:Frag)(c:RCl RK):TS:=#[":glzjE~p~qcj0a1eh#2 ip[ay&--2 XabOpCa2edf#1 eh#1 Db<bk21bk2bu1df#1 e"]
def q5(h:kC K c vs H Q E):gU K c (eD9 Q) (start ["self","filling","signs"] vs) H:=by
 obtain⟨r,p,f,ws,cs,xs,n,m,h,w,g,rfl,x,ha,F,hf,hC,hx,q⟩:=h;obtain⟨dx,W,C,h1,h2,h3⟩:=x.ex;ac_nf;unfold gU;symm;refine methE rfl x.ok h1 (by rfl) ?_;symm;refine⟨r,p,f,ws,cs,xs,n,m,rfl,x,hf,hC,fun l H1 s1 hl el=>?_⟩;have GD:(sgAt xs cs).length<=100:=by unfold sgAt;rw[GG];exact GS hC.1 #[1]
 have q1:∀ H',Same H H'->Q (.bl (risB (sgAt xs cs))) H':=q;generalize sgAt xs cs=sg at*;symm;rw[cj el,GG];symm;refine⟨_,rfl,by omega,by omega,?_⟩;have en:((sg.length:Int)-1).toNat=sg.length-1:=by omega
 rw[en];refine pj (fun _=>true) (fun i=>.bl (decide (sg.getD i 0<sg.getD (i+1) 0))) #[0] ?_ ?_ ?_
 . intro i H2 R hi s2 k2;exact k2 _ (GJ _)
 . intro i H2 Q2 hi hb s2 k2;show tOp _ _ _ [none,⇑(0+(i:Int)),↑l] H2 Q2;rw[Iq];symm;refine ixI (s2 _ _ el) #[0] #[0] ?_;refine ixI (s2 _ _ el) #[0] #[0] ?_;symm;have e1:(i:Int).toNat=i:=by omega
   have e2:((i:Int)+1).toNat=i+1:=by omega
   rw[e1,e2];exact k2 _ (GJ _)
 . intro l2 H2 hl2 s2 el2;rw[a8] at el2;refine km (bs:=(List.range (sg.length-1)).map fun i=>decide (sg.getD i 0<sg.getD (i+1) 0)) (by rw[el2,Hn];rfl) ?_
   have e:((List.range (sg.length-1)).map fun i=>decide (sg.getD i 0<sg.getD (i+1) 0)).all id=risB sg:=by
    rw[xC,IJ];rfl
   rw[e];exact q1 _ (s1.trans s2)
def qe(l:∅)(x:Int):seenN (l++[x])=if (seenN l).1<x then(x,(seenN l).2+1) else seenN l:=by
 unfold seenN;rw[JJ];rfl
theorem ra:∀(n:Nat) (l:∅),l.length=n->0<=(seenN l).1/\(∀ y∈l,y<=(seenN l).1)/\((seenN l).1=0\/(seenN l).1∈l)/\0<=(seenN l).2/\(seenN l).2<=n
 | 0,l,hl=>by
  have:l=[]:=List.length_eq_zero_iff.mp hl;subst this;exact⟨by decide,fun y hy=>(HZ hy).elim,.inl rfl,by decide,by decide⟩
 | n+1,l,hl=>by
  have hne:l≠[]:=fun e=>by rw[e] at hl;simp at hl
  have e:=List.dropLast_concat_getLast hne;generalize l.getLast hne=x at e;generalize ed:l.dropLast=d at e;have hd:d.length=n:=by rw[← ed,List.length_dropLast,hl];rfl
  obtain⟨i1,i2,i3,i4,i5⟩:=ra n d hd;rw[← e,qe];by_cases hx:(seenN d).1<x
  . rw[G9 hx];refine⟨by show 0<=x;omega,fun y hy=>?_,.inr (by simp),by show 0<=(seenN d).2+1;omega,by show(seenN d).2+1<=_;omega⟩;rcases Hc.mp hy with hy | hy
    . have:=i2 y hy;show y<=x;omega
    . have:y=x:=by simpa using hy
      show y<=x;omega
  . rw[G3 hx];refine⟨i1,fun y hy=>?_,?_,i4,by omega⟩
    . rcases Hc.mp hy with hy | hy
      . exact i2 y hy
      . have:y=x:=by simpa using hy
        omega
    . rcases i3 with h | h
      . exact .inl h
      . exact .inr (Io _ h)
def Af{l:∅}{x:Int}(hx:1<=x):(seenN (l++[x])).2=(seenN l).2+if (∀ y∈l,y<x) then 1 else 0:=by
 obtain⟨i1,i2,i3,_,_⟩:=ra _ l rfl;rw[qe];by_cases h:∀ y∈l,y<x
 . rw[G9 h]
   have:(seenN l).1<x:=by
    rcases i3 with e | e
    . omega
    . exact h _ e
   rw[G9 this]
 . rw[G3 h];have:¬ (seenN l).1<x:=fun hlt=>h fun y hy=>by have:=i2 y hy;omega
   rw[G3 this];simp
def mZ(K:Frag)(c:RCl RK):Sp:=dO K c .Seen
def jd(K:Frag)(c:RCl RK):TS:=#[":gldf#0 h#2 gldf#0 h#3 gLxczjE~p~qcj0a1eh#4 mob>42gl4h#2 lbu3df#1 h#3 nibsc3Ij0~h"]
def uo(h:mZ K c vs H Q E):jd K c (eD9 Q) (start ["self","filling","greatest","seen","sign"] vs) H:=by
 obtain⟨r,p,f,ws,cs,xs,n,m,h,w,g,rfl,x,ha,F,hf,hC,hx,q⟩:=h;obtain⟨dx,W,C,h1,h2,h3⟩:=x.ex;ac_nf;unfold jd;symm;refine methE rfl x.ok h1 (by rfl) ?_;symm;refine⟨r,p,f,ws,cs,xs,n,m,rfl,x,hf,hC,fun l H1 s1 hl el=>?_⟩;have q1:∀ H',Same H H'->Q (.bl (decide ((seenN (sgAt xs cs)).2=n))) H':=q;generalize sgAt xs cs=sg at*;symm;refine⟨⟨_,G6 el⟩,fG (K:=K) (xs:=sg.map V.int) (fun i σ H'=>∃ cv:Option V,σ=[↑r,↑f,some (.int (seenN (sg.take i)).1),some (.int (seenN (sg.take i)).2),cv]/\H'=H1) ⟨none,rfl,rfl⟩ (fun i σ H' _ ⟨_,_,e⟩=>by rw[e];exact G6 el) ?_ ?_⟩
 . rintro i y σ H2 hy ⟨cv,rfl,rfl⟩;rw[GK] at hy
   cases e:sg[i]? with
   | none=>rw[e] at hy;cases hy
   | some z=>
    rw[e] at hy;cases hy;have et:sg.take (i+1)=sg.take i++[z]:=by rw[IH,e];rfl
    have ea:=qe (sg.take i) z;rw[← et] at ea;symm;rw[ax];symm;by_cases hz:(seenN (sg.take i)).1<z
    . rw[GL hz];rw[G9 hz] at ea;refine iteT ?_;rw[ea];exact⟨_,rfl,by first | trivial | rfl⟩
    . rw[GI hz];rw[G3 hz] at ea;refine iteF ?_;rw[ea];exact⟨_,rfl,by first | trivial | rfl⟩
 . rintro σ H2 ⟨cv,rfl,rfl⟩;rw[GG,Ix];symm;refine fldE rfl x.ok (s1 _ _ h1) (v:=.int n) (by rfl) ?_;symm;exact q1 _ s1
def lL(K:Frag)(c:RCl RK):Sp:=fun vs H Q E=>∃ k,gD K c k vs H Q E
def iy(K:Frag)(c:RCl RK):TS:=#[":iy&--10 ~PcIj0~nh#1 obscbk21Ij3~B1"]
def sJ(h:lL K c vs H Q E):iy K c (eD9 Q) (start ["self","filling"] vs) H:=by
 obtain⟨k,r,p,f,ws,cs,xs,n,m,rfl,x,hf,⟨hn,hc⟩,q⟩:=h;obtain⟨dx,W,C,h1,h2,h3⟩:=x.ex;ac_nf;unfold iy;rw[bN,xp];refine fldE rfl x.ok h1 (v:=.ref C) (by rfl) ?_;refine⟨C,rfl,⟨_,Kc h3⟩,?_⟩;refine tM (xs:=cs) (fun c=>decide (xs.getD c.toNat 0=m)) (fun c=>c) #[0] h3 ?_ ?_ ?_
 . intro z H1 R hz s1 k1;show tTest _ [none,⇑z,↑f,↑r] H1 R;symm;have:=hc z hz;refine ixI (s1 _ _ hf) this.1 #[0] ?_;refine fldE rfl x.ok (s1 _ _ h1) (v:=.int m) (by rfl) ?_;symm;exact k1 _ (GJ _)
 . intro z H1 Q1 hz hb s1 k1;exact k1 _ (GJ _)
 . intro l H1 hl s1 el;rw[IK] at el;exact q l H1 s1 hl el
def lM(K:Frag)(c:RCl RK):Sp:=dO K c .Count
def iA(K:Frag)(c:RCl RK):TS:=#[":ibscpCazjE~y~zcj0a1eeIj0~h"]
def sK(h:lM K c vs H Q E):iA K c (eD9 Q) (start ["self","filling"] vs) H:=by
 obtain⟨r,p,f,ws,cs,xs,n,m,h,w,g,rfl,x,ha,F,hf,hC,hx,q⟩:=h;obtain⟨dx,W,C,h1,h2,h3⟩:=x.ex;ac_nf;unfold iA;symm;refine methE rfl x.ok h1 (by rfl) ?_;symm;refine⟨r,p,f,ws,cs,xs,n,m,rfl,x,hf,hC,fun l H1 s1 hl el=>?_⟩;symm;rw[cj el,GG];refine fldE rfl x.ok (s1 _ _ h1) (v:=.int n) (by rfl) ?_;symm;exact q _ s1
def j4(K:Frag):Sp:=fun vs H Q _=>∃(S M:Addr) (sq ms:∅),vs=[.ref S,.ref M]/\H S=↥(sq.map V.int)/\H M=↥(ms.map V.int)/\sq.length<=100/\∀ H',Same H H'->Q (.bl (sq.all fun c=>decide (c∈ms))) H'
def j5(K:Frag):TS:=#[":ip[ay&--1 xc0h#1 DbYcA12e"]
variable{vs:List V}
def vI{K:Frag}{H:Hp}{Q:VK}{E:XK}(h:j4 K vs H Q E):j5 K (eD9 Q) (start ["some","cells"] vs) H:=by
 obtain⟨S,M,sq,ms,rfl,hS,hM,hn,q⟩:=h;ac_nf;unfold j5;symm;refine⟨⟨_,G6 hS⟩,?_⟩;refine ck (xs:=sq.map V.int) (fun _=>true) (fun i=>.bl (decide (sq.getD i 0∈ms))) (by rw[GG];omega) (G6 hS) ?_ ?_ ?_
 . intro i x H1 R hx s1 k1;exact k1 _ (GJ _)
 . intro i x H1 Q1 hx hb s1 k1;rw[GK] at hx
   cases e:sq[i]? with
   | none=>rw[e] at hx;cases hx
   | some z=>
    rw[e] at hx;cases hx;have k2:=k1 _ (GJ H1);rw[List.getD,e] at k2;show tOp (cIn K false) _ _ [none,⇑z,↑M] H1 Q1;symm;rw[vg (s1 _ _ hM)];exact k2
 . intro l H1 hl s1 el;rw[a8,GG] at el;refine km (bs:=(List.range sq.length).map fun i=>decide (sq.getD i 0∈ms)) (by rw[el,Hn];rfl) ?_
   have e:((List.range sq.length).map fun i=>decide (sq.getD i 0∈ms)).all id=sq.all fun c=>decide (c∈ms):=by
    rw[IJ,Hx,GZ,GZ];constructor
    . intro h c hc;obtain⟨i,hi,rfl⟩:=Ib.mp hc;have:=h i (G0.mpr hi);dsimp only[Function.comp,id] at this;rw[List.getD,GH hi] at this;exact this
    . intro h i hi;have hi:=G0.mp hi;have:=h _ (Hf hi);dsimp only[Function.comp,id];rw[List.getD,GH hi];exact this
   rw[e];exact q _ s1
def jk(K:Frag)(c:RCl RK):Sp:=dO K c .NoSquare
def B9{h w g:Int}(F:FlOk h w g):(squL h w).length<=16:=by
 obtain⟨h0,h1,w0,w1,m16,g0,g1⟩:=F;unfold squL;rw[GG];refine GS (Hg _ _) ?_;rw[HX];omega
def f9(K:Frag)(c:RCl RK):TS:=#[":glzjE~y~zcj0a1eh#2 i~Vp~Kay&--2 xc,{bcaIj0?eh#1 D,{cca1a2ee"]
def o3{K:Frag}{c:RCl RK}{H:Hp}{Q:VK}{E:XK}(h:jk K c vs H Q E):f9 K c (eD9 Q) (start ["self","filling","cells"] vs) H:=by
 obtain⟨r,p,f,ws,cs,xs,n,m,h,w,g,rfl,x,ha,F,hf,hC,hx,q⟩:=h;obtain⟨dx,W,C,h1,h2,h3⟩:=x.ex;ac_nf;unfold f9;symm;refine methE rfl x.ok h1 (by rfl) ?_;symm;refine⟨r,p,f,ws,cs,xs,n,m,rfl,x,hf,hC,fun l H1 s1 hl el=>?_⟩;symm;refine fldE rfl x.ok (s1 _ _ h1) (v:=.ref p) (by rfl) ?_;symm;refine⟨p,h,w,g,rfl,s1 _ _ ha,F,fun L as H2 s2 hL xL _ _ _=>?_⟩;have sl:=B9 F;refine⟨L,rfl,⟨_,G6 xL.top⟩,?_⟩;refine ck (xs:=as.map V.ref) (fun _=>true) (fun i=>.bl (((squL h w).getD i []).all fun c=>decide (c∈mkAt xs cs m))) (by rw[GG,xL.len];omega) (G6 xL.top) ?_ ?_ ?_
 . intro i x H3 R hx s3 k3;exact k3 _ (GJ _)
 . intro i y H3 Q3 hi hb s3 k3;obtain⟨b,hb,rfl⟩:=kX hi;have hlt:i < (squL h w).length:=by rw[← xL.len];exact(GN.mp hb).1
   have e:=GH hlt;have eg:(squL h w).getD i []=(squL h w)[i]:=by rw[List.getD,e];rfl
   have hq4:((squL h w)[i]).length<=100:=by
    have hm:=Hf hlt;generalize (squL h w)[i]=z at hm;unfold squL at hm;obtain⟨j,_,rfl⟩:=G1.mp hm;show 4<=100;decide
   show tCall _ _ _ _ [none,↑b,↑l] H3 Q3;symm;refine⟨b,l,_,_,rfl,s3 _ _ (xL.at_ i b _ hb e),s3 _ _ (s2 _ _ el),hq4,fun H4 s4=>?_⟩;have:=k3 H4 s4;rw[eg] at this;exact this
 . intro D H3 hD s3 eD;rw[a8,GG,xL.len] at eD;refine yj (bs:=(List.range (squL h w).length).map fun i=>((squL h w).getD i []).all fun c=>decide (c∈mkAt xs cs m)) (by rw[eD,Hn];rfl) ?_
   have e:((List.range (squL h w).length).map fun i=>((squL h w).getD i []).all fun c=>decide (c∈mkAt xs cs m)).any id=(squL h w).any fun sq=>sq.all fun c=>decide (c∈mkAt xs cs m):=by
    rw[Kh,Hx,Ij,Ij];constructor
    . rintro⟨i,hi,hh⟩;have hi:=G0.mp hi;dsimp only[Function.comp,id] at hh;have eg:(squL h w).getD i []=(squL h w)[i]:=by rw[List.getD,GH hi];rfl
      rw[eg] at hh;exact⟨_,Hf hi,hh⟩
    . rintro⟨sq,hs,hh⟩;obtain⟨i,hi,rfl⟩:=Ib.mp hs;refine⟨i,G0.mpr hi,?_⟩;dsimp only[Function.comp,id];have eg:(squL h w).getD i []=(squL h w)[i]:=by rw[List.getD,GH hi];rfl
      rw[eg];exact hh
   rw[e];symm;exact q _ ((s1.trans s2).trans s3)
def mL(K:Frag):Sp:=fun vs H Q _=>∃ a l h w g st cs,vs=[.ref a,.ref l,.int st]/\IsFl H a h w g/\0<w/\w<100/\H l=↥(cs.map V.int)/\cs.length<=63/\
 ∀(p:Addr) (H':Hp) (rs:∅),Same H H'->H p=none->H' p=↥(rs.map V.int)->rs.Pairwise (· < ·)->(∀ x,x∈rs↔RC h w cs st x)->Q (.ref p) H'
def mM(K:Frag):TS:=#[":gmobYcT21ivenglva2eh#3 gldf#0 h#4 g{dob<4pCa3egLxc,~]ca0abk34eh#5 m~QobYcA51obYcT53VHcGW3a5enlbu4df#1 h#4 ip~ba3e"]
variable{K:Frag}{vs:List V}{H:Hp}{Q:VK}{E:XK}
def yy(h:mL K vs H Q E):mM K (eD9 Q) (start ["floor","cells","start","found","place","cell"] vs) H:=by
 obtain⟨a,l,h,w,g,st,cs,rfl,ha,w0,w1,hl,hn,k⟩:=h;ac_nf;unfold mM;rw[aB,ax];symm;rw[uN hl];symm;by_cases hs:st∈cs
 . rw[G3 (by simpa using hs)];symm;refine⟨lnR rfl,fun f hf=>?_⟩
   refine⟨fun m σ H'=>∃(fs:∅) (pl:Nat) (cv:Option V),σ=[↑a,↑l,⇑st,↑f,⇑pl,cv]/\Same H H'/\H' f=↥(fs.map V.int)/\BI h w cs st fs pl/\m=cs.length-pl,
    ⟨_,[st],0,none,rfl,(GJ H).laid hf,ah,BI.start hs,rfl⟩,?_⟩
   rintro m σ H1 ⟨fs,pl,cv,rfl,s1,e1,B,rfl⟩;have hfl:=B.len;symm;rw[cj e1,GG];symm;by_cases hp:pl<fs.length
   . rw[G9 (by simpa using hp)];obtain⟨x,hx⟩:∃ x,fs[pl]? =some x:=⟨fs[pl],by simp[hp]⟩;have rx:RC h w cs st x:=B.rc x (GQ hx)
     refine⟨fun σ H'=>∃(fs:∅) (cv:Option V),σ=[↑a,↑l,⇑st,↑f,⇑((pl:Int)+1),cv]/\Same H H'/\H' f=↥(fs.map V.int)/\BI h w cs st fs (pl+1),
      fun σ' H' ⟨fs',cv',e,s',e',B'⟩=>⟨_,by omega,fs',pl+1,cv',by rw[e];rfl,s',e',B',rfl⟩,?_⟩
     symm;rw[Bv e1];refine aP (pY #[0] #[0]) ?_;symm;rw[show((pl:Int)).toNat=pl from HI _,im hx];refine⟨a,h,w,g,x,rfl,s1 _ _ ha,w0,w1,fun b H2 s2 hb e2=>?_⟩;have s12:=s1.trans s2
     refine⟨b,rfl,⟨_,G6 e2⟩,fG (K:=K) (xs:=(besL h w x).map V.int) (fun i σ H'=>∃(f2:∅) (cv:Option V),σ=[↑a,↑l,⇑st,↑f,⇑pl,cv]/\Same H H'/\H' b=↥((besL h w x).map V.int)/\H' f=↥(f2.map V.int)/\BJ h w cs st fs pl ((besL h w x).take i) f2)
      ⟨fs,cv,rfl,s12,e2,s2 _ _ e1,BJ.zero B⟩ (fun i σ H' _ ⟨_,_,_,_,q,_⟩=>G6 q) ?_ ?_⟩
     . rintro i y σ H3 hy ⟨f2,cv2,rfl,s3,eb,ef,J⟩;rw[GK] at hy
       cases hz:(besL h w x)[i]? with
       | none=>rw[hz] at hy;cases hy
       | some z=>
        rw[hz] at hy;cases hy;have hlen2:f2.length<=63:=GS (mn J.nd fun x hx=>(J.rc x hx).mem) hn;have hmem:z∈besL h w x:=GQ hz;have htake:(besL h w x).take (i+1)=(besL h w x).take i++[z]:=by rw[List.take_add_one,hz];rfl
        have J2:=J.more rx hmem;rw[← htake] at J2;symm;rw[ax];symm;rw[vg (s3 _ _ hl)];symm
        have fin:∀ H4:Hp,H4 f=↥((addC cs f2 z).map V.int)->(∀ c,c≠f->H4 c=H3 c)->∃(f2:∅) (cv:Option V),[some (V.ref a),↑l,⇑st,↑f,⇑pl,⇑z]=[↑a,↑l,⇑st,↑f,⇑pl,cv]/\Same H H4/\H4 b=↥((besL h w x).map V.int)/\H4 f=↥(f2.map V.int)/\BJ h w cs st fs pl ((besL h w x).take (i+1)) f2:=fun H4 q1 q2=>
         ⟨_,_,rfl,fun c o e=>by rw[q2 c (av e hf)];exact s3 c o e,by rw[q2 b (fun e=>by rw[e] at hb;rw[e1] at hb;cases hb)];exact eb,q1,J2⟩
        by_cases c1:z∈cs
        . rw[G9 (by simpa using c1)];rw[uN ef];by_cases c2:z∈f2
          . simp only[c2,decide_true,Bool.not_true,G3 GM,V.bl.injEq,exists_eq_left'];refine fin H3 ?_ fun _ _=>rfl;rw[ef,addC,G3 (fun q=>q.2 c2)]
          . simp only[c2,decide_false,Bool.not_false,Kf,V.bl.injEq,exists_eq_left'];symm;refine⟨bD ef,?_⟩;rw[d9 ef];refine⟨by rw[GG];exact ay #[0],fin _ ?_ fun c hc=>aj hc⟩;rw[ah,addC,G9 ⟨c1,c2⟩];simp
        . rw[G3 (by simpa using c1)]
          try simp only[G3 GM]
          refine fin H3 ?_ fun _ _=>rfl;rw[ef,addC,G3 (fun q=>c1 q.1)]
     . rintro σ H3 ⟨f2,cv2,rfl,s3,eb,ef,J⟩;rw[GG,Ix] at J;symm;exact⟨f2,cv2,rfl,s3,ef,J.done B hx⟩
   . rw[G3 (by simpa using hp)];symm;unfold cO;dsimp only;rw[e1];refine⟨fs,rfl,by omega,fun rs p hpn pm ps=>?_⟩;refine k p _ rs (s1.laid hpn) (s1.free hpn) ah (zP pm ps B.nd) fun x=>?_;rw[pm.mem_iff];exact B.done hp x
 . rw[G9 (by simpa using hs)];symm;refine⟨HG _,fun p hp=>k p _ [] ((GJ H).laid hp) hp ah .nil fun x=>⟨(fun q=>nomatch q),fun r=>absurd (RC.st r) hs⟩⟩
variable{h w:Int}{ms:∅}
def joinB_iff:joinB h w ms=true↔(ms=[]\/(ms.Pairwise (· < ·)/\∀ x∈ms,RC h w ms (ms.headD 0) x)):=by
 unfold joinB;exact @JC _ (Classical.propDecidable _)
def ie(K:Frag)(c:RCl RK):Sp:=fun vs H Q E=>∃ k,gH K c k vs H Q E
def fw(K:Frag)(c:RCl RK):TS:=#[":i~Hbsc1vebsc,{ecaIj0?a1abk1df#0 e1"]
variable{c:RCl RK}
theorem nh(h:ie K c vs H Q E):fw K c (eD9 Q) (start ["self","cells"] vs) H:=by
 obtain⟨k,r,p,C,ws,cs,ms,n,m,h,w,g,rfl,x,ha,F,hC,hn,q⟩:=h;obtain⟨h0,h1',w0,w1,m16,g0,g1⟩:=id F;obtain⟨dx,W,C',h1,h2,h3⟩:=x.ex;ac_nf;unfold fw;symm;refine⟨lnR rfl,fun l hl=>?_⟩;obtain⟨H1,z9,s1,el⟩:∃ z,upd H l (.lst [])=z/\Same H z/\z l=↥(([]:∅).map V.int):=bn _ hl;rw[z9];refine qC (s1 _ _ hC) el ?_;symm
 cases ms with
 | nil=>
  have e:joinB h w []=true:=joinB_iff.mpr (.inl rfl);have:=q _ s1;rw[e] at this;rw[GL rfl,G9 rfl];exact this
 | cons z zs=>
  rw[GI (by simp),G3 #[1]];refine fldE rfl x.ok (s1 _ _ h1) (v:=.ref p) (by rfl) ?_;symm;refine ixL (s1 _ _ hC) (v:=V.int z) (fk (j:=0) rfl) ?_;symm;refine⟨p,C,h,w,g,z,z::zs,rfl,s1 _ _ ha,by omega,by omega,s1 _ _ hC,hn,fun u H2 rs s2 hu eu rise mem=>?_⟩;refine qC eu (s2 _ _ (s1 _ _ hC)) ?_
  have e:decide (rs=z::zs)=joinB h w (z::zs):=by
   rw[Hx,GX,joinB_iff];constructor
   . intro e;subst e;exact .inr ⟨rise,fun x hx=>(mem x).mp hx⟩
   . rintro(e | ⟨rise2,all⟩)
     . cases e
     . exact qG rise rise2 fun y=>⟨fun hy=>((mem y).mp hy).mem,fun hy=>(mem y).mpr (all y hy)⟩
  rw[e];exact q _ (s1.trans s2)
def kD(K:Frag)(c:RCl RK):Sp:=dO K c .Joined
def gW(K:Frag)(c:RCl RK):TS:=#[":izjE~^'acj0azjE~y~zcj0a1ee"]
variable{xs cs:∅}{m:Int}
def Ag(hn:cs.length<=63):(mkAt xs cs m).length<=63:=by
 unfold mkAt;exact GS (Hg _ _) hn
def rb(h:kD K c vs H Q E):gW K c (eD9 Q) (start ["self","filling"] vs) H:=by
 obtain⟨r,p,f,ws,cs,xs,n,m,h,w,g,rfl,x,ha,F,hf,hC,hx,q⟩:=h;obtain⟨dx,W,C,h1,h2,h3⟩:=x.ex;ac_nf;unfold gW;symm;refine methE rfl x.ok h1 (by rfl) ?_;symm;refine methE rfl x.ok h1 (by rfl) ?_;symm;refine⟨r,p,f,ws,cs,xs,n,m,rfl,x,hf,hC,fun l H1 s1 hl el=>?_⟩;exact⟨r,p,l,ws,cs,_,n,m,h,w,g,rfl,x.same s1,s1 _ _ ha,F,el,Ag hC.1,fun H2 s2=>q _ (s1.trans s2)⟩
def gd(K:Frag)(c:RCl RK):Sp:=fZ K c .Ring
def dQ(K:Frag)(c:RCl RK):TS:=#[":ibscpCay&--1 xc,~]caIj0?a2eh#1 obYcA121edf#2 "]
def Ca(h w c:Int):(besL h w c).length<=4:=by
 unfold besL
 repeat rw[Ha]
 split <;> split <;> split <;> split <;> simp
def lw(h:gd K c vs H Q E):dQ K c (eD9 Q) (start ["self","cells","cell"] vs) H:=by
 obtain⟨r,p,C,ws,cs,ms,n,m,h,w,g,z,rfl,x,ha,F,hC,hn,q⟩:=h;obtain⟨h0,h1',w0,w1,m16,g0,g1⟩:=id F;obtain⟨dx,W,C',h1,h2,h3⟩:=x.ex;ac_nf;unfold dQ;symm;refine fldE rfl x.ok h1 (v:=.ref p) (by rfl) ?_;symm;refine⟨p,h,w,g,z,rfl,ha,by omega,by omega,fun b H2 s2 hb e2=>?_⟩;have bl:=Ca h w z;refine⟨b,rfl,⟨_,G6 e2⟩,?_⟩;refine bH (xs:=besL h w z) (fun y=>decide (y∈ms)) (fun y=>y) #[0] (G6 e2) ?_ ?_ ?_
 . intro y H3 R hy s3 k3;show tTest _ [none,⇑y,↑C] H3 R;symm;rw[vg (s3 _ _ (s2 _ _ hC))];exact⟨_,rfl,k3 _ (GJ _)⟩
 . intro y H3 Q3 hy hb s3 k3;exact k3 _ (GJ _)
 . intro l H3 hl s3 el;rw[IK] at el;symm;rw[cj el,GG];symm;have:=q _ (s2.trans s3);unfold twoB at this
   have e:decide ((((besL h w z).filter fun y=>decide (y∈ms)).length:Int)=2)=decide (((besL h w z).filter fun y=>decide (y∈ms)).length=2):=by
    rw[Hx,GX,GX];omega
   rw[e];exact this
def m3(K:Frag)(c:RCl RK):Sp:=dO K c .Ring
def je(K:Frag)(c:RCl RK):TS:=#[":glzjE~y~zcj0a1eh#2 iPzjE~^'acj0a2ep[ay&--20 xc2h#1 DzjE{f{gcj3a2a1ee"]
theorem up(h:m3 K c vs H Q E):je K c (eD9 Q) (start ["self","filling","cells"] vs) H:=by
 obtain⟨r,p,f,ws,cs,xs,n,m,h,w,g,rfl,x,ha,F,hf,hC,hx,q⟩:=h;obtain⟨dx,W,C,h1,h2,h3⟩:=x.ex;ac_nf;unfold je;symm;refine methE rfl x.ok h1 (by rfl) ?_;symm;refine⟨r,p,f,ws,cs,xs,n,m,rfl,x,hf,hC,fun l H1 s1 hl el=>?_⟩;have hml:=Ag (xs:=xs) (m:=m) hC.1;have q1:∀ H',Same H H'->Q (.bl (joinB h w (mkAt xs cs m)&&(mkAt xs cs m).all (twoB h w (mkAt xs cs m)))) H':=q;generalize mkAt xs cs m=ms at*;symm;refine methE rfl x.ok (s1 _ _ h1) (by rfl) ?_;symm;refine⟨r,p,l,ws,cs,ms,n,m,h,w,g,rfl,x.same s1,s1 _ _ ha,F,el,hml,fun H2 s2=>?_⟩;have s12:=s1.trans s2;symm
 cases hj:joinB h w ms with
 | false=>
  rw[hj] at q1
  first | exact iteF (q1 _ s12) | exact q1 _ s12
 | true=>
  rw[hj] at q1;refine iteT ?_;refine⟨⟨_,G6 (s2 _ _ el)⟩,?_⟩;refine ck (xs:=ms.map V.int) (fun _=>true) (fun i=>.bl (twoB h w ms (ms.getD i 0))) (by rw[GG];omega) (G6 (s2 _ _ el)) ?_ ?_ ?_
  . intro i y H3 R hy s3 k3;exact k3 _ (GJ _)
  . intro i y H3 Q3 hy hb s3 k3;rw[GK] at hy
    cases e:ms[i]? with
    | none=>rw[e] at hy;cases hy
    | some z=>
     rw[e] at hy;cases hy;have s13:=s12.trans s3;have eg:ms.getD i 0=z:=by rw[List.getD,e];rfl
     show aM _ _ _ _ _ _ [none,⇑z,↑l,↑r] H3 Q3;refine methE rfl x.ok (s13 _ _ h1) (by rfl) ?_;symm;refine⟨r,p,l,ws,cs,ms,n,m,h,w,g,z,rfl,x.same s13,s13 _ _ ha,F,s3 _ _ (s2 _ _ el),hml,fun H4 s4=>?_⟩;have:=k3 H4 s4;rw[eg] at this;exact this
  . intro l2 H3 hl2 s3 el2;rw[a8,GG] at el2;refine km (bs:=(List.range ms.length).map fun i=>twoB h w ms (ms.getD i 0)) (by rw[el2,Hn];rfl) ?_
    have e:((List.range ms.length).map fun i=>twoB h w ms (ms.getD i 0)).all id=ms.all (twoB h w ms):=by
     have em:(List.range ms.length).map (fun i=>ms.getD i 0)=ms:=by
      refine List.ext_getElem (by simp) fun i h1 h2=>?_;simp at h1;simp[List.getD,GH h1]
     have e2:(List.range ms.length).map (fun i=>twoB h w ms (ms.getD i 0))=ms.map (twoB h w ms):=by
      rw[← em,Hn,em];rfl
     rw[e2,IJ];rfl
    rw[e];exact q1 _ (s12.trans s3)
variable{α:Type}
def A6(F:Int->α)(ss:∅):(List.range ss.length).map (fun i=>F (ss.getD i 0))=ss.map F:=by
 refine Id fun i=>?_;rw[GK,GK];by_cases h:i<ss.length
 . rw[HM h,GH h];simp[List.getD,h]
 . rw[G4 (by simpa using h),G4 #[0]];rfl
variable{i:Nat}
def tP{α:Type}{l:List α}{x:α}(h:l[i]? =some x):l.take (i+1)=l.take i++[x]:=by
 rw[IH,h];rfl
variable{l:Addr}{as:List Addr}{GC:List ∅}
def IsLL.app{bs:List Addr}{yss:List ∅}(x:IsLL H l as GC)(nl:l∉as)(nb:l∉bs)(len:bs.length=yss.length)(at2:∀(j:Nat) (a:Addr) (ys:∅),bs[j]? =some a->yss[j]? =some ys->H a=↥(ys.map V.int)):
  IsLL (upd H l (.lst (as.map V.ref++bs.map V.ref))) l (as++bs) (GC++yss):=by
 have hx:=x.len;refine⟨by rw[ah,HY],by rw[Ha,Ha,x.len,len],fun j a ys h1 h2=>?_⟩;by_cases hj:j<as.length
 . rw[Ho hj] at h1;rw[Ho #[0]] at h2;have ne:a≠l:=fun z=>nl (z ▸ GQ h1);rw[aj ne];exact x.at_ j a ys h1 h2
 . rw[Hu #[0]] at h1;rw[Hu #[0]] at h2;have ne:a≠l:=fun z=>nb (z ▸ GQ h1);rw[aj ne];exact at2 _ a ys h1 (by rw[hx];exact h2)
def IsLL.get{a:Addr}(x:IsLL H l as GC)(h:as[i]? =some a):∃ xs,GC[i]? =some xs/\H a=↥(xs.map V.int):=by
 have hi:=(GN.mp h).1;have e:GC[i]? =some (GC[i]'(by have:=x.len;omega)):=GH _;exact⟨_,e,x.at_ i a _ h e⟩
def Ah{n:Nat}(h:n<=1100):n<sizeLine:=HU h #[1]
variable{p:Addr}
def Ai{q:Addr}{xs ys:List V}(hp:H p=↥xs)(hq:H q=↥ys)(hn:xs.length+ys.length<=1100)(h:Q .non (upd H p (.lst (xs++ys)))):oP (.ref p) [.ref q] H Q:=by
 show bnd (unM (H p)) _;rw[hp];show bnd (unM (H q)) _;rw[hq];exact⟨Hs (Ah hn),h⟩
def Dk(f:α->V)(xs:List α)(k:Nat):cutV (xs.map f) none (some (k:Int))=(xs.take k).map f:=by
 unfold cutV;rw[HT.sIx_nat,HT.sIx_none,GG,List.drop_zero,Nat.sub_zero,Ir];by_cases h:k<=xs.length
 . rw[Jl h]
 . rw[IL #[0],Ht (by rw[GG];exact GP _),Ht (by rw[GG];omega)]
def xD(m:Int):(sgL m).length<=Builtin.Int.intBits m:=by
 unfold sgL;rw[GG];refine GS (Hg _ _) ?_;rw[HX];exact GP _
def prodW(ms:∅):Nat:=ms.foldl (fun p m=>p*(sgL m).length) 1
variable{x:Int}
def rd(f:α->Int->α)(a:α)(h:xs[i]? =some x):(xs.take (i+1)).foldl f a=f ((xs.take i).foldl f a) x:=by
 rw[IH,h,JJ];rfl
def sL(K:Frag):Sp:=fun vs H Q _=>∃ p ms,vs=[.ref p]/\H p=↥(ms.map V.int)/\(∀ m∈ms,Builtin.Int.intBits m<=900)/\∀ H',Same H H'->Q (.int ((prodW ms:Nat):Int)) H'
def sM(K:Frag):TS:=#[":gldf#1 h#1 gLxc0h#2 lbJ1pCa,~eca2eeh#1 i1"]
def Cb(h:sL K vs H Q E):sM K (eD9 Q) (start ["masks","product","mask"] vs) H:=by
 obtain⟨p,ms,rfl,hp,hb,k⟩:=h;ac_nf;unfold sM;symm;refine⟨⟨_,G6 hp⟩,fG (K:=K) (xs:=ms.map V.int) (fun i σ H'=>∃ mv:Option V,σ=[↑p,⇑((prodW (ms.take i):Nat):Int),mv]/\Same H H') ⟨none,rfl,GJ H⟩ (fun i σ H' _ ⟨_,_,s⟩=>G6 (s _ _ hp)) ?_ ?_⟩
 . rintro i x σ H1 hx ⟨mv,rfl,s1⟩;obtain⟨m,hm,rfl⟩:=bb hx;have hbm:=hb m (GQ hm);symm;refine⟨m,rfl,hbm,fun l H2 s2 hl el=>?_⟩;symm;rw[cj el];symm;have h1:=xD m;rw[GG];refine⟨.inr ⟨by omega,by omega⟩,⇑m,?_,s1.trans s2⟩;unfold prodW;rw[rd _ _ hm,Int.natCast_mul]
 . rintro σ H1 ⟨mv,rfl,s1⟩;symm;rw[Ht (by rw[GG];exact GP _)] at*;exact k _ s1
def setL(xs:∅)(z s:Int):∅:=(List.range xs.length).map fun(i:Nat)=>if (i:Int)=z then s else xs.getD i 0
variable{z s:Int}
def mN:(setL xs z s).length=xs.length:=by unfold setL;simp
def xE(s0:0<=s)(s6:s<=6)(hx:∀ x∈xs,0<=x/\x<=6):∀ x∈setL xs z s,0<=x/\x<=6:=fun x h=>by
 unfold setL at h;obtain⟨i,hi,rfl⟩:=G1.mp h;have hlt:=G0.mp hi;have hb:=hx _ (Hf hlt);have eg:xs.getD i 0=xs[i]:=by rw[List.getD,GH hlt];rfl
 rw[eg]
 split
 . exact⟨s0,s6⟩
 . exact hb
def gX(K:Frag):Sp:=fun vs H Q _=>∃ F xs z s,vs=[.ref F,.int z,.int s]/\H F=↥(xs.map V.int)/\xs.length<=100/\∀ l H',Same H H'->H l=none->H' l=↥((setL xs z s).map V.int)->Q (.ref l) H'
def j6(K:Frag):TS:=#[":iy&---12 {hca0e'bc#2 ~Ah#1 ~Ah#2 'cD~Fobsc1342"]
def vJ(h:gX K vs H Q E):j6 K (eD9 Q) (start ["filling","cell","sign"] vs) H:=by
 obtain⟨F,xs,z,s,rfl,hF,hl,q⟩:=h;ac_nf;unfold j6;symm;refine⟨F,rfl,⟨_,G6 hF⟩,?_⟩;refine yg (xs:=xs.map V.int) (fun _=>true) (fun i=>.int (if (i:Int)=z then s else xs.getD i 0)) (by rw[GG];omega) #[1] (G6 hF) ?_ ?_ ?_
 . intro i x H1 R hx s1 k1;exact k1 _ (GJ _)
 . intro i x H1 Q1 hx hb s1 k1;obtain⟨y,hy,rfl⟩:=bb hx;have q1:=k1 _ (GJ H1);rw[im hy] at q1;show tIf _ _ _ [none,⇑(i:Int),⇑y,⇑z,⇑s] H1 Q1;unfold tIf;symm;by_cases h0:(i:Int)=z
   . rw[GL h0];rw[G9 h0] at q1;exact iteT q1
   . rw[GI h0];rw[G3 h0] at q1;exact iteF q1
 . intro l H1 hl1 s1 el;rw[a8,GG] at el;refine q l H1 s1 hl1 ?_;rw[el];unfold setL;rw[Hn];rfl
def extS(fss:List ∅)(z:Int)(ss:∅):List ∅:=fss.flatMap fun f=>ss.map fun s=>setL f z s
theorem qf(z:Int)(ss:∅):∀ fss:List ∅,(extS fss z ss).length=fss.length*ss.length
 | []=>by simp[extS]
 | f::r=>by
  have ih:=qf z ss r;unfold extS at ih ⊢;rw[List.flatMap_cons,Ha,ih,GG,He,Kg,Nat.add_comm]
def A7(fs gs:List ∅)(z:Int)(ss:∅):extS (fs++gs) z ss=extS fs z ss++extS gs z ss:=by
 unfold extS;rw[List.flatMap_append]
def A8(f:∅)(z:Int)(ss:∅):extS [f] z ss=ss.map fun s=>setL f z s:=by
 unfold extS;simp
def mem_extS{f:∅}{fs:List ∅}{ss:∅}:f∈extS fs z ss↔∃ a∈fs,∃ s∈ss,f=setL a z s:=by
 unfold extS;rw[List.mem_flatMap];constructor
 . rintro⟨a,ha,h⟩;obtain⟨s,hs,rfl⟩:=G1.mp h;exact⟨a,ha,s,hs,rfl⟩
 . rintro⟨a,ha,s,hs,rfl⟩;exact⟨a,ha,G1.mpr ⟨s,hs,rfl⟩⟩
def Aj{H0 H1 H2:Hp}{m:Addr}{bs:List Addr}{yss:List ∅}(x:IsLL H1 l as GC)(nl:l∉as)(s0:Same H0 H1)(fr:∀ b∈as,H0 b=none)(s1:Same H1 H2)(nw:NewAt H1 H2 m bs (yss.map fun ys=>.lst (ys.map V.int))):
  IsLL (upd H2 l (.lst (as.map V.ref++bs.map V.ref))) l (as++bs) (GC++yss)/\l∉as++bs/\(∀ b∈as++bs,H0 b=none):=by
 have nb:l∉bs:=fun h=>by have:=nw.fr l h;rw[x.top] at this;cases this
 refine⟨?_,?_,?_⟩
 . refine(x.same s1).app nl nb (by rw[nw.len,GG]) fun j a ys h1 h2=>?_;exact nw.at_ j a _ h1 (by rw[GK,h2];rfl)
 . intro h;rcases Hc.mp h with h | h
   . exact nl h
   . exact nb h
 . intro b h;rcases Hc.mp h with h | h
   . exact fr b h
   . exact s0.free (nw.fr b h)
def ga(K:Frag):Sp:=fun vs H Q _=>∃ F S as fss z ss,vs=[.ref F,.int z,.ref S]/\IsLL H F as fss/\H S=↥(ss.map V.int)/\fss.length*ss.length<=1100/\ss.length<=100/\(∀ f∈fss,f.length<=16)/\
 ∀(l:Addr) (bs:List Addr) (H':Hp),Same H H'->H l=none->IsLL H' l bs (extS fss z ss)->Q (.ref l) H'
def gb(K:Frag):TS:=#[":glveh#3 gLxc0h#4 VHcG{i3ay&--14 xc2h#1 D,'dca3a2a1eei3"]
def o4(h:ga K vs H Q E):gb K (eD9 Q) (start ["fillings","cell","signs","found","filling"] vs) H:=by
 obtain⟨F,S,as,fss,z,ss,rfl,x,hS,hn,hs,hf,q⟩:=h;ac_nf;unfold gb;symm;refine⟨lnR rfl,fun l hl=>?_⟩;obtain⟨H1,z9,s1,el⟩:=bn (.lst []) hl;rw[z9];refine⟨⟨_,G6 (s1 _ _ x.top)⟩,?_⟩
 refine fG (K:=K) (xs:=as.map V.ref) (fun i σ H'=>∃(v:Option V) (bs:List Addr),σ=[↑F,⇑z,↑S,↑l,v]/\Same H H'/\IsLL H' l bs (extS (fss.take i) z ss)/\l∉bs/\∀ b∈bs,H b=none)
  ⟨none,[],rfl,s1,⟨el,rfl,fun j a xs h1=>by simp at h1⟩,by simp,fun b hb=>nomatch hb⟩ (fun i σ H' _ ⟨_,_,_,s,_⟩=>s.seq (G6 x.top)) ?_ ?_
 . rintro i y σ H2 hy ⟨v,bs,rfl,s2,x2,nl,fr⟩;obtain⟨f,hfa,rfl⟩:=kX hy;obtain⟨xs,ex,ef⟩:=x.get hfa;have hxl:=hf xs (GQ ex);symm;refine⟨bD x2.top,⟨_,G6 (s2 _ _ hS)⟩,?_⟩;refine yh (xs:=ss.map V.int) (fun _=>true) (fun i=>.lst ((setL xs z (ss.getD i 0)).map V.int)) (by rw[GG];omega) (G6 (s2 _ _ hS)) ?_ ?_ ?_
   . intro i x H R hx s1 k1;exact k1 _ (GJ _)
   . intro i x H3 Q3 hi hb s3 k3;obtain⟨t,ht,rfl⟩:=bb hi;rw[im ht] at k3;show tCall _ _ _ _ [none,⇑t,⇑z,↑f] H3 Q3;symm;exact⟨f,xs,z,t,rfl,(s2.trans s3) _ _ ef,by omega,fun l H' s' hl el=>k3 l H' s' hl el⟩
   . intro m cs H3 hm s3 em nw;rw[a8,GG,A6 (fun s=>HO.lst ((setL xs z s).map V.int))] at nw
     have nw2:NewAt H2 H3 m cs ((extS [xs] z ss).map fun ys=>.lst (ys.map V.int)):=by
      rw[A8,Hn];exact nw
     have hb:bs.length+cs.length<=1100:=by
      have l1:=x2.len;rw[qf,HV] at l1;have l2:=nw.len;rw[GG] at l2;have hi:=(GN.mp ex).1;have e1:min i fss.length=i:=by omega
      rw[e1] at l1;have:=Jg ss.length (show i+1<=fss.length by omega);rw[Kg] at this;omega
     refine Ai (s3 _ _ x2.top) em (by rw[GG,GG];exact hb) ?_;obtain⟨z1,z2,z3⟩:=Aj x2 nl s2 fr s3 nw2;refine⟨_,bs++cs,rfl,(s2.trans s3).own hl,?_,z2,z3⟩;rw[tP ex,A7];exact z1
 . rintro σ H2 ⟨v,bs,rfl,s2,x2,nl,fr⟩;symm;have e:fss.take (as.map V.ref).length=fss:=Ht (by rw[GG,x.len];exact GP _);rw[e] at x2;exact q l bs H2 s2 hl x2
def wfold(Gw:∅)(rest:∅)(fs:List ∅):List ∅:=rest.foldl (fun fs o=>extS fs o (sgL (Gw.getD o.toNat 0))) fs
def wfill(Gw rest:∅)(z s:Int):List ∅:=wfold Gw rest [setL (List.replicate Gw.length 0) z s]
noncomputable def waysB (k:RK) (h w:Int) (cs:∅) (n m:Int) (Gw:∅) (z s:Int) (ms:∅):Bool:=
 decide (ms=[])&&(decide (prodW (sgAt Gw (othL cs z))<=32)&&(decide (0∈sgAt Gw (othL cs z))||!((wfill Gw (othL cs z) z s).any fun f=>hoB k h w cs n m f)))
theorem tQ(Gw:∅):∀(rest:∅) (fs:List ∅),(wfold Gw rest fs).length=(sgAt Gw rest).foldl (fun p m=>p*(sgL m).length) fs.length
 | [],_=>rfl
 | o::r,fs=>by
  unfold wfold sgAt;rw[HR,Hd,HR];have:=tQ Gw r (extS fs o (sgL (Gw.getD o.toNat 0)));unfold wfold sgAt at this;rw[this,qf]
theorem vK:∀(ms:∅) (n:Nat),(∀ m∈ms,1<=(sgL m).length)->n<=ms.foldl (fun p m=>p*(sgL m).length) n
 | [],_,_=>GP _
 | m::r,n,h=>by
  rw[HR];exact GS (Nat.le_mul_of_pos_right n (h m GV)) (vK r _ fun x hx=>h x (GR _ hx))
def yz(i:Nat)(h:∀ m∈ms,1<=(sgL m).length):prodW (ms.take i)<=prodW ms:=by
 have e:prodW ms=(ms.drop i).foldl (fun p m=>p*(sgL m).length) (prodW (ms.take i)):=by
  unfold prodW;rw[← JJ,List.take_append_drop]
 rw[e];exact vK _ _ fun x hx=>h x (List.mem_of_mem_drop hx)
theorem mO{n:Nat}{Gw:∅}(hm:∀ m∈Gw,0<=m/\m<64):∀(rest:∅) (fs:List ∅),(∀ f∈fs,f.length=n/\∀ x∈f,0<=x/\x<=6)->∀ f∈wfold Gw rest fs,f.length=n/\∀ x∈f,0<=x/\x<=6
 | [],_,h,f,hf=>h f hf
 | o::r,fs,h,f,hf=>by
  refine mO hm r (extS fs o (sgL (Gw.getD o.toNat 0))) (fun g hg=>?_) f hf;obtain⟨a,ha,s,hs,rfl⟩:=mem_extS.mp hg;have h1:=h a ha
  have hs6:1<=s/\s<=6:=by
   by_cases hlt:o.toNat<Gw.length
   . have e:Gw.getD o.toNat 0=Gw[o.toNat]:=by rw[List.getD,GH hlt];rfl
     rw[e] at hs;have hb:=hm _ (Hf hlt);rw[(iS hb.1 hb.2).2] at hs;obtain⟨j,hj,rfl⟩:=G1.mp hs;have:=(HC.mp hj).1;simp at this;omega
   . have e:Gw.getD o.toNat 0=0:=by rw[List.getD,G4 #[0]];rfl
     rw[e,Di] at hs;cases hs
  exact⟨by rw[mN];exact h1.1,xE #[0] hs6.2 h1.2⟩
def gY(K:Frag)(c:RCl RK):Sp:=fun vs H Q _=>∃ k r p A M ws cs Gw ms n m z s h w g,vs=[.ref r,.ref A,.int z,.int s,.ref M]/\IsRule H c k r p ws cs n m/\IsFl H p h w g/\FlOk h w g/\be cs Gw.length/\Gw.length<=16/\(∀ m∈Gw,0<=m/\m<64)/\1<=s/\s<=6/\H A=↥(Gw.map V.int)/\H M=↥(ms.map V.int)/\∀ H',Same H H'->Q (.bl (waysB k h w cs n m Gw z s ms)) H'
def fN(K:Frag)(c:RCl RK):TS:=#[":gLxc7h#9 mwzjE{j{kcj0a9eidFAnidFT"]
def fO(K:Frag)(c:RCl RK):TS:=#[":glva,'dcab{lvadf#0 epCa1ea2a3eeh#7 gLxc5h#8 l,{mca7a8a,~ecabk18eeh#7 {ncj"]
def gZ(K:Frag)(c:RCl RK):TS:=#[":gl,~lcja0a2eh#5 gl,~Ica1a5eh#6 gmMobQc4veob>,{oca6edf#32 idFAngmw,~[ca6eidFTn{pcj"]
structure Wys(H:Hp)(c:RCl RK)(k:RK)(r p A:Addr)(ws:List (List Nat))(cs Gw:∅)(n m h w g:Int):Prop where
 R:IsRule H c k r p ws cs n m
 fl:IsFl H p h w g
 F:FlOk h w g
 ci:be cs Gw.length
 ml:Gw.length<=16
 mo:∀ m∈Gw,0<=m/\m<64
 hA:H A=↥(Gw.map V.int)
variable{Gw:∅}
def Wys.same{H':Hp}{k:RK}{r A:Addr}{ws:List (List Nat)}{n g:Int}(x:Wys H c k r p A ws cs Gw n m h w g)(s:Same H H'):Wys H' c k r p A ws cs Gw n m h w g:=⟨x.R.same s,s _ _ x.fl,x.F,x.ci,x.ml,x.mo,s _ _ x.hA⟩
def yA {k:RK} {r A F:Addr} {ws:List (List Nat)} {n g:Int} {v2 v3 v4 v5 v6 v8:Option V} {bs:List Addr} {fss:List ∅} (X:Wys H c k r p A ws cs Gw n m h w g) (x:IsLL H F bs fss) (hf:∀ f∈fss,f.length=Gw.length/\∀ x∈f,0<=x/\x<=6)
  (q:∀ H',Same H H'->Q (.bl (!(fss.any fun f=>hoB k h w cs n m f))) H'):
  fN K c (eD9 Q) [↑r,↑A,v2,v3,v4,v5,v6,↑F,v8,none] H:=by
 obtain⟨dx,W,C,h1,h2,h3⟩:=X.R.ex;have hxl:=x.len;unfold fN;symm;refine⟨⟨_,G6 x.top⟩,?_⟩;refine fG (K:=K) (xs:=bs.map V.ref) (fun i σ H'=>∃ v9:Option V,σ=[↑r,↑A,v2,v3,v4,v5,v6,↑F,v8,v9]/\Same H H'/\((fss.take i).any fun f=>hoB k h w cs n m f)=false) ⟨none,rfl,GJ _,rfl⟩ (fun i σ H' _ ⟨_,_,s,_⟩=>s.seq (G6 x.top)) ?_ ?_
 . rintro i y σ H1 hy ⟨v9,rfl,s1,hno⟩;obtain⟨b,hb,rfl⟩:=kX hy;obtain⟨f,ef,eb⟩:=x.get hb;have hfm:=GQ ef;obtain⟨hfl,hfx⟩:=hf f hfm;have X1:=X.same s1;symm;rw[ax];symm;refine methE (k:=k) rfl X.R.ok (s1 _ _ h1) (by rfl) ?_;symm;refine⟨r,p,b,ws,cs,f,n,m,h,w,g,rfl,X1.R,X1.fl,X1.F,s1 _ _ eb,by rw[hfl];exact X1.ci,fun y hy=>by have:=hfx y hy;omega,fun H2 s2=>?_⟩;refine⟨_,rfl,?_⟩
   cases hh:hoB k h w cs n m f with
   | true=>
    refine iteT ?_;have e:(fss.any fun f=>hoB k h w cs n m f)=true:=Ij.mpr ⟨f,hfm,hh⟩;have q1:=q _ (s1.trans s2);rw[e] at q1;exact q1
   | false=>
    refine iteF ⟨_,rfl,s1.trans s2,?_⟩;rw[tP ef,List.any_append,hno,Ia]
    simpa using hh
 . rintro σ H1 ⟨v9,rfl,s1,hno⟩;rw[Ht (by rw[GG,hxl];exact GP _)] at hno;symm;rw[hno] at q;exact q _ s1
def yB {k:RK} {r A R:Addr} {ws:List (List Nat)} {n g:Int} {v4 v6:Option V} (X:Wys H c k r p A ws cs Gw n m h w g) (hR:H R=↥((othL cs z).map V.int)) (s0:1<=s) (s6:s<=6) (hw:prodW (sgAt Gw (othL cs z))<=32) (h0:0∉sgAt Gw (othL cs z))
  (q:∀ H',Same H H'->Q (.bl (!((wfill Gw (othL cs z) z s).any fun f=>hoB k h w cs n m f))) H'):
  fO K c (eD9 Q) [↑r,↑A,⇑z,⇑s,v4,↑R,v6,none,none,none] H:=by
 have hml:=X.ml;unfold fO;symm;refine⟨lnR rfl,fun Z hZ=>?_⟩;obtain⟨H1,z9,s1,eZ⟩:=bn (.lst [V.int 0]) hZ;rw[z9];rw[cj (s1 _ _ X.hA),GG];refine CW eZ #[0] #[0] (by show(1:Nat)<=1;decide) fun N hN=>?_;have s2:Same H1 (upd H1 N (.lst (List.replicate ((Gw.length:Nat):Int).toNat [V.int 0]).flatten)):=(GJ H1).laid hN
 have eN:(upd H1 N (.lst (List.replicate ((Gw.length:Nat):Int).toNat [V.int 0]).flatten)) N=↥((List.replicate Gw.length (0:Int)).map V.int):=by
  rw[ah,JA];simp
 generalize upd H1 N (.lst (List.replicate ((Gw.length:Nat):Int).toNat [V.int 0]).flatten)=H2 at*;have s12:=s1.trans s2;refine⟨N,_,z,s,rfl,eN,by simp;omega,fun b H3 s3 hb eb=>?_⟩;have s13:=s12.trans s3;symm;refine⟨lnR rfl,fun F hF=>?_⟩;have s4:Same H3 (upd H3 F (.lst [V.ref b])):=(GJ H3).laid hF
 have xF:IsLL (upd H3 F (.lst [V.ref b])) F [b] [setL (List.replicate Gw.length 0) z s]:=by
  refine⟨ah,rfl,fun j a xs e1 e2=>?_⟩;have hj:j=0:=by have:=(GN.mp e1).1;simp at this;omega
  subst hj;cases e1;cases e2;exact s4 _ _ eb
 generalize upd H3 F (.lst [V.ref b])=H4 at*;have s14:=s13.trans s4
 have base:∀ f∈([setL (List.replicate Gw.length 0) z s]:List ∅),f.length=Gw.length/\∀ x∈f,0<=x/\x<=6:=fun f hf=>by
  rw[GW.mp hf];exact⟨by rw[mN];simp,xE #[0] s6 fun x hx=>by rw[(JB.mp hx).2];omega⟩
 have pos:∀ mm∈sgAt Gw (othL cs z),1<=(sgL mm).length:=fun mm hm=>by
  have hne:mm≠0:=fun e=>h0 (e ▸ hm);unfold sgAt at hm;obtain⟨o,ho,rfl⟩:=G1.mp hm;have hoc:o∈cs:=(HC.mp ho).1;have hi:=X.ci.2 o hoc;have hlt:o.toNat<Gw.length:=by omega
  have e:Gw.getD o.toNat 0=Gw[o.toNat]:=by rw[List.getD,GH hlt];rfl
  rw[e] at hne ⊢;have hb:=X.mo _ (Hf hlt);exact(BA hb.1 hb.2 hne).1.1
 refine⟨⟨_,G6 (s14 _ _ hR)⟩,?_⟩;refine fG (K:=K) (xs:=(othL cs z).map V.int) (fun i σ H'=>∃(F:Addr) (bs:List Addr) (v8:Option V),σ=[↑r,↑A,⇑z,⇑s,v4,↑R,v6,↑F,v8,none]/\Same H H'/\IsLL H' F bs (wfold Gw ((othL cs z).take i) [setL (List.replicate Gw.length 0) z s])) ⟨F,[b],none,rfl,s14,xF⟩ (fun i σ H' _ ⟨_,_,_,_,s,_⟩=>s.seq (G6 hR)) ?_ ?_
 . rintro i y σ H5 hy ⟨F,bs,v8,rfl,s5,x5⟩;obtain⟨o,ho,rfl⟩:=bb hy;have hom:=GQ ho;have hoc:o∈cs:=(HC.mp hom).1;have hi:=X.ci.2 o hoc;have hlt:o.toNat<Gw.length:=by omega
   have e:Gw.getD o.toNat 0=Gw[o.toNat]:=by rw[List.getD,GH hlt];rfl
   have hb:=X.mo _ (Hf hlt);have sb:=iS hb.1 hb.2;symm;refine ixI (s5 _ _ X.hA) #[0] #[0] ?_;symm;rw[e];refine⟨_,rfl,by omega,fun S H6 s6' hS eS=>?_⟩;symm;have hsl:(sgL Gw[o.toNat]).length<=6:=GS (xD _) sb.1;refine⟨F,S,bs,_,o,_,rfl,x5.same s6',eS,?_,by omega,fun f hf=>by have:=(mO X.mo _ _ base f hf).1;omega,fun l cs2 H7 s7 hl x7=>?_⟩
   . rw[tQ];have h1:=yz i pos
     have e2:(sgAt Gw ((othL cs z).take i)).foldl (fun p m=>p*(sgL m).length) ([setL (List.replicate Gw.length 0) z s]:List ∅).length=prodW ((sgAt Gw (othL cs z)).take i):=by
      unfold prodW sgAt;rw[Ir];rfl
     rw[e2];have h3:prodW ((sgAt Gw (othL cs z)).take i)*(sgL Gw[o.toNat]).length<=32*6:=Nat.mul_le_mul #[0] hsl;omega
   . refine⟨l,cs2,_,rfl,(s5.trans s6').trans s7,?_⟩
     have e3:wfold Gw ((othL cs z).take (i+1)) [setL (List.replicate Gw.length 0) z s]=extS (wfold Gw ((othL cs z).take i) [setL (List.replicate Gw.length 0) z s]) o (sgL Gw[o.toNat]):=by
      unfold wfold;rw[rd _ _ ho,e]
     rw[e3];exact x7
 . rintro σ H5 ⟨F,bs,v8,rfl,s5,x5⟩;rw[Ht (by rw[GG];exact GP _)] at x5;exact yA (X.same s5) x5 (mO X.mo _ _ base) fun H' s'=>q H' (s5.trans s')
def re(h:gY K c vs H Q E):gZ K c (eD9 Q) (start ["rule","masks","cell","sign","more","rest","some","fillings","other","filling"] vs) H:=by
 obtain⟨k,r,p,A,M,ws,cs,Gw,ms,n,m,z,s,h,w,g,rfl,hR,hp,F,ci,ml,mk,s0,s6,hA,hM,q⟩:=h;have X:Wys H c k r p A ws cs Gw n m h w g:=⟨hR,hp,F,ci,ml,mk,hA⟩;have hcl:cs.length<=63:=by have:=ci.1;omega
 ac_nf;unfold gZ;symm;refine⟨k,r,p,ws,cs,n,m,z,rfl,hR,hcl,fun R H1 s1 hR1 eR=>?_⟩;have eR2:H1 R=↥((othL cs z).map V.int):=eR;symm;refine⟨A,R,Gw,othL cs z,rfl,s1 _ _ hA,eR2,⟨GS (Hg _ _) ci.1,fun x hx=>ci.2 x (HC.mp hx).1⟩,fun S H2 s2 hS eS=>?_⟩;have s12:=s1.trans s2;dsimp only;rw[ax];symm;refine⟨lnR rfl,fun e he=>?_⟩;obtain⟨H3,z9,s3,ee⟩:∃ z,upd H2 e (.lst [])=z/\Same H2 z/\z e=↥(([]:∅).map V.int):=bn _ he;rw[z9];have s13:=s12.trans s3;refine oQ (s13 _ _ hM) ee ?_;refine⟨_,rfl,?_⟩;unfold waysB at q;by_cases hm:ms=[]
 . rw[GL hm] at q ⊢;rw[HB] at q;refine iteF ?_;symm;refine⟨S,_,rfl,s3 _ _ eS,fun x hx=>?_,fun H4 s4=>?_⟩
   . unfold sgAt at hx;obtain⟨o,ho,rfl⟩:=G1.mp hx;have hi:=ci.2 o (HC.mp ho).1;have hlt:o.toNat<Gw.length:=by omega
     have e:Gw.getD o.toNat 0=Gw[o.toNat]:=by rw[List.getD,GH hlt];rfl
     rw[e];have hb:=mk _ (Hf hlt);have:=(iS hb.1 hb.2).1;omega
   . have s14:=s13.trans s4;symm;by_cases hw:prodW (sgAt Gw (othL cs z))<=32
     . rw[GL hw,HB] at q;rw[GI #[0]];refine iteF ?_;rw[ax];symm;refine⟨S,_,rfl,(s3.trans s4) _ _ eS,?_⟩;refine⟨_,rfl,?_⟩;by_cases h0:0∈sgAt Gw (othL cs z)
       . rw[GL h0] at q ⊢;rw[IX] at q;exact iteT (q _ s14)
       . rw[GI h0] at q ⊢;rw[Ia] at q;refine iteF ?_;exact yB (X.same s14) (((s2.trans s3).trans s4) _ _ eR2) s0 s6 hw h0 fun H' s'=>q H' (s14.trans s')
     . rw[GI hw,Hz] at q;rw[GL #[0]];exact iteT (q _ s14)
 . rw[GI hm,Hz] at q;rw[GI hm];exact iteT (q _ s13)
def Cc:((List.range 64).all fun m=>(List.range 6).all fun j=>(List.range 6).all fun i=>!(decide (woI (m:Int) (1+(j:Int))=0)&&stB (m:Int) (1+(i:Int)))||decide (i=j))=true:=by decide+kernel
def Dl(m0:0<=m)(m1:m<64)(s0:1<=s)(s6:s<=6)(x0:1<=x)(x6:x<=6)(h1:woI m s=0)(h2:stB m x=true):x=s:=by
 have t:=GZ.mp (GZ.mp (GZ.mp Cc m.toNat (G0.mpr #[0])) (s-1).toNat (G0.mpr #[0])) (x-1).toNat (G0.mpr #[0]);have e1:((m.toNat:Nat):Int)=m:=by omega
 have e2:1+(((s-1).toNat:Nat):Int)=s:=by omega
 have e3:1+(((x-1).toNat:Nat):Int)=x:=by omega
 rw[e1,e2,e3,GL h1,h2] at t;simp at t;omega
def A9{a b:Int}(a0:0<=a)(b0:0<=b):Builtin.bitOr a b=((a.toNat||| b.toNat:Nat):Int):=Ac a0 b0
def Ba:((List.range 64).all fun m=>(List.range 6).all fun i=>decide (stB (m:Int) (1+(i:Int))=Nat.testBit m i)&&decide (decide (1+(i:Int)∈sgL (m:Int))=Nat.testBit m i))=true:=by decide+kernel
def qg(m0:0<=m)(m1:m<64)(x0:1<=x)(x6:x<=6):stB m x=m.toNat.testBit (x-1).toNat/\decide (x∈sgL m)=m.toNat.testBit (x-1).toNat:=by
 have t:=GZ.mp (GZ.mp Ba m.toNat (G0.mpr #[0])) (x-1).toNat (G0.mpr #[0]);rw[G7,GX,GX,show((m.toNat:Nat):Int)=m by omega,show 1+(((x-1).toNat:Nat):Int)=x by omega] at t;exact t
def mayN(Gw:∅)(m:Int)(cs:∅):Nat:=((sgAt Gw cs).filter fun k=>stB k m).length
def onlN(Gw:∅)(m:Int)(cs:∅):Nat:=((sgAt Gw cs).filter fun k=>decide (woI k m=0)).length
def sN(m0:0<=m)(x:Int):x∈sgL m↔stB m x=true:=by
 unfold sgL;rw[G1];constructor
 . rintro⟨i,hi,rfl⟩;exact(HC.mp hi).2
 . intro h;have h':=h;unfold stB at h';rw[G7,G7] at h';have a:=Hy h'.1;have b:=Hy h'.2.1;refine⟨(x-1).toNat,HC.mpr ⟨G0.mpr #[0],?_⟩,by omega⟩;rw[show 1+(((x-1).toNat:Nat):Int)=x by omega];exact h
def DK{a b:Int}(a0:0<=a)(a1:a<64)(b0:0<=b)(b1:b<64)(x0:1<=x)(x6:x<=6):stB (Builtin.bitOr a b) x=(stB a x||stB b x):=by
 have o:=Bx a0 a1 b0 b1;rw[(qg o.1 o.2 x0 x6).1,(qg a0 a1 x0 x6).1,(qg b0 b1 x0 x6).1,A9 a0 b0,HI,Nat.testBit_or]
def yC{k:RK}{g:Int}{n m:Nat}{ns:List Nat}(F:FlOk h w g)(ne:ns≠[])(lt:∀ c∈ns,(c:Int)<h*w)(nd:ns.Nodup)(len:ns.length<=16)(hk:allK k=false)(k0:k≠.Rule)(n0:n<=99)(nz:numK k=false->n=0)(m0:sgnK k=true->1<=(m:Int)/\(m:Int)<=g)(mz:sgnK k=false->m=0):
  RR.Ok ⟨k,n,m,ns,ns.map fun(n:Nat)=>(n:Int)⟩ h w g:=by
 have m16:=F.m;refine⟨k0,n0,nz,m0,mz,⟨fun _=>⟨ne,len,lt,nd,rfl⟩,fun e=>?_⟩,fun x hx=>?_,len⟩
 . rw[show allK k=false from hk] at e;cases e
 . have:=lt x hx;omega
def Cd(t:TK):decide (tkC t=[112,97,105,114])=decide (t=.pair):=by cases t <;> decide
def RestP(Q:VK)(H:Hp)(rl:∅):Prop:=∀(l:Addr) (H':Hp) (xs:∅),Same H H'->H l=none->H' l=↥(xs.map V.int)->xs.Perm rl->xs.Pairwise (· <=·)->Q (.ref l) H'
def kE{H1:Hp}{ns rl:∅}(s1:Same H H1)(hp:H1 p=↥(ns.map V.int))(hn:ns.length<64)(pm:ns.Perm rl)(q:RestP Q H rl):cO [.ref p] H1 Q:=
 AQ hp hn fun ns' l hl pp sr=>q l _ ns' (s1.trans ((GJ H1).laid hl)) (s1.free hl) ah (pp.trans pm) sr
def K39(t:TK):Prop:=t=.count\/t=.sum\/t=.step\/t=.ways
noncomputable def vL (h w:Int) (x:RR) (Gw:∅) (t:TK) (z s:Int) (ms:∅):Bool:=match t with
 | .count=>cntB x.cs x.n x.m Gw z s ms
 | .sum=>sumB x.cs x.n Gw z s ms
 | .step=>stepB x.cs Gw z s ms
 | _=>waysB x.k h w x.cs x.n x.m Gw z s ms
noncomputable def iT (h w:Int) (Gy:List RR) (Gw:∅) (t:TK) (r z s:Int) (ms:∅):Bool:=match Gy[r.toNat]? with
  | none=>false
  | some x=>vL h w x Gw t z s ms
def BB{t:TK}(ht:K39 t):t≠.clue:=by rcases ht with rfl | rfl | rfl | rfl <;> decide
def dR(K:Frag)(c:RCl RK)(d:RCl PzK):Sp:=fun vs H Q _=>∃ P L G A T M h w g Gy cl Gw t r z s ms,vs=[.ref P,.ref A,.ref T]/\Asks H c d P L G A T M h w g Gy cl Gw t r z s ms/\(t=.count\/t=.sum\/t=.ways)/\(∀ m∈Gw,0<=m/\m<64)/\formB h w g Gy t r z s=true/\∀ H',Same H H'->Q (.bl (iT h w Gy Gw t r z s ms)) H'
def dS(K:Frag)(c:RCl RK)(d:RCl PzK):TS:=#[":glbkzt~d~j~kcjt0ebk2df#1 h#3 gmobscbk2df#0 dqr`0i,{qcja3a1abk2df#2 abk2df#3 abk2df#4 engmobscbk2df#0 dqr`1i,{rcja3a1abk2df#2 abk2df#3 abk2df#4 eni,{scja3a1abk2df#2 abk2df#3 abk2df#4 e",[99,111,117,110,116],[115,117,109]]
variable{d:RCl PzK}
def lx(h:dR K c d vs H Q E):dS K c d (eD9 Q) (start ["puzzle","masks","thought","rule"] vs) H:=by
 obtain⟨P,L,G,A,T,M,h,w,g,Gy,cl,Gw,t,r,z,s,ms,rfl,X,ht,mo,f,q⟩:=h;obtain⟨dx,p,rs,h1,h2,h3⟩:=X.P.ex;obtain⟨z0,z1,s0,s1',GF⟩:=kA f;have hg:=X.P.R.F.g1;have hmm:=X.P.R.F.m;obtain⟨r0,y,ey,hgo,hz⟩:=oV (by rcases ht with rfl | rfl | rfl <;> decide) GF;have O:=X.P.R.ok y (GQ ey);have hin:be y.cs Gw.length:=by rw[X.n];exact J9 O X.P.R.F
 ac_nf;unfold dS;rw[aB,bM,dN];refine methE (k:=.Puzzle) rfl X.P.ok h1 (by rfl) ?_;symm;refine⟨P,L,G,h,w,g,Gy,cl,rfl,X.P,fun l p2 rs2 hl hp2 Y=>?_⟩;have s2:Same H (upd H l (.lst (rs2.map V.ref))):=(GJ H).laid hl;generalize upd H l (.lst (rs2.map V.ref))=H1 at*;have hlt:=(GN.mp ey).1;have GD:=Y.len;have ea:rs2[r.toNat]? =some rs2[r.toNat]:=GH #[0]
 have fin:∀ H',Same H1 H'->Q (.bl (vL h w y Gw t z s ms)) H':=fun H' s3=>by
  have q1:=q H' (s2.trans s3);unfold iT at q1;rw[ey] at q1;exact q1
 dsimp only;refine ixT (s2 _ _ X.T.T) (v:=V.int r) rfl ?_;refine ixL Y.top (jI r0 ea) ?_;symm;rw[ax];symm;refine ixT (s2 _ _ X.T.T) (v:=V.str (tx (tkC t))) rfl ?_;symm;rw[b6,A5];rcases ht with rfl | rfl | rfl
 . rw[GL rfl];refine iteT ?_;symm;refine ixT (s2 _ _ X.T.T) (v:=V.int z) rfl ?_;symm;refine ixT (s2 _ _ X.T.T) (v:=V.int s) rfl ?_;symm;refine ixT (s2 _ _ X.T.T) (v:=V.ref M) rfl ?_;symm;exact⟨_,_,p2,A,M,_,y.cs,Gw,ms,_,_,z,s,rfl,Y.at_ _ _ _ ea ey,hin,s2 _ _ X.A,s2 _ _ X.T.M,by omega,fin⟩
 . rw[GI #[1]];refine iteF ?_;rw[ax];symm;refine ixT (s2 _ _ X.T.T) (v:=V.str (tx (tkC .sum))) rfl ?_;symm;rw[b6,Ae,GL rfl];refine iteT ?_;symm;refine ixT (s2 _ _ X.T.T) (v:=V.int z) rfl ?_;symm;refine ixT (s2 _ _ X.T.T) (v:=V.int s) rfl ?_;symm;refine ixT (s2 _ _ X.T.T) (v:=V.ref M) rfl ?_;symm;exact⟨_,_,p2,A,M,_,y.cs,Gw,ms,_,_,z,s,rfl,Y.at_ _ _ _ ea ey,hin,mo,s2 _ _ X.A,s2 _ _ X.T.M,fin⟩
 . rw[GI #[1]];refine iteF ?_;rw[ax];symm;refine ixT (s2 _ _ X.T.T) (v:=V.str (tx (tkC .ways))) rfl ?_;symm;rw[b6,Ae,GI #[1]];refine iteF ?_;symm;refine ixT (s2 _ _ X.T.T) (v:=V.int z) rfl ?_;symm;refine ixT (s2 _ _ X.T.T) (v:=V.int s) rfl ?_;symm;refine ixT (s2 _ _ X.T.T) (v:=V.ref M) rfl ?_;symm;exact⟨_,_,p2,A,M,_,y.cs,Gw,ms,_,_,z,s,h,w,g,rfl,Y.at_ _ _ _ ea ey,hp2,X.P.R.F,hin,by rw[X.n];omega,mo,by omega,by omega,s2 _ _ X.A,s2 _ _ X.T.M,fin⟩
def eK(K:Frag)(c:RCl RK)(d:RCl PzK):Sp:=fun vs H Q _=>∃ P L G A T M h w g Gy cl Gw r z s ms,vs=[.ref P,.ref A,.ref T]/\Asks H c d P L G A T M h w g Gy cl Gw .step r z s ms/\(∀ m∈Gw,0<=m/\m<64)/\formB h w g Gy .step r z s=true/\∀ H',Same H H'->Q (.bl (iT h w Gy Gw .step r z s ms)) H'
def eQ(K:Frag)(c:RCl RK)(d:RCl PzK):TS:=#[":glbk2df#0 h#3 glbk2df#2 h#4 glbk2df#3 h#5 glbk2df#4 h#6 gmobsc3dqr`0i~fnglbkzt~d~j~kcjt0ebk2df#1 h#7 gmobsc3dqr`1i~fngmobsc3dqr`2i~fngmobsc3dqr`3i,{tcja7a1a4a5a6eni~f",[99,108,117,101],[111,110,108,121],[112,108,97,99,101],[115,116,101,112]]
def mP(h:eK K c d vs H Q E):eQ K c d (eD9 Q) (start ["puzzle","masks","thought","kind","cell","sign","more","rule"] vs) H:=by
 obtain⟨P,L,G,A,T,M,h,w,g,Gy,cl,Gw,r,z,s,ms,rfl,X,mm,f,q⟩:=h;obtain⟨dx,p,rs,h1,h2,h3⟩:=X.P.ex;obtain⟨z0,z1,s0,s1',GF⟩:=kA f;ac_nf;unfold eQ;symm;refine ixT X.T.T (v:=V.str (tx (tkC .step))) rfl ?_;symm;refine ixT X.T.T (v:=V.int z) rfl ?_;symm;refine ixT X.T.T (v:=V.int s) rfl ?_;symm;refine ixT X.T.T (v:=V.ref M) rfl ?_;symm;rw[ax];symm;rw[b6,sH,GI (show ¬ TK.step=TK.clue by decide)];obtain⟨r0,y,ey,_,hz⟩:=oV #[1] GF;refine iteF ?_;refine methE (k:=.Puzzle) rfl X.P.ok h1 (by rfl) ?_;symm;refine⟨P,L,G,h,w,g,Gy,cl,rfl,X.P,fun l p2 rs2 hl hp2 Y=>?_⟩;have s2:Same H (upd H l (.lst (rs2.map V.ref))):=(GJ H).laid hl;generalize upd H l (.lst (rs2.map V.ref))=H1 at*;have hlt:=(GN.mp ey).1;have GD:=Y.len;have ea:rs2[r.toNat]? =some rs2[r.toNat]:=GH #[0];dsimp only;refine ixT (s2 _ _ X.T.T) (v:=V.int r) rfl ?_;refine ixL Y.top (jI r0 ea) ?_;symm;rw[ax];symm;rw[b6,xx,GI (show ¬ TK.step=TK.only by decide)];refine iteF ?_;rw[ax];symm;rw[b6,qX,GI (show ¬ TK.step=TK.place by decide)];refine iteF ?_;rw[ax];symm;rw[b6,xy,GL rfl];refine iteT ?_;symm;have O:=X.P.R.ok y (GQ ey);have hin:be y.cs Gw.length:=by rw[X.n];exact J9 O X.P.R.F
 refine⟨_,_,p2,A,M,_,y.cs,Gw,ms,_,_,z,s,rfl,Y.at_ _ _ _ ea ey,hin,hz,mm,s2 _ _ X.A,s2 _ _ X.T.M,fun H' s3=>?_⟩;have q1:=q H' (s2.trans s3);unfold iT at q1;rw[ey] at q1;exact q1
def j7(K:Frag)(c:RCl RK)(d:RCl PzK):Sp:=fun vs H Q _=>∃ P L G A T M h w g Gy cl Gw t r z s ms,vs=[.ref P,.ref A,.ref T]/\Asks H c d P L G A T M h w g Gy cl Gw t r z s ms/\K39 t/\(∀ m∈Gw,0<=m/\m<64)/\formB h w g Gy t r z s=true/\∀ H',Same H H'->Q (.bl (iT h w Gy Gw t r z s ms)) H'
def j8(K:Frag)(c:RCl RK)(d:RCl PzK):TS:=#[":gmw]'eAbk2df#0 i,{ucjta0a1a2engmw]'fAbk2df#0 i,{vcjta0a1a2eni~f"]
theorem vM(h:j7 K c d vs H Q E):j8 K c d (eD9 Q) (start ["puzzle","masks","thought"] vs) H:=by
 obtain⟨P,L,G,A,T,M,h,w,g,Gy,cl,Gw,t,r,z,s,ms,rfl,X,ht,mo,f,q⟩:=h;ac_nf;unfold j8;rw[aB,ax];symm;refine ixT X.T.T (v:=V.str (tx (tkC t))) rfl ?_;symm;rw[xw]
 cases e1:lineK t with
 | true=>
  have e2:t=.step:=by rcases ht with rfl | rfl | rfl | rfl <;> first | rfl | cases e1
  subst e2;refine iteT ?_;exact⟨P,L,G,A,T,M,h,w,g,Gy,cl,Gw,r,z,s,ms,rfl,X,mo,f,q⟩
 | false=>
  have e2:nbrK t=true:=by rcases ht with rfl | rfl | rfl | rfl <;> first | rfl | cases e1
  have e3:t=.count\/t=.sum\/t=.ways:=by rcases ht with rfl | rfl | rfl | rfl <;> first | exact .inl rfl | exact .inr (.inl rfl) | exact .inr (.inr rfl) | cases e1
  refine iteF ?_;rw[ax];symm;refine ixT X.T.T (v:=V.str (tx (tkC t))) rfl ?_;symm;rw[z8,e2];refine iteT ?_;exact⟨P,L,G,A,T,M,h,w,g,Gy,cl,Gw,t,r,z,s,ms,rfl,X,e3,mo,f,q⟩
noncomputable def j9 (h w g:Int) (Gy:List RR) (Gw:∅) (t:TK) (r z s:Int) (ms:∅):Bool:=formB h w g Gy t r z s&&iT h w Gy Gw t r z s ms
def kb(K:Frag)(c:RCl RK)(d:RCl PzK):Sp:=fun vs H Q _=>∃ P L G A T M h w g Gy cl Gw t r z s ms,vs=[.ref P,.ref A,.ref T]/\Asks H c d P L G A T M h w g Gy cl Gw t r z s ms/\K39 t/\(∀ m∈Gw,0<=m/\m<64)/\∀ H',Same H H'->Q (.bl (j9 h w g Gy Gw t r z s ms)) H'
def kc(K:Frag)(c:RCl RK)(d:RCl PzK):TS:=#[":iP,{wcjta0a2e,{xcjta0a1a2e"]
theorem vN(h:kb K c d vs H Q E):kc K c d (eD9 Q) (start ["puzzle","masks","thought"] vs) H:=by
 obtain⟨P,L,G,A,T,M,h,w,g,Gy,cl,Gw,t,r,z,s,ms,rfl,X,ht,mo,q⟩:=h;ac_nf;unfold kc;symm;refine⟨t,P,L,G,T,M,h,w,g,r,z,s,Gy,cl,ms,rfl,X.P,X.T,fun H1 s1=>?_⟩;unfold j9 at q
 cases hb:formB h w g Gy t r z s with
 | false=>
  rw[hb,Hz] at q;exact⟨false,rfl,iteF (q _ s1)⟩
 | true=>
  rw[hb,HB] at q;refine⟨true,rfl,iteT ?_⟩;symm;exact⟨P,L,G,A,T,M,h,w,g,Gy,cl,Gw,t,r,z,s,ms,rfl,X.same s1,ht,mo,hb,fun H' s2=>q H' (s1.trans s2)⟩
def rg(x:RR)(t:TK)(z:Int):∅:=match t with
 | .step=>ahdL x.cs z++behL x.cs z
 | _=>othL x.cs z
def eV(K:Frag)(c:RCl RK)(d:RCl PzK):Sp:=fun vs H Q _=>∃ P L G T M h w g Gy cl t r z s ms y,vs=[.ref P,.ref T]/\IsPz H c d P L G h w g Gy cl/\IsTh H T M t r z s ms/\0<=r/\Gy[r.toNat]? =some y/\RestP Q H (othL y.cs z)
def eX(K:Frag)(c:RCl RK)(d:RCl PzK):TS:=#[":ip~ba,~lcjabkzt~d~j~kcjt0ebk1df#1 abk1df#2 ee"]
def mQ(h:eV K c d vs H Q E):eX K c d (eD9 Q) (start ["puzzle","thought"] vs) H:=by
 obtain⟨P,L,G,T,M,h,w,g,Gy,cl,t,r,z,s,ms,y,rfl,X,Th,r0,ey,q⟩:=h;obtain⟨dx,p,rs,h1,h2,h3⟩:=X.ex;have O:=X.R.ok y (GQ ey);have hin:=J9 O X.R.F;have hmm:=X.R.F.m;have hcl:y.cs.length<=63:=by have:=hin.1;omega
 ac_nf;unfold eX;rw[bN,d7,bj,bG,bj,dN];refine methE (k:=.Puzzle) rfl X.ok h1 (by rfl) ?_;symm;refine⟨P,L,G,h,w,g,Gy,cl,rfl,X,fun l p2 rs2 hl hp2 Y=>?_⟩;have s2:Same H (upd H l (.lst (rs2.map V.ref))):=(GJ H).laid hl;generalize upd H l (.lst (rs2.map V.ref))=H1 at*;have hlt:=(GN.mp ey).1;have GD:=Y.len;have ea:rs2[r.toNat]? =some rs2[r.toNat]:=GH #[0];dsimp only;refine ixT (s2 _ _ Th.T) (v:=V.int r) rfl ?_;refine ixL Y.top (jI r0 ea) ?_;symm;refine ixT (s2 _ _ Th.T) (v:=V.int z) rfl ?_;symm;refine⟨_,_,p2,_,y.cs,_,_,z,rfl,Y.at_ _ _ _ ea ey,hcl,fun l2 H3 s3 hl2 e2=>?_⟩;symm;exact kE (s2.trans s3) e2 (by have:=Hg (fun x=>!decide (x=z)) y.cs;have:=hin.1;omega) (.refl _) q
def fP(K:Frag)(c:RCl RK)(d:RCl PzK):Sp:=fun vs H Q _=>∃ P L G T M h w g Gy cl r z s ms y,vs=[.ref P,.ref T]/\IsPz H c d P L G h w g Gy cl/\IsTh H T M .step r z s ms/\0<=r/\Gy[r.toNat]? =some y/\z∈y.cs/\RestP Q H (ahdL y.cs z++behL y.cs z)
def fQ(K:Frag)(c:RCl RK)(d:RCl PzK):TS:=#[":glbk1df#0 h#2 gmobsc2dqr`0ivengmMobsc2dqr`1obsc2dqr`2ip~babk1df#4 englbkzt~d~j~kcjt0ebk1df#1 h#3 gmobsc2dqr`3ip~ba,~lcja3abk1df#2 eenip~babu,~;cja3abk1df#2 e,~?cja3abk1df#2 ee",[99,108,117,101],[111,110,108,121],[112,97,105,114],[112,108,97,99,101]]
def xG(cs:∅)(z:Int):(ahdL cs z).length<=1/\(behL cs z).length<=1:=by
 unfold ahdL behL;constructor <;> split <;> simp
def nV(h:fP K c d vs H Q E):fQ K c d (eD9 Q) (start ["puzzle","thought","kind","rule"] vs) H:=by
 obtain⟨P,L,G,T,M,h,w,g,Gy,cl,r,z,s,ms,y,rfl,X,Th,r0,ey,hz,q⟩:=h;obtain⟨dx,p,rs,h1,h2,h3⟩:=X.ex;have O:=X.R.ok y (GQ ey);have hin:=J9 O X.R.F;have hmm:=X.R.F.m;have hcl:y.cs.length<=63:=by have:=hin.1;omega
 have ab:=xG y.cs z;ac_nf;unfold fQ;symm;refine ixT Th.T (v:=V.str (tx (tkC .step))) rfl ?_;symm;rw[ax];symm;rw[b6,sH,GI (show ¬ TK.step=TK.clue by decide)];refine iteF ?_;rw[ax];symm;rw[b6,xx,GI (show ¬ TK.step=TK.only by decide)];refine iteF ?_;rw[b6,Cd,GI (show ¬ TK.step=TK.pair by decide)];refine iteF ?_;refine methE (k:=.Puzzle) rfl X.ok h1 (by rfl) ?_;symm;refine⟨P,L,G,h,w,g,Gy,cl,rfl,X,fun l p2 rs2 hl hp2 Y=>?_⟩;have s2:Same H (upd H l (.lst (rs2.map V.ref))):=(GJ H).laid hl;generalize upd H l (.lst (rs2.map V.ref))=H1 at*;have hlt:=(GN.mp ey).1;have GD:=Y.len;have ea:rs2[r.toNat]? =some rs2[r.toNat]:=GH #[0];dsimp only;refine ixT (s2 _ _ Th.T) (v:=V.int r) rfl ?_;refine ixL Y.top (jI r0 ea) ?_;symm;rw[ax];symm;rw[b6,qX,GI (show ¬ TK.step=TK.place by decide)];refine iteF ?_;symm;refine ixT (s2 _ _ Th.T) (v:=V.int z) rfl ?_;symm;refine⟨_,_,p2,_,y.cs,_,_,z,rfl,Y.at_ _ _ _ ea ey,hcl,hz,fun l2 H3 s3 hl2 e2=>?_⟩;symm;refine ixT ((s2.trans s3) _ _ Th.T) (v:=V.int z) rfl ?_;symm;refine⟨_,_,p2,_,y.cs,_,_,z,rfl,(Y.at_ _ _ _ ea ey).same s3,hcl,hz,fun l3 H4 s4 hl3 e3=>?_⟩;symm;refine qK (s4 _ _ e2) e3 (by rw[GG,GG];omega) fun l4 hl4=>?_;have s5:Same H4 (upd H4 l4 (.lst ((ahdL y.cs z).map V.int++(behL y.cs z).map V.int))):=(GJ H4).laid hl4;have e4:(upd H4 l4 (.lst ((ahdL y.cs z).map V.int++(behL y.cs z).map V.int))) l4=↥((ahdL y.cs z++behL y.cs z).map V.int):=by rw[ah,HY]
 generalize upd H4 l4 (.lst ((ahdL y.cs z).map V.int++(behL y.cs z).map V.int))=H5 at*;symm;exact kE (((s2.trans s3).trans s4).trans s5) e4 (by rw[Ha];omega) (.refl _) q
def jf(K:Frag)(c:RCl RK)(d:RCl PzK):Sp:=fun vs H Q _=>∃ P L G T M h w g Gy cl t r z s ms y,vs=[.ref P,.ref T]/\IsPz H c d P L G h w g Gy cl/\IsTh H T M t r z s ms/\K39 t/\0<=r/\Gy[r.toNat]? =some y/\z∈y.cs/\RestP Q H (rg y t z)
def jg(K:Frag)(c:RCl RK)(d:RCl PzK):TS:=#[":gmw]'eAbk1df#0 i,{ycjta0a1engmw]'fAbk1df#0 i,{zcjta0a1eni~f"]
theorem uq(h:jf K c d vs H Q E):jg K c d (eD9 Q) (start ["puzzle","thought"] vs) H:=by
 obtain⟨P,L,G,T,M,h,w,g,Gy,cl,t,r,z,s,ms,y,rfl,X,Th,ht,r0,ey,hz,q⟩:=h;ac_nf;unfold jg;rw[aB,ax];symm;refine ixT Th.T (v:=V.str (tx (tkC t))) rfl ?_;symm;rw[xw]
 cases e1:lineK t with
 | true=>
  have e2:t=.step:=by rcases ht with rfl | rfl | rfl | rfl <;> first | rfl | cases e1
  subst e2;refine iteT ?_;exact⟨P,L,G,T,M,h,w,g,Gy,cl,r,z,s,ms,y,rfl,X,Th,r0,ey,hz,q⟩
 | false=>
  have e2:nbrK t=true:=by rcases ht with rfl | rfl | rfl | rfl <;> first | rfl | cases e1
  have e3:rg y t z=othL y.cs z:=by rcases ht with rfl | rfl | rfl | rfl <;> first | rfl | cases e1
  refine iteF ?_;rw[ax];symm;refine ixT Th.T (v:=V.str (tx (tkC t))) rfl ?_;symm;rw[z8,e2];refine iteT ?_;rw[e3] at q;exact⟨P,L,G,T,M,h,w,g,Gy,cl,t,r,z,s,ms,y,rfl,X,Th,r0,ey,q⟩
def Ak{g:Int}{Gy:List RR}{t:TK}{r:Int}(ht:K39 t)(hb:j9 h w g Gy Gw t r z s ms=true):0<=r/\1<=s/\s<=g/\∃ y,Gy[r.toNat]? =some y/\z∈y.cs:=by
 unfold j9 at hb;rw[G7] at hb;obtain⟨z0,z1,s0,s1,GF⟩:=kA hb.1;obtain⟨r0,y,ey,_,hz⟩:=oV (BB ht) GF;exact⟨r0,s0,s1,y,ey,hz⟩
theorem DU{s:Int}:stB 0 s=false:=by
 unfold stB;rw[show Builtin.Int.intBits 0=0 from rfl]
 cases h1:decide (1<=s) with
 | false=>rfl
 | true=>
  have:=Hy h1;rw[GI (show ¬ s<=((0:Nat):Int) by omega)];rfl
theorem BC{p:Int->Bool}{z:Int}:∀{l:∅},z∈l->p z=true->((l.filter fun x=>!decide (x=z)).filter p).length+1<=(l.filter p).length
 | [],h,_=>by cases h
 | x::r,h,hp=>by
  have le:((r.filter fun x=>!decide (x=z)).filter p).length<=(r.filter p).length:=by
   rw[List.filter_filter,← Ih,← Ih];exact J7 fun a _ ha=>(by rw[G7] at ha;exact ha.1)
  by_cases e:x=z
  . subst e;rw[Iy (by simp),Ie (p:=p) hp,He];omega
  . have ih:=BC (l:=r) (p:=p) ((GU.mp h).resolve_left (JF e)) hp;rw[Ie (by simp[e])];by_cases px:p x=true
    . rw[Ie px,Ie px,He,He];omega
    . rw[Iy px,Iy px];exact ih
def vO{f g:Int->Bool}{l:∅}(h:∀ x∈l,f x=true->g x=true):(l.filter f).length<=(l.filter g).length:=by
 rw[← Ih,← Ih];exact J7 h
variable{Gw:∅}
def Dm{m:Int}(cs:∅):mayN Gw m cs=(cs.filter fun c=>stB (Gw.getD c.toNat 0) m).length:=by
 unfold mayN sgAt;rw[Jk,GG];rfl
def Dn{m:Int}(cs:∅):onlN Gw m cs=(cs.filter fun c=>decide (woI (Gw.getD c.toNat 0) m=0)).length:=by
 unfold onlN sgAt;rw[Jk,GG];rfl
abbrev AtA(m g:Int)(Gw fl:∅):Prop:=∀ c:Int,0<=c->c<m->(0<=Gw.getD c.toNat 0/\Gw.getD c.toNat 0<64)/\(1<=fl.getD c.toNat 0/\fl.getD c.toNat 0<=g)/\stB (Gw.getD c.toNat 0) (fl.getD c.toNat 0)=true
variable{g:Int}
theorem RR.ndA{r:RR}{h w:Int}(O:r.Ok h w g):r.cs.Nodup:=by
 cases hk:allK r.k with
 | false=>
  obtain⟨c1,c2,c3,c4,e⟩:=O.cl.told hk;rw[e];exact List.Pairwise.map _ (fun a b (h:a≠b)=>by show((a:Nat):Int)≠_;omega) c4
 | true=>
  rw[(O.cl.all hk).2];unfold rngL;exact List.Pairwise.map _ (fun a b (h:a≠b)=>by show(0:Int)+(a:Int)≠0+(b:Int);omega) List.nodup_range
theorem vP(f:Int->Int){z:Int}:∀{cs:∅},cs.Nodup->z∈cs->(cs.map f).sum=f z+((othL cs z).map f).sum
 | [],_,h=>by cases h
 | x::r,nd,h=>by
  rw[HK] at nd;unfold othL;by_cases e:x=z
  . subst e
    have hr:(r.filter fun y=>!decide (y=x))=r:=Iv.mpr fun y hy=>by
     have:y≠x:=fun e=>nd.1 (e ▸ hy);simp[this]
    rw[Iy (by simp),hr,Hd,IC]
  . have ih:=vP f nd.2 ((GU.mp h).resolve_left (JF e));unfold othL at ih;rw[Ie (by simp[e]),Hd,IC,Hd,IC,ih];omega
def Bb:((List.range 64).all fun m=>(List.range 6).all fun j=>!stB (m:Int) (1+(j:Int))||decide (loM (m:Int)<=1+(j:Int)/\1+(j:Int)<=hiM (m:Int)))=true:=by decide+kernel
variable{m:Int}
def xH{x:Int}(m0:0<=m)(m1:m<64)(x0:1<=x)(x6:x<=6)(h:stB m x=true):loM m<=x/\x<=hiM m:=by
 have t:=GZ.mp (GZ.mp Bb m.toNat (G0.mpr #[0])) (x-1).toNat (G0.mpr #[0]);have e1:((m.toNat:Nat):Int)=m:=by omega
 have e3:1+(((x-1).toNat:Nat):Int)=x:=by omega
 rw[e1,e3,h] at t
 simpa using t
theorem sO{α:Type}(f g:α->Int):∀{cs:List α},(∀ c∈cs,f c<=g c)->(cs.map f).sum<=(cs.map g).sum
 | [],_=>Int.le_refl _
 | x::r,h=>by
  have:=sO f g (cs:=r) fun c hc=>h c (GR _ hc);have:=h x GV;rw[Hd,Hd,IC,IC];omega
variable{cs:∅}{z:Int}
def oth_memA{c:Int}:c∈othL cs z↔c∈cs/\c≠z:=by
 unfold othL;rw[HC];simp
variable{Gw fl:∅}
def Do(at_:AtA m g Gw fl)(ci:∀ c∈cs,0<=c/\c<m):(0:Int)∉sgAt Gw cs:=fun h=>by
 unfold sgAt at h;obtain⟨c,hc,e⟩:=G1.mp h;have a:=at_ c (ci c hc).1 (ci c hc).2;rw[e,DU] at a;exact absurd a.2.2 #[1]
variable{s:Int}{ms:∅}
def yD{n:Int}(g6:g<=6)(at_:AtA m g Gw fl)(ci:∀ c∈cs,0<=c/\c<m)(nd:cs.Nodup)(hz:z∈cs)(ho:(sgAt fl cs).sum=n)(q:sumB cs n Gw z s ms=true):fl.getD z.toNat 0≠s:=by
 intro e;have cio:∀ c∈othL cs z,0<=c/\c<m:=fun c hc=>ci c (oth_memA.mp hc).1
 have lo:=sO (fun c=>loM (Gw.getD c.toNat 0)) (fun c=>fl.getD c.toNat 0) (cs:=othL cs z) fun c hc=>by
  have a:=at_ c (cio c hc).1 (cio c hc).2;exact(xH a.1.1 a.1.2 a.2.1.1 #[0] a.2.2).1
 have hi:=sO (fun c=>fl.getD c.toNat 0) (fun c=>hiM (Gw.getD c.toNat 0)) (cs:=othL cs z) fun c hc=>by
  have a:=at_ c (cio c hc).1 (cio c hc).2;exact(xH a.1.1 a.1.2 a.2.1.1 #[0] a.2.2).2
 have su:=vP (fun c=>fl.getD c.toNat 0) nd hz;unfold sumB smB at q;rw[GI (Do at_ cio),Ia,G7,IO] at q;simp only[GX] at q;unfold sgAt at q ho;rw[Hn,Hn] at q;have l1:((othL cs z).map (loM ∘ fun c=>Gw.getD c.toNat 0)).sum=((othL cs z).map fun c=>loM (Gw.getD c.toNat 0)).sum:=rfl;have l2:((othL cs z).map (hiM ∘ fun c=>Gw.getD c.toNat 0)).sum=((othL cs z).map fun c=>hiM (Gw.getD c.toNat 0)).sum:=rfl;rw[l1,l2] at q;have q2:=q.2;omega
def yE{n k:Int}(g6:g<=6)(k0:1<=k)(k6:k<=6)(at_:AtA m g Gw fl)(ci:∀ c∈cs,0<=c/\c<m)(hz:z∈cs)(ho:((mkAt fl cs k).length:Int)=n)(q:cntB cs n k Gw z s ms=true):fl.getD z.toNat 0≠s:=by
 intro e;have cio:∀ c∈othL cs z,0<=c/\c<m:=fun c hc=>ci c (oth_memA.mp hc).1;unfold cntB at q;rw[G7] at q;have q2:=q.2;by_cases es:s=k
 . rw[G9 es,GX] at q2;have o:=Dn (Gw:=Gw) (m:=s) (othL cs z);unfold onlN at o;rw[o] at q2
   have le:=vO (f:=fun c=>decide (woI (Gw.getD c.toNat 0) s=0)) (g:=fun c=>decide (fl.getD c.toNat 0=k)) (l:=othL cs z) fun x hx ex=>by
    have a:=at_ x (cio x hx).1 (cio x hx).2;exact GL ((Dl a.1.1 a.1.2 #[0] #[0] a.2.1.1 #[0] (Hy ex) a.2.2).trans es)
   have c:=BC (p:=fun c=>decide (fl.getD c.toNat 0=k)) hz (GL (e.trans es));unfold mkAt at ho;unfold othL at le q2;omega
 . rw[G3 es,GX] at q2;have o:=Dm (Gw:=Gw) (m:=k) (othL cs z);unfold mayN at o;rw[o] at q2
   have le:=vO (f:=fun c=>decide (fl.getD c.toNat 0=k)) (g:=fun c=>stB (Gw.getD c.toNat 0) k) (l:=othL cs z) fun x hx ex=>by
    have a:=at_ x (cio x hx).1 (cio x hx).2;rw[Hy ex] at a;exact a.2.2
   have c:((cs.filter fun c=>decide (fl.getD c.toNat 0=k)).length)<=((othL cs z).filter fun c=>decide (fl.getD c.toNat 0=k)).length:=by
    unfold othL;rw[List.filter_filter];refine vO fun x _ ex=>?_;have:x≠z:=fun xz=>es (by rw[xz] at ex;exact e.symm.trans (Hy ex));simp only[ex,this,decide_false,Bool.not_false,JM]
   unfold mkAt at ho;omega
theorem sP:∀{xs:∅} {j:Nat},risB xs=true->j+1<xs.length->xs.getD j 0<xs.getD (j+1) 0
 | [],j,_,h=>by simp at h
 | [x],j,_,h=>by simp at h
 | x::y::r,0,hb,_=>by
  unfold risB at hb;rw[G7,GX] at hb;exact hb.1
 | x::y::r,j+1,hb,h=>by
  unfold risB at hb;rw[G7] at hb;exact sP (xs:=y::r) (j:=j) hb.2 (by simpa using h)
def Dp(h:z∈cs):cs.getD (fv cs z) 0=z:=by
 have hl:=qY h;rw[List.getD,GH hl];have:=List.findIdx_getElem (w:=hl);exact eq_of_beq this
def kF{j:Nat}(hj:j<cs.length):(sgAt fl cs).getD j 0=fl.getD (cs.getD j 0).toNat 0:=by
 unfold sgAt;rw[List.getD,GK,GH hj];show fl.getD (cs[j]).toNat 0=_;rw[show cs.getD j 0=cs[j] by rw[List.getD,GH hj];rfl]
def wI(g6:g<=6)(at_:AtA m g Gw fl)(ci:∀ c∈cs,0<=c/\c<m)(hz:z∈cs)(ho:risB (sgAt fl cs)=true)(q:stepB cs Gw z s ms=true):fl.getD z.toNat 0≠s:=by
 intro e;unfold stepB stpB at q;rw[G7,IO] at q;have il:=qY hz;have iz:=Dp hz;have sl:(sgAt fl cs).length=cs.length:=by unfold sgAt;rw[GG]
 rcases q.2 with q | q
 . obtain⟨o,ho',hn⟩:=Ij.mp q;have co:=ci o (xA hz ho');have a:=at_ o co.1 co.2;unfold ahdL at ho';by_cases h0:0<fv cs z
   . rw[G9 h0] at ho';have eo:=GW.mp ho';have r:=sP (j:=fv cs z-1) ho #[0];rw[show fv cs z-1+1=fv cs z by omega,kF #[0],kF il,iz,← eo,e] at r;unfold nogB at hn;have:=Hy (GZ.mp hn _ ((sN a.1.1 _).mpr a.2.2));omega
   . rw[G3 h0] at ho';cases ho'
 . obtain⟨o,ho',hn⟩:=Ij.mp q;have co:=ci o (xB ho');have a:=at_ o co.1 co.2;unfold behL at ho';by_cases h0:fv cs z+1<cs.length
   . rw[G9 h0] at ho';have eo:=GW.mp ho';have r:=sP (j:=fv cs z) ho #[0];rw[kF il,kF h0,iz,← eo,e] at r;unfold nolB at hn;have:=Hy (GZ.mp hn _ ((sN a.1.1 _).mpr a.2.2));omega
   . rw[G3 h0] at ho';cases ho'
def Bc{k:RK}{h w n:Int}{xs ys:∅}(e:∀ c∈cs,xs.getD c.toNat 0=ys.getD c.toNat 0):hoB k h w cs n m xs=hoB k h w cs n m ys:=by
 have e1:sgAt xs cs=sgAt ys cs:=by unfold sgAt;exact Ii e
 have e2:∀ m,mkAt xs cs m=mkAt ys cs m:=fun m=>by
  unfold mkAt;exact List.filter_congr fun c hc=>by rw[e c hc]
 unfold hoB;cases k <;> simp only[e1,e2]
def tR{f:∅}{c:Nat}(hc:c<f.length):(setL f z s).getD c 0=if (c:Int)=z then s else f.getD c 0:=by
 unfold setL;rw[List.getD,GK,HM hc];rfl
theorem vQ{Gw fl:∅}:∀{rest:∅} {fs:List ∅} {f:∅},f∈fs->(∀ o∈rest,fl.getD o.toNat 0∈sgL (Gw.getD o.toNat 0))->rest.foldl (fun f o=>setL f o (fl.getD o.toNat 0)) f∈wfold Gw rest fs
 | [],_,_,hf,_=>hf
 | o::r,fs,f,hf,h=>by
  unfold wfold;rw[HR,HR];refine vQ (fs:=extS fs o (sgL (Gw.getD o.toNat 0))) ?_ fun o' ho'=>h o' (GR _ ho');unfold extS;exact List.mem_flatMap.mpr ⟨f,hf,G1.mpr ⟨_,h o GV,rfl⟩⟩
theorem xI{fl:∅}{c:Int}(c0:0<=c):∀{rest f:∅},c.toNat<f.length->((rest.foldl (fun f o=>setL f o (fl.getD o.toNat 0)) f).getD c.toNat 0=if c∈rest then fl.getD c.toNat 0 else f.getD c.toNat 0)
 | [],f,_=>by simp
 | o::r,f,h=>by
  rw[HR,xI c0 (rest:=r) (by rw[mN];exact h),tR h];by_cases hr:c∈r
  . rw[G9 hr,G9 (GR _ hr)]
  . rw[G3 hr];have ec:((c.toNat:Nat):Int)=c:=by omega
    rw[ec];by_cases e:c=o
    . rw[G9 e,G9 (by rw[e];exact GV),e]
    . rw[G3 e,G3 (by simp[e,hr])]
def wJ{k:RK}{h w n:Int}(ml:Gw.length=(h*w).toNat)(at_:AtA (h*w) g Gw fl)(ci:∀ c∈cs,0<=c/\c<h*w)(ho:hoB k h w cs n m fl=true)(q:waysB k h w cs n m Gw z s ms=true):fl.getD z.toNat 0≠s:=by
 intro e;have cio:∀ c∈othL cs z,0<=c/\c<h*w:=fun c hc=>ci c (oth_memA.mp hc).1;unfold waysB at q;rw[GI (Do at_ cio),Ia,G7,G7,IV] at q;have q2:=q.2.2
 have hin:=vQ (Gw:=Gw) (fl:=fl) (rest:=othL cs z) (fs:=[setL (List.replicate Gw.length 0) z s]) GV fun o hoo=>by
  have a:=at_ o (cio o hoo).1 (cio o hoo).2;exact(sN a.1.1 _).mpr a.2.2
 have ag:hoB k h w cs n m (List.foldl (fun f o=>setL f o (fl.getD o.toNat 0)) (setL (List.replicate Gw.length 0) z s) (othL cs z))=hoB k h w cs n m fl:=Bc fun c hc=>by
  have cc:=ci c hc;have hl:c.toNat < (setL (List.replicate Gw.length 0) z s).length:=by rw[mN,IY];omega
  rw[xI cc.1 hl];by_cases hcz:c=z
  . rw[G3 (fun hh=>(oth_memA.mp hh).2 hcz),tR (by rw[IY];omega),G9 #[0],hcz,e]
  . rw[G9 (oth_memA.mpr ⟨hc,hcz⟩)]
 rw[JG] at q2;have:=q2 _ hin;rw[ag,ho] at this;exact this rfl
abbrev iN(cs:List Nat):∅:=cs.map fun(n:Nat)=>(n:Int)
variable{cs:List Nat}
def vR{c:Int}(h:c∈iN cs):0<=c/\c.toNat∈cs:=by
 obtain⟨n,hn,rfl⟩:=G1.mp h;exact⟨by omega,by rw[HI];exact hn⟩
def Al(fl:∅)(ds:List Nat)(n:Nat):sgAt fl (iN (ds++[n]))=sgAt fl (iN ds)++[fl.getD n 0]:=by
 unfold sgAt iN;simp
def fW(h w g:Int)(fl:∅)(r:RR):Prop:=r.Ok h w g/\hoB r.k h w r.cs r.n r.m fl=true
structure Cs58(h w:Int)(cs:List Nat):Prop where
 ne:cs≠[]
 nd:cs.Nodup
 lt:∀ c∈cs,(c:Int)<h*w
 len:cs.length<=16
def Cs58.sub{h w:Int}{ds:List Nat}(X:Cs58 h w cs)(s:ds.Sublist cs)(ne:ds≠[]):Cs58 h w ds:=⟨ne,X.nd.sublist s,fun c hc=>X.lt c (s.subset hc),GS s.length_le X.len⟩
def Cs58.lt100{h w g:Int}(X:Cs58 h w cs)(F:FlOk h w g):∀ c∈cs,c<100:=fun c hc=>by
 have:=X.lt c hc;have:=F.m;omega
variable{fl:∅}
def Be{h w g:Int}(Y:Cs58 h w cs)(fll:fl.length=(h*w).toNat)(sg:∀ x∈fl,1<=x/\x<=g){x:Int}(hx:x∈iN cs):0<=x/\x<fl.length/\1<=fl.getD x.toNat 0/\fl.getD x.toNat 0<=g:=by
 have m:=vR hx;have l:=Y.lt _ m.2;have:x.toNat<fl.length:=by omega
 have e:fl.getD x.toNat 0=fl[x.toNat]:=by rw[List.getD,GH this];rfl
 have:=sg _ (Hf this);rw[e];omega
def DL{h w g:Int}{k:RK}{n m:Nat}(F:FlOk h w g)(Y:Cs58 h w cs)(ha:allK k=false)(k0:k≠.Rule)(n0:n<=99)(nz:numK k=false->n=0)(m0:sgnK k=true->1<=(m:Int)/\(m:Int)<=g)(mz:sgnK k=false->m=0)(ho:hoB k h w (iN cs) n m fl=true):fW h w g fl ⟨k,n,m,cs,iN cs⟩:=⟨yC F Y.ne Y.lt Y.nd Y.len ha k0 n0 nz m0 mz,ho⟩
theorem vS:∀(xs:∅),(∀ x∈xs,0<=x/\x<=6)->0<=xs.sum/\xs.sum<=6*xs.length
 | [],_=>by simp
 | x::r,h=>by
  have a:=h x GV;have b:=vS r fun y hy=>h y (GR _ hy);rw[IC,He];omega
def Am(xs:∅):0<=(seenN xs).2/\(seenN xs).2<=xs.length:=by
 have go:∀(xs:∅) (a:Int × Int),a.2<=(xs.foldl (fun a x=>if a.1<x then(x,a.2+1) else a) a).2/\(xs.foldl (fun a x=>if a.1<x then(x,a.2+1) else a) a).2<=a.2+xs.length:=fun xs=>by
  induction xs with
  | nil=>intro a;simp
  | cons x r ih=>
   intro a;rw[HR,He];have:=ih (if a.1<x then(x,a.2+1) else a);by_cases h:a.1<x
   . rw[if_pos h] at this ⊢;dsimp only at this;omega
   . rw[G3 h] at this ⊢;omega
 have:=go xs (0,0);unfold seenN;dsimp only at this;omega
def sQ(ns:∅)(k:Int):Int:=if k < (ns.length:Int) then ns.getD k.toNat 0 else 0
def cY(K:Frag):Sp:=fun vs H Q _=>∃ a ns k,vs=[.ref a,.int k]/\SqL K H a (ns.map V.int)/\ns.length<=63/\0<=k/\k<=1000/\Q (.int (sQ ns k)) H
def kd(K:Frag):TS:=#[":gmob<1p{Aca0eib{Bc01nidf#0 "]
def vT{K:Frag}{vs:List V}{H:Hp}{Q:VK}{E:XK}(h:cY K vs H Q E):kd K (eD9 Q) (start ["_law_script","_law_k"] vs) H:=by
 obtain⟨a,ns,k,rfl,hS,hn,k0,k1,q⟩:=h;ac_nf;unfold kd;rw[aB,ax];symm;refine⟨a,_,rfl,.inl hS,?_⟩;symm;rw[GG];unfold sQ at q;by_cases hk:k < (ns.length:Int)
 . rw[G9 hk] at q;rw[G9 (GL hk)];exact⟨a,_,k,_,rfl,rfl,hS,pY k0 hk,q⟩
 . rw[G3 hk] at q;rw[G3 (by simpa using hk)];symm;exact q
def yF:List (Int × Int)->(St->Hp->(List V->Hp->Prop)->Prop)
 | []=>tNil
 | p::r=>tCons (tTup (tCons (tC (.int p.1)) (tCons (tC (.int p.2)) tNil))) (yF r)
theorem vU{σ:St}:∀(ps:List (Int × Int)) (H:Hp) (Q:List V->Hp->Prop),(∀(as:List Addr) (H':Hp),Same H H'->as.length=ps.length->(∀(j:Nat) (a:Addr) (p:Int × Int),as[j]? =some a->ps[j]? =some p->H' a=some (.tup [.int p.1,.int p.2]))->Q (as.map V.ref) H')->yF ps σ H Q
 | [],H,Q,h=>h [] H (GJ H) rfl fun j a p e _=>by simp at e
 | p::r,H,Q,h=>by
  unfold yF;symm;refine⟨lnR rfl,fun t ht=>?_⟩;obtain⟨H1,z9,s1,et⟩:=bn (.tup [V.int p.1,V.int p.2]) ht;rw[z9];refine vU r H1 _ fun as H2 s2 hl ha=>?_;refine h (t::as) H2 (s1.trans s2) (by simp[hl]) fun j a q e1 e2=>?_
  match j,e1,e2 with
  | 0,e1,e2=>
   simp at e1 e2;subst e1 e2;exact s2 _ _ et
  | j+1,e1,e2=>exact ha j a q (by simpa using e1) (by simpa using e2)
theorem rh{n:Nat}:∀{names:List (Str × NameKind)} {cl:List (Str × Addr)},(∀ y∈names,y.2≠.cell)->cellsFrom n names cl=cl
 | [],_,_=>rfl
 | (x,k)::r,cl,h=>by
  have hk:(k==NameKind.cell)=false:=by
   have:=h _ (.head _);cases k <;> first | rfl | exact absurd rfl this
  have ih:=rh (n:=n) (names:=r) (cl:=cl) fun y hy=>h y (.tail _ hy);unfold cellsFrom;simp only[hk];exact ih
theorem tS:∀{names:List (Str × NameKind)} {h:Heap},(∀ y∈names,y.2≠.cell)->pushCells h names=h
 | [],_,_=>rfl
 | (x,k)::r,h,hn=>by
  have hk:(k==NameKind.cell)=false:=by
   have:=hn _ (.head _);cases k <;> first | rfl | exact absurd rfl this
  have ih:=tS (names:=r) (h:=h) fun y hy=>hn y (.tail _ hy);unfold pushCells;simp only[hk];exact ih
def ur:StrKeys #[]:=by
 intro e he;exact absurd he (by simp)
variable{A:Around}{E:Value->Shared->Prop}{s:Shared}{sc:Scope}{cl:List (Str × Addr)}
def Ce {M:Model} {v q:Str} {u code:Value} {f:Addr} {Q:Env->Shared->Prop} (hk:sc.kind=.function) (hf:∀ y∈sc.names,y.2≠.cell) (hv:sc.names.lookup v=some .local)
  (hQ:∀ h',(h'.Ns s.heap.objs.size fun x=>if x=v then some u else none)->(∀ b o,s.heap.get? b=some o->h'.get? b=some o)->Q (newEnv sc s.heap.objs.size mainGlobals cl q (some f) code none builtinsNs) {s with heap:=h',toks:=s.toks+1}):
  wpAny M A (newFunctionEnv sc mainGlobals cl [(v,u)] q (some f) code none builtinsNs) Q E s:=by
 simp only[newFunctionEnv,Option.isSome_none];refine Hl (wpAny_alloc ?_);refine Hl (wpAny_layCells _ (fun name kind cells=>by cases hkc:kind==NameKind.cell <;> simp[hkc]) _ _ _ _ ?_);rw[rh hf,tS hf];refine Hl ?_;rw[List.forIn_cons];have n0:(s.heap.push {cls:=.type "frame",data:=.dict #[]}).Ns s.heap.objs.size fun _=>none:=⟨_,#[],_,G8 _ rfl,rfl,ur,fun name=>rfl⟩;refine Hl (Hl (J4 (m:=fun _=>none) ?_ ?_ (fun h' hn sb=>?_) ?_))
 . exact hv
 . exact n0
 . refine HE ?_;show wpAny M A (forIn [] PUnit.unit _) _ _ _;rw[List.forIn_nil];refine HE (HE (hQ h' ?_ fun b o e=>?_))
   . exact hn
   . rw[sb.2 b (Hk (GY e))];exact GO _ e
 . show(sc.kind==_||_)=false;rw[hk];rfl
def Cf {prog:Program} {w:World} {f cc Fl c':Addr} {q F v:Str} {ps:Arguments} {p1 p2 p3:Pos} {pm ctv u:Value} {GB:Array Value} {x:Int} {t:Tok} {Q:Value->Shared->Prop}
  (hd:A.depth<recursionLimit) (ho:s.heap.get? f=some (PySem.W.kla_obj "<lambda>" q ps (.Subscript (.Name F p1) (.Name v p2) p3) sc cl pm c' ctv)) (hclo:cl.lookup F=some cc) (hcr:s.heap.CodeRec (.ref c') q) (hcell:s.heap.IsCell cc ↑Fl) (hl:s.heap.IsList Fl GB) (x0:0<=x) (x1:x<2^63) (hx:GB[x.toNat]? =some u) (hlim:s.heap.NoLimit)
  (hps:bindArgs (PySem.W.kla_fn "<lambda>" q ps (.Subscript (.Name F p1) (.Name v p2) p3) sc cl pm (.ref c') ctv) ⟨[.int x t],[]⟩=pure [(v,.int x t)])
  (hk:sc.kind=.function) (hco:sc.isCoroutine=false) (hge:sc.isGenerator=false) (hf:∀ y∈sc.names,y.2≠.cell) (hv:sc.names.lookup v=some .local) (hF:sc.names.lookup F=some .free)
  (hdF:(F==("__debug__":Str))=false) (hcF:(F==("__classdict__":Str))=false) (hdv:(v==("__debug__":Str))=false)
  (h:∀(h':Heap) (tk:Nat),(∀ b o,s.heap.get? b=some o->h'.get? b=some o)->Q u {s with heap:=h',toks:=tk}):
  wpAny (model prog w) A (call (.ref f) [.int x t]) Q E s:=by
 refine wpAny_call (PySem.W.kla_callFunE hd ho rfl hco hge rfl hcr ?_);rw[hps];refine HE ?_;refine Ce hk hf hv fun h' hn old=>⟨hlim.keeps old,?_⟩;refine PySem.W.kla_codeExpr ?_;refine wpAny_Subscript_Name (T:="list") (id:="list.__getitem__") rfl ?_ ?_
 . refine JS (wpAny_loadName_free (v:=.ref Fl) hk hF (c:=cc) ?_ ?_ ?_ hcF) hdF
   . exact hclo
   . obtain⟨o,e,d⟩:=hcell;exact⟨o,old _ _ e,d⟩
   . refine JS (wpAny_loadName_local hk hv hn (G9 rfl) ?_) hdv
     have hl':h'.IsList Fl GB:=by
      obtain⟨o,e,d⟩:=hl;exact⟨o,old _ _ e,d⟩
     refine⟨?_,wpAny_getItem_list hl' x0 x1 hx (h h' _ old)⟩;exact hl'.typeIs
 . exact fun _ _=>rfl
def tbE(l c:Nat)(a:Addr):Array Value:=#[rawInt l,rawInt c,.ref a]
def TbOk(l c:Nat)(q:Str)(H:Hp)(P:Addr):Prop:=H P=some (.tbl #[])\/∃ a,H P=some (.tbl (tbE l c a))/\H a=some (.ext fun h=>h.CodeRec (.ref a) q)
def SameX(P:Addr)(H H':Hp):Prop:=∀ a o,a≠P->H a=some o->H' a=some o
section
variable{X:Cx}{Gx:List (Addr × Obj)}{σ:St}{H:Hp}{s:Shared}
def ge{c:Addr}{q:Str}{h1 h2:Heap}(x:h1.CodeRec (.ref c) q)(k:∀ o,h1.get? c=some o->h2.get? c=some o):h2.CodeRec (.ref c) q:=by
 obtain⟨c',o,vs,t,e,g,d,v⟩:=x;cases e;exact⟨c,o,vs,t,rfl,k _ g,d,v⟩
def Inv.grow{h':Heap}{t':Nat}{P c':Addr}{ps more:Array Value}{q:Str}(I:Inv X Gx σ H s)(eP:H P=some (.tbl ps))(ext:Heap.ExtBut P s.heap h')(c0:s.heap.objs.size<=c')(cr:h'.CodeRec (.ref c') q)(tb:h'.get? P=some {cls:=.none,data:=.fields (ps++more)}):
  Inv X Gx σ (upd (upd H P (.tbl (ps++more))) c' (.ext fun h=>h.CodeRec (.ref c') q)) {s with heap:=h',toks:=t'}:=by
 have hc:H c'=none:=I.hok.fresh c0;have nPc:P≠c':=fun e=>by rw[e,hc] at eP;cases eP
 have at_:∀ b,b≠P->b≠c'->upd (upd H P (.tbl (ps++more))) c' (.ext fun h=>h.CodeRec (.ref c') q) b=H b:=fun b h1 h2=>by rw[aj h2,aj h1]
 have atP:upd (upd H P (.tbl (ps++more))) c' (.ext fun h=>h.CodeRec (.ref c') q) P=some (.tbl (ps++more)):=by rw[aj nPc,ah]
 have lt:∀ b o,s.heap.get? b=some o->b≠c':=fun b o e z=>by rw[z] at e;exact absurd (G5 (GY e) c0) (HP _)
 have nP:∀ b,H b=none->b≠P:=fun b n z=>by rw[z,eP] at n;cases n
 have LP:=nP _ I.free;have trk:∀ b u,H b=some u->b≠c':=fun b u e z=>by rw[z,hc] at e;cases e
 refine I.step (g':=s.gens) (d':=s.drawn) (ch:=[]) (fun _ z=>nomatch z) (fun b o _ _ _ e n=>ext b o (nP b n) e) (fun b o _ _ _ e n=>⟨o.slots,ext b o (nP b n) e⟩) (fun b o _ e n=>by rw[at_ b (nP b n) (lt b o e)];exact n)
  (fun b o _ e=>?_) (fun b xs e=>?_) (fun b o u e=>?_) (fun b qs e=>?_) (fun m ⟨o,es,ep,e,r⟩=>⟨o,es,ep,ext _ _ LP e,r⟩) (fun b u e=>?_) I.bare
 . by_cases z:b=P
   . rw[z];exact⟨_,tb⟩
   . exact⟨o,ext b o z e⟩
 . rw[at_ b (fun z=>by rw[z,eP] at e;cases e) (trk b _ e)];exact e
 . rw[at_ b (fun z=>by rw[z,eP] at e;cases e) (trk b _ e)];exact e
 . by_cases z:b=P
   . rw[z,eP] at e;cases e;rw[z];exact⟨more,atP⟩
   . rw[at_ b z (trk b _ e)];exact⟨#[],by rw[e];simp⟩
 . by_cases z:b=c'
   . rw[z,ah] at e;cases e;rw[z];refine⟨cr,?_,fun h1 h2 x k=>ge x k⟩;obtain⟨_,o,_,_,e,g,_⟩:=cr;cases e;exact⟨o,g⟩
   . by_cases y:b=P
     . rw[y,atP] at e;cases e;rw[y];exact tb
     . rw[at_ b y z] at e;refine(I.hok b u e).stay (fun d v hd g=>ext d v ?_ g) (fun d hd=>?_) fun d xs hd=>?_
       . rcases hd with rfl | hd
         . exact y
         . intro w;rw[w,eP] at hd;cases hd
       . rw[at_ d (fun w=>by rw[w,eP] at hd;cases hd) (trk d _ hd)];exact hd
       . rw[at_ d (fun w=>by rw[w,eP] at hd;cases hd) (trk d _ hd)];exact hd
def Inv.pin1{o:Obj}(I:Inv X Gx σ H s)(hd:∀ v,o.data≠.cell v)(hf:o.isFreed=false:=by rfl):Inv X ((s.heap.objs.size,o)::Gx) σ H {s with heap:=s.heap.push o}:=by
 have I1:Inv X Gx σ H {s with heap:=s.heap.push o}:=I.kept (t':=s.toks) fun b u e=>GO _ e;refine I1.pins_of fun p hp=>?_;rcases GU.mp hp with rfl | hp
 . exact⟨G8 _ hf,I.hok.fresh (GP _),(Hk I.lt).symm,I.nofs (GP _),hd⟩
 . exact I1.pin p (Hh _ hp)
def wK{l c:Nat}{a:Addr}:TriplesOk (tbE l c a).toList:=by
 simp[tbE,TriplesOk,rawInt]
def An{pos:Pos}{a:Addr}:codeAmong pos (tbE pos.line pos.col a).toList=↑a:=by
 simp[tbE,codeAmong,rawInt]
def Bf {E:Value->Shared->Prop} {Q:Value->Shared->Prop} {ps:Arguments} {body:Expr} {sc:Scope} {pos:Pos} {c P:Addr} (I:Inv X Gx σ H s) (hcode:X.env.code=.ref c) (hcd:PySem.W.CodeHd X.base c P) (hbu:X.base.BuiltinsAt X.mg P) (hmP:mainGlobals≠P) (tb:TbOk pos.line pos.col (X.env.qual++"<lambda>") H P) (hdf:defaultsOf ps X.env=([],[])) (hfr:∀ x,(x,NameKind.free)∈sc.names->∃ c,X.env.cells.lookup x=some c)
  (h:∀(f c':Addr) (cl:List (Str × Addr)) (pm ctv:Value) (H':Hp) (s':Shared),Inv X ((f,PySem.W.kla_obj "<lambda>" (X.env.qual++"<lambda>") ps body sc cl pm c' ctv)::Gx) σ H' s'->(∀ x c,cl.lookup x=some c->X.env.cells.lookup x=some c)->(∀ x,(x,NameKind.free)∈sc.names->∃ c,cl.lookup x=some c)->s'.heap.CodeRec (.ref c') (X.env.qual++"<lambda>")->SameX P H H'->TbOk pos.line pos.col (X.env.qual++"<lambda>") H' P->(∀ a,H' a=none->H a=none)->Q (.ref f) s'):
  wpAny (model X.prog X.w) X.A (eval (.Lambda ps body sc pos) X.env) Q E s:=by
 obtain⟨cl,ecl,c1,c2⟩:=qy hfr
 have hns:s.heap.Ns mainGlobals X.mg:=by
  obtain⟨o,es,ep,e,r⟩:=I.mod.glob;exact⟨o,es,ep,I.bk _ _ e,r⟩
 have hbs:s.heap.BuiltinsAt X.mg P:=by
  obtain⟨bm,o,h1,h2,h3,h4,h5,h6⟩:=hbu;exact⟨bm,o,h1,h2,h3,h4,I.bk _ _ h5,h6⟩
 have hch:=hcd.keeps I.bk;refine PySem.W.kla_eval hdf ?_;rcases tb with e | ⟨a,e,ea⟩
 . have eo:s.heap.get? P=some (PySem.W.tabObj #[]):=I.hok P _ e;refine PySem.W.kla_makeFunction ecl I.ok.glob hns hcode hch eo ?_ ?_ hmP hbs fun c' ctv h' tk ext c0 c1' cr tbl=>?_
   . simp[TriplesOk]
   . rfl
   . have I1:=I.grow (t':=tk) (more:=tbE pos.line pos.col c') e ext c0 cr (by simpa [tbE] using tbl);have hc:H c'=none:=I.hok.fresh c0;have nPc:P≠c':=fun z=>by rw[z,hc] at e;cases e
     refine h _ c' cl _ ctv _ _ (I1.pin1 (fun v z=>by cases z)) c1 c2 (ge cr fun o e=>GO _ e) (fun b o nb eb=>?_) (.inr ⟨c',?_,?_⟩) (fun b nb=>?_)
     . rw[aj (fun z=>by rw[z,hc] at eb;cases eb),aj nb];exact eb
     . rw[aj nPc,ah];simp[tbE]
     . rw[ah]
     . by_cases z:b=c'
       . rw[z];exact hc
       . rw[aj z] at nb;by_cases y:b=P
         . rw[y,ah] at nb;cases nb
         . rw[aj y] at nb;exact nb
 . have eo:s.heap.get? P=some (PySem.W.tabObj (tbE pos.line pos.col a)):=I.hok P _ e;refine PySem.W.kla_makeFunctionHit ecl I.ok.glob hns hcode hch eo ?_ (cv:=.ref a) ?_ hbs fun ctv h' tk old sz=>?_
   . exact wK
   . exact An
   . have I1:Inv X Gx σ H {s with heap:=h',toks:=tk}:=I.kept old;have cr:h'.CodeRec (.ref a) (X.env.qual++"<lambda>"):=ge (I.hok a _ ea).1 fun o e=>old _ _ e;exact h _ a cl _ ctv H _ (I1.pin1 (fun v z=>by cases z)) c1 c2 (ge cr fun o e=>GO _ e) (fun b o _ eb=>eb) (.inr ⟨a,e,ea⟩) (fun b nb=>nb)
def intOf:Value->Int
 | .int x _=>x
 | _=>0
theorem sR:∀{xs:∅} {GB:List Value},Vals (xs.map V.int) GB->GB.map intOf=xs/\∀ v∈GB,∃ t,v=.int (intOf v) t
 | [],_,r=>by cases r;exact⟨rfl,fun _ h=>nomatch h⟩
 | x::xs,_,r=>by
  cases r with
  | cons h t=>
   obtain⟨tk,rfl⟩:=h;have ih:=sR t;refine⟨by rw[Hd,ih.1];rfl,fun v hv=>?_⟩;rcases GU.mp hv with rfl | hv
   . exact⟨tk,rfl⟩
   . exact ih.2 v hv
theorem xJ:∀{GB:List Value},(∀ v∈GB,∃ t,v=.int (intOf v) t)->Vals ((GB.map intOf).map V.int) GB
 | [],_=>.nil
 | v::GB,h=>.cons (h v (.head _)) (xJ fun y hy=>h y (.tail _ hy))
theorem xK{g:Int->Int}:∀{GB:List Value} {p:Int × Value},p∈((GB.map intOf).map g).zip GB->p.1=g (intOf p.2)/\p.2∈GB
 | [],_,h=>nomatch h
 | v::GB,p,h=>by
  rcases GU.mp (show p∈(g (intOf v),v)::((GB.map intOf).map g).zip GB from h) with rfl | h
  . exact⟨rfl,.head _⟩
  . have:=xK (GB:=GB) h;exact⟨this.1,.tail _ this.2⟩
theorem xM{g:Int->Int}:∀{GB:List Value},(((GB.map intOf).map g).zip GB).map (fun p=>intOf p.2)=GB.map intOf
 | []=>rfl
 | v::GB=>by
  show intOf v::(((GB.map intOf).map g).zip GB).map (fun p=>intOf p.2)=intOf v::GB.map intOf;rw[xM (GB:=GB)]
def Dq{h:Heap}{L:Addr}{m m':Str->Option Value}(a:h.Ns L m)(b:h.Ns L m'):m=m':=by
 obtain⟨o,es,ep,e,d,_,r⟩:=a;obtain⟨o',es',ep',e',d',_,r'⟩:=b;rw[e] at e';cases e';rw[d] at d';cases d'
 funext x
 rw[← r x,← r' x]
def DW{n:Nat}{x:Int}(h:n<=sizeLine)(hx:x<n):x<2^63:=by
 have:(sizeLine:Int)<2^63:=by decide
 omega
theorem ObjOk.obj{P:Program}{w:World}{H:Hp}{h:Heap}{a:Addr}{o:HO}(x:ObjOk P w H h a o):∃ u,h.get? a=some u:=by
 cases o with
 | lst xs=>obtain⟨_,_,_,_,e⟩:=x;exact⟨_,e⟩
 | tup xs=>obtain⟨_,_,_,_,e,_⟩:=x;exact⟨_,e⟩
 | dK GA=>obtain⟨_,_,_,_,o,_,_,e,_⟩:=x;exact⟨_,e⟩
 | dT GA=>obtain⟨_,_,_,_,o,_,_,e,_⟩:=x;exact⟨_,e⟩
 | set S n=>obtain⟨o,_,_,_,e,_⟩:=x;exact⟨_,e⟩
 | ins C dx fs=>obtain⟨_,_,_,e,_⟩:=x;exact⟨_,e⟩
 | own y=>exact x
 | xd fs=>obtain⟨_,⟨_,_,_,e,_⟩,_⟩:=x;exact⟨_,e⟩
 | rng lo hi=>obtain⟨_,_,_,e⟩:=x;exact⟨_,e⟩
 | frz ob u=>obtain⟨e,_⟩:=x;exact⟨_,e⟩
 | tbl ps=>exact⟨_,x⟩
 | met f y=>exact⟨_,x⟩
 | ext φ=>exact x.2.1
def Bg {E:Value->Shared->Prop} {Q:Value->Shared->Prop} {l f c' cc Fl:Addr} {cl:List (Str × Addr)} {ps:Arguments} {sc:Scope} {F v q:Str} {p1 p2 p3:Pos} {pm ctv:Value} {xs fs:∅} (I:Inv X Gx σ H s) (hr:X.A.depth<recursionLimit)
  (pf:(f,PySem.W.kla_obj "<lambda>" q ps (.Subscript (.Name F p1) (.Name v p2) p3) sc cl pm c' ctv)∈Gx) (hcr:s.heap.CodeRec (.ref c') q) (hclo:cl.lookup F=some cc) (hcell:s.heap.IsCell cc ↑Fl) (hcL:cc≠X.env.locals) (hl:H l=↥(xs.map V.int)) (hF:H Fl=↥(fs.map V.int)) (hb:∀ x∈xs,0<=x/\x<fs.length) (h64:xs.length<64)
  (hps:∀ x t,bindArgs (PySem.W.kla_fn "<lambda>" q ps (.Subscript (.Name F p1) (.Name v p2) p3) sc cl pm (.ref c') ctv) ⟨[.int x t],[]⟩=pure [(v,.int x t)])
  (hk:sc.kind=.function) (hco:sc.isCoroutine=false) (hge:sc.isGenerator=false) (hf:∀ y∈sc.names,y.2≠.cell) (hv:sc.names.lookup v=some .local) (hFf:sc.names.lookup F=some .free)
  (hdF:(F==("__debug__":Str))=false) (hcF:(F==("__classdict__":Str))=false) (hdv:(v==("__debug__":Str))=false)
  (h:∀(zs:∅) (D:Addr) (s':Shared),Inv X Gx σ (upd H D (.lst (zs.map V.int))) s'->H D=none->zs.Perm xs->zs.Pairwise (fun x y=>fs.getD x.toNat 0<=fs.getD y.toNat 0)->Q (.ref D) s'):
  wpAny (model X.prog X.w) X.A (call (.builtin "sorted") [.ref l] [("key",.ref f)]) Q E s:=by
 obtain⟨m,fr⟩:=I.fr;obtain⟨GB,n,rv,ho,hz⟩:=I.lst hl;obtain⟨fts,nf,rf,hof,hzf⟩:=I.lst hF;have iv:=sR rv;have ivf:=sR rf;have xl:GB.length=xs.length:=by rw[← iv.1,GG]
 have fll:fts.length=fs.length:=by rw[← ivf.1,GG]
 obtain⟨pg,pn,pL,_⟩:=I.pin _ (Hh _ pf)
 have kept:∀{h:Heap} {own:List (Addr × Obj)},Fr X.base X.env.locals h m->News X.base X.env.locals h (lB X.base s.heap X.env.locals++own)->∀ b o,b≠X.env.locals->s.heap.get? b=some o->h.get? b=some o:=fun F N b o nb e=>by
  cases q:X.base.get? b with
  | some o'=>
   have:=I.bk b o' q;rw[e] at this;cases this;exact F.keep b o q
  | none=>exact(N _ (Io _ (o9 nb q e))).1
 have trL:∀ b u,H b=some u->b≠X.env.locals:=fun b u e z=>by rw[z,I.free] at e;cases e
 refine ksk_sorted (b:=false) (kz:=(GB.map intOf).map fun x=>fs.getD x.toNat 0) fr AH ⟨_,ho,rfl,n,rfl⟩ (by simp) #[0] (by ksk_a1) (fun x=>by ksk_a2) (fun x=>by ksk_a3) (fun i u k hu hk' h tk own F N=>?_) (fun D h' tk out cn F N lt ko=>?_)
 . have hux:=GQ hu;obtain⟨t,ht⟩:=iv.2 u hux;have xm:intOf u∈xs:=by rw[← iv.1];exact List.mem_map_of_mem hux
   have xb:=hb _ xm
   have ek:k=fs.getD (intOf u).toNat 0:=by
    rw[GK,GK,hu] at hk';exact(Ig hk').symm
   have hx1:(intOf u).toNat<fts.length:=by omega
   have wf:fts[(intOf u).toNat]? =some (fts[(intOf u).toNat]'hx1):=GH hx1;obtain⟨t',ht'⟩:=ivf.2 _ (GQ wf)
   have ew:intOf (fts[(intOf u).toNat]'hx1)=k:=by
    rw[ek,← ivf.1,List.getD,GK,wf];rfl
   rw[ew] at ht'
   have cL:c'≠X.env.locals:=fun z=>by
    obtain⟨_,o,vs,_,e1,g1,d1,_⟩:=hcr;cases e1;obtain⟨o2,es,ep,g2,d2,_⟩:=fr.ns;rw[z,g2] at g1;cases g1;rw[d2] at d1;cases d1
   have cell':h.IsCell cc ↑Fl:=by
    obtain⟨o,e,d⟩:=hcell;exact⟨o,kept F N _ _ hcL e,d⟩
   rw[ht];refine Cf (GB:=fts.toArray) (u:=.int k t') (s:={heap:=h,gens:=s.gens,drawn:=s.drawn,toks:=tk,os:=s.os}) hr (kept F N _ _ pL pg) hclo (ge hcr fun o e=>kept F N _ _ cL e) cell' ⟨_,kept F N _ _ (trL _ _ hF) hof,rfl,nf,rfl⟩ xb.1 (DW (by rw[GG] at hzf;exact hzf) xb.2) (by rw[← ht'];simpa using wf) (I.mod.nolimit.keeps F.keep) (hps _ _) hk hco hge hf hv hFf hdF hcF hdv fun h2 tk2 old=>?_;obtain⟨o,es,ep,g,r⟩:=F.ns;exact⟨h2,tk2,t',rfl,rfl,⟨⟨o,es,ep,old _ _ g,r⟩,fun b o e=>old _ _ (F.keep b o e),F.above⟩,fun p hp=>⟨old _ _ (N p hp).1,(N p hp).2⟩⟩
 . obtain⟨prs,pm',eo,pw⟩:=ko;have N2:News X.base X.env.locals h' (lB X.base s.heap X.env.locals++[]):=fun p hp=>N p (GR _ (by simpa using hp));have kp:=kept F N2;have nd:=N _ (.head _);have inD:∀ b o,b≠X.env.locals->X.base.get? b=none->s.heap.get? b=some o->b<D:=fun b o nb q e=>lt _ (o9 nb q e)
   have hD:H D=none:=by
    cases q:H D with
    | none=>rfl
    | some u=>
     obtain⟨o,e⟩:=(I.hok D u q).obj;exact absurd (inD D o nd.2.1 nd.2.2 e) (HP _)
   have neD:∀ b o,s.heap.get? b=some o->b≠D:=fun b o e z=>by
    rw[z] at e;exact absurd (inD D o nd.2.1 nd.2.2 e) (HP _)
   have trk:∀ b u,H b=some u->b≠D:=fun b u e z=>by rw[z,hD] at e;cases e
   have at_:∀{o:HO} b,b≠D->upd H D o b=H b:=fun b z=>aj z
   have hns:∀ m',s.heap.Ns X.env.locals m'->h'.Ns X.env.locals m':=fun m' hm=>by
    rw[Dq hm fr.ns];exact F.ns
   have hperm:(prs.map fun p=>intOf p.2).Perm xs:=by
    have:=pm'.map fun p=>intOf p.2;rw[xM,iv.1] at this;exact this
   have okp:∀ p∈prs,p.1=fs.getD (intOf p.2).toNat 0/\p.2∈GB:=fun p hp=>xK (g:=fun x=>fs.getD x.toNat 0) (pm'.mem_iff.mp hp);have eq:out.toList.map intOf=prs.map fun p=>intOf p.2:=by rw[eo,Hn];rfl
   have hv2:Vals ((out.toList.map intOf).map V.int) out.toList:=xJ fun y hy=>by
    rw[eo] at hy;obtain⟨p,hp,rfl⟩:=G1.mp hy;exact iv.2 _ (okp p hp).2
   have GD:((out.toList.map intOf).map V.int).length<=sizeLine:=by
    rw[GG,eq,hperm.length_eq];exact Hs (Nat.lt_trans h64 #[1])
   refine h (out.toList.map intOf) D _ (I.step (g':=s.gens) (d':=s.drawn) (t':=tk) (ch:=[]) (fun _ z=>nomatch z) (fun b o nL _ _ e _=>kp b o nL e) (fun b o nL _ _ e _=>⟨o.slots,kp b o nL e⟩) (fun b o _ e n=>by rw[at_ b (neD b o e)];exact n) (fun b o _ e=>?_) (fun b ys e=>by rw[at_ b (trk b _ e)];exact e) (fun b o u e=>by rw[at_ b (trk b _ e)];exact e) (fun b qs e=>⟨#[],by rw[at_ b (trk b _ e),e];simp⟩) hns (fun b u e=>?_) I.bare) hD ?_ ?_
   . by_cases z:b=X.env.locals
     . obtain⟨o2,_,_,g,_⟩:=F.ns;rw[z];exact⟨o2,g⟩
     . exact⟨o,kp b o z e⟩
   . by_cases z:b=D
     . rw[z,ah] at e;cases e;rw[z];exact⟨GD,out.toList,cn,hv2,nd.1⟩
     . rw[at_ b z] at e;refine(I.hok b u e).stay (fun d w hd g=>kp d w ?_ g) (fun d hd=>by rw[at_ d (trk d _ hd)];exact hd) fun d ys hd=>by rw[at_ d (trk d _ hd)];exact hd
       rcases hd with rfl | hd
       . exact trL _ _ e
       . exact trL _ _ hd
   . rw[eq];exact hperm
   . rw[eq,List.pairwise_map];refine List.Pairwise.imp_of_mem (fun{a b} ha hb' r=>?_) pw;rw[← (okp a ha).1,← (okp b hb').1]
     simpa using r
def TbOk.put{l c:Nat}{q:Str}{P D:Addr}{o:HO}(x:TbOk l c q H P)(hD:H D=none):TbOk l c q (upd H D o) P:=by
 rcases x with e | ⟨a,e,ea⟩
 . exact .inl (by rw[aj (fun z=>by rw[z,hD] at e;cases e)];exact e)
 . exact .inr ⟨a,by rw[aj (fun z=>by rw[z,hD] at e;cases e)];exact e,by rw[aj (fun z=>by rw[z,hD] at ea;cases ea)];exact ea⟩
def mR(P:Addr)(l c:Nat)(q:Str)(te:TE)(i:Nat):TE:=fun σ H Q=>te σ H fun v H1=>∃(a F:Addr) (xs fs:∅),v=.ref a/\H1 a=↥(xs.map V.int)/\σ[i]? =some ↑F/\H1 F=↥(fs.map V.int)/\(∀ x∈xs,0<=x/\x<fs.length)/\xs.length<64/\TbOk l c q H1 P/\
 ∀(zs:∅) (r:Addr) (H2:Hp),H1 r=none->zs.Perm xs->zs.Pairwise (fun x y=>fs.getD x.toNat 0<=fs.getD y.toNat 0)->SameX P H1 H2->TbOk l c q H2 P->H2 r=↥(zs.map V.int)->Q (.ref r) H2
def yG {e:Expr} {te:TE} {p pos lp kp p1 p2 p3:Pos} {F v q:Str} {i:Nat} {ps:Arguments} {sc:Scope} {c P:Addr} (hgl:Gl X "sorted") (hl:X.mg "sorted"=none) (hr:X.A.depth<recursionLimit) (hcode:X.env.code=.ref c) (hcd:PySem.W.CodeHd X.base c P) (hbu:X.base.BuiltinsAt X.mg P) (hmP:mainGlobals≠P) (he:PE X e te) (hN:X.N[i]? =some F) (hFc:X.env.scope.names.lookup F=some .cell) (hq:X.env.qual++"<lambda>"=q)
  (hdf:defaultsOf ps X.env=([],[])) (hfr:∀ x,(x,NameKind.free)∈sc.names->x=F) (hFm:(F,NameKind.free)∈sc.names)
  (hps:∀ cl pm c' ctv x t,bindArgs (PySem.W.kla_fn "<lambda>" q ps (.Subscript (.Name F p1) (.Name v p2) p3) sc cl pm (.ref c') ctv) ⟨[.int x t],[]⟩=pure [(v,.int x t)])
  (hk:sc.kind=.function) (hco:sc.isCoroutine=false) (hge:sc.isGenerator=false) (hf:∀ y∈sc.names,y.2≠.cell) (hv:sc.names.lookup v=some .local) (hFf:sc.names.lookup F=some .free)
  (hdF:(F==("__debug__":Str))=false:=by decide) (hcF:(F==("__classdict__":Str))=false:=by decide) (hdv:(v==("__debug__":Str))=false:=by decide)
  (hs1:starEach [e] X.env=[(false,eval e X.env)]:=by rfl):
  PE X (.Call (.Name "sorted" p) [e] [⟨some "key",.Lambda ps (.Subscript (.Name F p1) (.Name v p2) p3) sc lp,kp⟩] pos) (mR P lp.line lp.col q te i):=by
 subst hq;intro Gx s σ H Q I h;refine HS (fF I hgl hl d4 ?_ #[1] #[1]);refine callWith_builtin_kwB (by rw[hs1];rfl) rfl ?_;refine evalArgs_kw2 rfl ?_ hs1;rw[hs1];show wpAny _ _ (spliced [(false,eval e X.env)]) _ _ s;refine Iz (thn (he Gx s σ H _ I h) fun u s1 ⟨x,H1,I1,r1,q1⟩=>?_);refine IE ?_;obtain⟨a,Fl,xs,fs,rfl,ea,eσ,eF,hb,h64,tb,q⟩:=q1;cases r1;show wpAny _ _ (evalAll [eval (.Lambda ps (.Subscript (.Name F p1) (.Name v p2) p3) sc lp) X.env >>= fun v=>standAt pos >>= fun _=>pure v]) _ _ s1;refine wpAny_evalAll_cons ?_;refine Hl ?_;obtain⟨cc,hcc⟩:=I.ok.has F (.inl hFc);refine Bf I1 hcode hcd hbu hmP tb hdf (fun x hx=>by rw[hfr x hx];exact⟨cc,hcc⟩) fun f c' cl pm ctv H2 s2 I2 c1 c2 cr sx tb2 fr2=>?_;refine Hl (Ka ?_);refine HE ?_;refine wpAny_evalAll_nil ?_;show wpAny _ _ (call (.builtin "sorted") [.ref a] [("key",.ref f)]) _ _ s2;obtain⟨cf,hcf⟩:=c2 F hFm;have hcx:=c1 F cf hcf
 have cell:s2.heap.IsCell cf ↑Fl:=by
  obtain⟨m,_,hl'⟩:=I2.loc;obtain⟨u,r,lk⟩:=hl' i F (.ref Fl) hN eσ (.inr (.inl hFc));cases r;rcases lk with ⟨k1,_⟩ | ⟨_,c3,e3,z⟩
  . have k2:X.env.scope.names.lookup F=some .local:=k1;rw[hFc] at k2;cases k2
  . rw[hcx] at e3;cases e3;exact z
 have nP:∀{b:Addr} {ys:List V},H1 b=↥ys->b≠P:=fun eb z=>by
  rcases tb with e | ⟨_,e,_⟩ <;> (rw[z,e] at eb;cases eb)
 refine Bg I2 hr (.head _) cr hcf cell (I2.cne F cf hcx) (sx _ _ (nP ea) ea) (sx _ _ (nP eF) eF) hb h64 (hps cl pm c' ctv) hk hco hge hf hv hFf hdF hcF hdv fun zs D s' I3 hD pm' pw=>?_;refine⟨.ref D,_,I3.pins_of fun p hp=>I3.pin p (Hh _ (.tail _ hp)),rfl,q zs D _ (fr2 D hD) pm' pw (fun b o nb eb=>?_) (tb2.put hD) ah⟩;rw[aj (fun z=>by have:=sx b o nb eb;rw[z,hD] at this;cases this)];exact sx b o nb eb
end
theorem Ao {P:Program} {w:World} {K:Frag} {mg mb:Str->Option Value} {CX:CXT} {k:Nat} {fa a:Addr} {fd:FuncData} {x:Str} {sp:Sp} {s₁:Shared} {vs:List Value} {ns:∅}
  {P':Addr} (KX:K.In s₁.heap) (eP:s₁.heap.get? P'=some (PySem.W.tabObj #[])) (hPK:K.lookup P'=none) (hPt:isCodeTable s₁.heap P') (hbm:s₁.heap.BuiltinsAt mg P') (hns:s₁.heap.Ns mainGlobals mg) (hb:s₁.heap.Ns builtinsNs mb) (hbb:∀ x:Str,x≠"__name__"->mb x=bootBuiltins x) (hlim:s₁.heap.NoLimit) (hg:s₁.gens=#[])
  (ha:s₁.heap.get? a=some {cls:=.type "list",data:=.seq vs.toArray}) (hi:IntsAre vs ns) (hl:ns.length<=sizeLine) (hr:Room k callerA)
  (F:∀ base:Heap,K.In base->base.Ns mainGlobals mg->base.BuiltinsAt mg P'->FnOk P w K mg base CX k fa fd [x] sp) (hbind:∀(s:Shared) (u:Value),BindsTo s fd ⟨[u],[]⟩ [(x,u)])
  (hsp:∀ H:Hp,H P'=some (.tbl #[])->SqL K H a (ns.map V.int)->sp [.ref a] H (fun v _=>v=.bl true) fun _ _ _=>False)
  (hCX:∀ H e s',CX [] H s₁ (fun _ _ _=>False) e s'->False):
  codeAny (model P w) callerA (.call (.ref fa) ⟨[.ref a],[]⟩) (fun r s'=>r=.ok (.ret (.bool true))/\OldK s₁.heap s'.heap/\s'.os=s₁.os/\AllBare s'.gens) s₁:=by
 have rv:=nr hi;have lenV:=hi.length
 have core:∀ H:Hp,(∀ b,H b=none\/(∃ o xs,H b=some (.frz o (.lst xs)))\/b=P')->H P'=some (.tbl #[])->SqL K H a (ns.map V.int)->HOk P w H s₁.heap->(∀ b,H b≠none->b=a\/b=P')->(H a≠none->K.lookup a=none)->
   codeAny (model P w) callerA (.call (.ref fa) ⟨[.ref a],[]⟩) (fun r s'=>r=.ok (.ret (.bool true))/\OldK s₁.heap s'.heap/\s'.os=s₁.os/\AllBare s'.gens) s₁:=by
  intro H hO hT hS hok hA hK;have base_of:∀{b:Addr} {o:Obj},s₁.heap.get? b=some o->H b=none->(hidT s₁.heap H).get? b=some o:=fun e n=>AG e n
  have noA:∀{b:Addr} {o:Obj} {es:Array DictEntry} {ep:Nat},s₁.heap.get? b=some o->o.data=.dict es ep->H b=none:=fun{b o es ep} e d=>by
   cases q:H b with
   | none=>rfl
   | some u=>
    rcases hA b (by rw[q];simp) with e' | e'
    . subst e';rw[ha] at e;cases e;have d':Data.seq vs.toArray _=Data.dict es ep:=d;cases d'
    . subst e';rw[eP] at e;cases e;have d':Data.fields #[]=Data.dict es ep:=d;cases d'
  have nsK:∀{b:Addr} {m:Str->Option Value},s₁.heap.Ns b m->(hidT s₁.heap H).Ns b m:=fun{b m} ⟨o,es,ep,e,d,r⟩=>⟨o,es,ep,base_of e (noA e d),d,r⟩
  have hKb:K.In (hidT s₁.heap H):=fun b o e=>base_of (KX b o e) (by
   cases q:H b with
   | none=>rfl
   | some u=>
    rcases hA b (by rw[q];simp) with e' | e'
    . subst e';rw[hK (by rw[q];simp)] at e;cases e
    . subst e';rw[hPK] at e;cases e)
  have hBb:(hidT s₁.heap H).BuiltinsAt mg P':=by
   obtain⟨bm,o,h1,h2,h3,h4,h5,h6,h7,h8⟩:=hbm;refine⟨bm,o,h1,h2,h3,h4,base_of h5 ?_,h6,h7,h8⟩
   cases q:H bm with
   | none=>rfl
   | some u=>
    rcases hA bm (by rw[q];simp) with e' | e'
    . subst e';rw[ha] at h5;cases h5;cases h8
    . exact absurd e' h4
  have hM:Mod K mg (hidT s₁.heap H):=⟨hKb,nsK hns,⟨mb,nsK hb,hbb⟩,let ⟨mc,h1,h2⟩:=hlim;⟨mc,nsK h1,h2⟩⟩;have e0:Env0 P w K mg (hidT s₁.heap H) callerA [] s₁ H:=⟨rfl,hM,fun b o e=>BF e,Nat.le_of_eq (za _ _),trivial,fun b hb=>absurd (show b∈([]:List Addr) from hb) (by simp),hok,.of_eq hg⟩;refine Ke ((F _ hKb (nsK hns) hBb).run callerA [] s₁ H ⟨[.ref a],[]⟩ [.ref a] [.ref a] _ _ hr e0 (hbind s₁ (.ref a)) (.cons rfl .nil) (hsp H hT hS)) fun r s' h=>?_
  cases r with
  | error e=>exact(hCX H e s' h).elim
  | ok fl=>
   cases fl with
   | next=>exact False.elim h
   | brk=>exact False.elim h
   | cont=>exact False.elim h
   | ret u=>
    obtain⟨v,H',os,bare,un,hok',r',q⟩:=h;have q':v=.bl true:=q;subst q';obtain rfl:u=Value.bool true:=r'
    have was:∀ b o,s₁.heap.get? b=some o->asItWas s₁.heap s'.heap b o:=fun b o e=>by
     cases q:H b with
     | none=>exact .inl (un.keep b o e q (by intro z;exact absurd (show b∈([]:List Addr) from z) (by simp)) (by simp))
     | some u=>
      rcases hO b with z | ⟨ob,xs,z⟩ | z
      . rw[q] at z;cases z
      . have z2:=un.frzs b ob _ z;obtain⟨e1,_⟩:=hok b _ z;obtain⟨e2,_⟩:=hok' b _ z2;rw[e] at e1;cases e1;exact .inl e2
      . subst z;obtain⟨more,em⟩:=un.tbls b _ hT;have g:=hok' b _ em;rw[eP] at e;cases e;exact .inr (.inl ⟨hPt,rfl,#[],more,rfl,g⟩)
    exact⟨rfl,⟨was,fun b o e=>un.there b o e (by simp)⟩,os,bare⟩
 cases hk:K.lookup a with
 | some o=>
  have e:=KX a o hk;rw[ha] at e;cases e;refine core (fun b=>if b=P' then some (.tbl #[]) else none) (fun b=>?_) (G9 rfl) (.inr ⟨_,vs.toArray,_,hk,rfl,rfl,rfl,by rw[GT,lenV];exact hl,by simpa using rv⟩) (fun b u z=>?_) (fun b z=>?_) (fun z=>?_)
  . by_cases hb:b=P'
    . exact .inr (.inr hb)
    . exact .inl (G3 hb)
  . by_cases hb:b=P'
    . have z':=(G9 hb).symm.trans z;cases z';rw[hb];exact eP
    . have z':=(G3 hb).symm.trans z;cases z'
  . by_cases hb:b=P'
    . exact .inr hb
    . exact absurd (G3 hb) z
  . have na:a≠P':=fun e=>by rw[e,hPK] at hk;cases hk
    exact absurd (G3 na) z
 | none=>
  refine core (fun b=>if b=a then some (.frz {cls:=.type "list",data:=.seq vs.toArray} (.lst (ns.map V.int))) else if b=P' then some (.tbl #[]) else none) (fun b=>?_) ?_ (.inl (.inr ⟨{cls:=.type "list",data:=.seq vs.toArray},G9 rfl⟩)) (fun b u z=>?_) (fun b z=>?_) fun _=>hk
  . by_cases hb:b=a
    . exact .inr (.inl ⟨_,_,G9 hb⟩)
    . by_cases hp:b=P'
      . exact .inr (.inr hp)
      . exact .inl ((G3 hb).trans (G3 hp))
  . have na:P'≠a:=fun e=>by rw[e,ha] at eP;cases eP
    exact(G3 na).trans (G9 rfl)
  . by_cases hb:b=a
    . have z':=(G9 hb).symm.trans z;cases z';subst hb;exact⟨ha,by rw[GG];exact hl,vs,_,rv,ha⟩
    . by_cases hp:b=P'
      . have z':=((G3 hb).trans (G9 hp)).symm.trans z;cases z';rw[hp];exact eP
      . have z':=((G3 hb).trans (G3 hp)).symm.trans z;cases z'
  . by_cases hb:b=a
    . exact .inl hb
    . by_cases hp:b=P'
      . exact .inr hp
      . exact absurd ((G3 hb).trans (G3 hp)) z
def Bh {l:PySem.W.OpenLaw} {n k:Nat} {q:Program} {loose:List Str} {XP:(Str->Option Value)->Heap->Prop} {YP:World->Heap->Prop} {d:DefRec} {K:Params->Frag} {CX:World->CXT} {sp:World->Sp} {x:Str}
  (hn:l.most=some n) (hn2:n<=sizeLine) (hdf:d.params.defaults=[]) (hr:Room k callerA)
  {P' c':Addr} (hY:∀(w:World) (h:Heap),YP w h->(K w.params).In h/\h.get? P'=some (PySem.W.tabObj #[])) (hPK:∀ w:World,(K w.params).lookup P'=none) (hPt:∀(w:World) (h:Heap),(K w.params).In h->isCodeTable h P')
  (F:∀(w:World) (mg:Str->Option Value) (fa:Addr) (h:Heap),(K w.params).In h->h.Ns mainGlobals mg->mg d.name=↑fa->
   ∃ fd:FuncData,(∀(s:Shared) (u:Value),BindsTo s fd ⟨[u],[]⟩ [(x,u)])/\
    ∀ base:Heap,(K w.params).In base->base.Ns mainGlobals mg->base.BuiltinsAt mg P'->FnOk l.prog w (K w.params) mg base (CX w) k fa fd [x] (sp w))
  (hsp:∀(w:World) (H:Hp) (a:Addr) (ns:∅),ns.length<=n->H P'=some (.tbl #[])->SqL (K w.params) H a (ns.map V.int)->sp w [.ref a] H (fun v _=>v=.bl true) fun _ _ _=>False)
  (hCX:∀(w:World) (H:Hp) (s:Shared) (e:Value) (s':Shared),CX w [] H s (fun _ _ _=>False) e s'->False):
  PySem.W.WalkO q loose XP YP l.row.toRowW d [] (fun f vs=>PySem.call f vs):=by
 refine Att.attach_call hn hdf fun w s₀ s₁ mg mb fa o pm cd doc a vs ns G Y ho hd hcd hmg hobj hints GD hg=>?_;have KX:=(hY w _ Y).1;have eP:=(hY w _ Y).2;obtain⟨fd,hb,hF⟩:=F w mg fa _ KX G.T.g hmg
 have hbm:s₁.heap.BuiltinsAt mg P':=by
  obtain⟨bm,ob,h1,h2,h3,h4,h5,h6⟩:=G.T.bmain;refine⟨bm,ob,h1,h2,fun e=>?_,fun e=>?_,h3,h4,h5,h6⟩
  . obtain⟨o,es,ep,g,d,_⟩:=G.T.g;rw[e,g] at h3;cases h3;rw[h6] at d;cases d
  . rw[e,eP] at h3;cases h3;cases h6
 exact Ao KX eP (hPK w) (hPt w _ KX) hbm G.T.g G.T.b G.T.builtins G.T.nolimit hg hobj hints (GS GD hn2) hr hF hb (fun H hO hS=>hsp w H a ns GD hO hS) fun H e s'=>hCX w H s₁ e s'
structure Z5 where
 P:Program
 w:World
 K:Frag
 mg:Str->Option Value
 base:Heap
structure Bt3(Z:Z5):Prop extends Bt2 Z.mg where
 ns:∀{x:Str} {v:Value},nsIn Z.K mainGlobals x=some (some v)->Z.mg x=some v
def Nn(K:Frag)(b:Str):Prop:=nsIn K mainGlobals b=some none
def Zn(K:Frag):Prop:=Nn K "len"/\Nn K "abs"/\Nn K "min"/\Nn K "max"/\Nn K "sorted"/\Nn K "any"/\Nn K "isinstance"/\Nn K "list"/\Nn K "int"/\Nn K "bool"/\Nn K "str"/\Nn K "tuple"/\Nn K "reversed"/\Nn K "set"/\Nn K "range"/\Nn K "zip"/\Nn K "all"/\Nn K "sum"/\Nn K "enumerate"
def Dr{Z:Z5}{h:Heap}(X:Z.K.In h)(G:h.Ns mainGlobals Z.mg)(z:Zn Z.K):Bt3 Z:=by
 obtain⟨a,b,c,d,e,f,g,i,j,k,l,m,n,o,p,q,r,s,t⟩:=z;have N:∀{b:Str},Nn Z.K b->Z.mg b=none:=fun h=>PySem.W.mg_none_of X G h;exact⟨⟨⟨N a,N b,N c,N d,N e,N f,N g,N i,N j,N k,N l,N m,N n,N o,N p,N q⟩,N r,N s,N t⟩,fun h=>PySem.W.mg_of X G h⟩
structure De(K:Frag)(x:Str)(st:Stmt):Prop where
 ex:∃(f:Addr) (fd:FuncData),nsIn K mainGlobals x=some ↑f/\Fun K x x st f fd
structure Me(K:Frag)(x qual:Str)(st:Stmt)(f:Addr):Prop where
 ex:∃ fd:FuncData,Fun K x qual st f fd/\isFn K (.ref f)=true
structure ClsP(K:Frag)(x:Str)(A f:Addr):Prop where
 q:nsIn K mainGlobals x=some ↑A
 m1:PySem.W.makesIn K A=true
 m2:findIn K (.ref A) "__init__"=some ↑f
 m4:keepIn K (.ref A)=true
 cl:Cls K A
def mkC(x1 x2 x3 x4 x5 x6 x7 x8:Addr):RCl RK:=⟨fun k=>match k with | .Rule=>x1 | .Unlike=>x1 | .Sum=>x2 | .Rising=>x3 | .Seen=>x4 | .Count=>x5 | .Joined=>x6 | .NoSquare=>x7 | .Ring=>x8,fun k=>match k with | .Rule=>false | _=>true⟩
def mk1(c:RCl RK)(k:RK):RCl RK:=⟨c.A,match k with | .Joined=>(fun i=>match i with | .Joined=>true | _=>false) | .Ring=>(fun i=>match i with | .Ring=>true | _=>false) | _=>fun _=>false⟩
def mkD(y:Addr):RCl PzK:=⟨fun _=>y,fun _=>true⟩
def lN{c:RCl RK}{k i:RK}(h:(mk1 c k).ok i=true):i=k:=by cases k <;> cases i <;> first | rfl | cases h
def At8(K:Frag)(m:Str)(v:Option Value)(x1 x2 x3 x4 x5 x6 x7 x8:Addr):Prop:=findIn K (.ref x1) m=some v/\findIn K (.ref x2) m=some v/\findIn K (.ref x3) m=some v/\findIn K (.ref x4) m=some v/\findIn K (.ref x5) m=some v/\findIn K (.ref x6) m=some v/\findIn K (.ref x7) m=some v/\findIn K (.ref x8) m=some v
def C8(K:Frag)(x1 x2 x3 x4 x5 x6 x7 x8:Addr):Prop:=Cls K x1/\Cls K x2/\Cls K x3/\Cls K x4/\Cls K x5/\Cls K x6/\Cls K x7/\Cls K x8
section
variable{Z:Z5}{K:Frag}{x1 x2 x3 x4 x5 x6 x7 x8 f:Addr}{m:Str}{v:Option Value}
def at8(h:At8 K m v x1 x2 x3 x4 x5 x6 x7 x8)(k:RK):findIn K (.ref ((mkC x1 x2 x3 x4 x5 x6 x7 x8).A k)) m=some v:=by
 obtain⟨a,b,c,d,e,f,g,i⟩:=h;cases k <;> assumption
def c8(h:C8 K x1 x2 x3 x4 x5 x6 x7 x8)(k:RK):Cls K ((mkC x1 x2 x3 x4 x5 x6 x7 x8).A k):=by
 obtain⟨a,b,c,d,e,f,g,i⟩:=h;cases k <;> assumption
def fk8(C:C8 K x1 x2 x3 x4 x5 x6 x7 x8)(h:At8 K m none x1 x2 x3 x4 x5 x6 x7 x8):FldK K (mkC x1 x2 x3 x4 x5 x6 x7 x8) m:=⟨fun k _=>⟨c8 C k,at8 h k⟩⟩
def fk1{c:RCl RK}{k:RK}(hk:c.ok k=true)(F:FldK K c m):FldK K (mk1 c k) m:=⟨fun i hi=>by cases lN hi;exact F.ex k hk⟩
variable{N ps:List Str}{k k':Nat}{sp sp':Sp}{t:TS}{x qual:Str}{st:Stmt}
abbrev Hb(Z:Z5)(N:List Str)(qual:Str)(st:Stmt)(f:Addr)(k:Nat)(t:TS):Prop:=∀{Gz:Value} {A:Around} {outer:List Env} {s:Shared} {H:Hp} {E:XK},Room k (A.deeper (envOfC qual (aJ st) s.heap.objs.size f Gz))->(A.deeper (envOfC qual (aJ st) s.heap.objs.size f Gz)).units+64<cLine->N.Nodup->PSs (cxOf CX0 Z.P Z.w Z.K Z.mg Z.base N qual (aJ st) f Gz A outer s H E).nox (bJ st) t
abbrev Rk(N:List Str)(sp:Sp)(t:TS):Prop:=∀{vs H Q E},sp vs H Q E->t (eD9 Q) (start N vs) H
abbrev Ln(ps:List Str)(sp:Sp):Prop:=∀{vs H Q E},sp vs H Q E->vs.length=ps.length
abbrev Bd(x qual:Str)(st:Stmt)(ps:List Str):Prop:=∀(kV doc pm:Value) (an:Option Addr) (Gz ct:Value) (us:List Value),us.length=ps.length->bindArgs (fnOf x qual (cM st) (bJ st) (aJ st) .none kV doc pm an Gz ct) ⟨us,[]⟩=pure (ps.zip us)
def okf{f:Addr}{fd:FuncData}(F:Fun Z.K x qual st f fd)(S:gz N ps (aJ st))(rk:Rk N sp t)(hb:Hb Z N qual st f k t)(len:Ln ps sp):FnOk Z.P Z.w Z.K Z.mg Z.base CX0 (k+1) f fd ps sp:=F.ok S (fun _ _ _ _ h=>len h) fun Gz A outer s H vs Q E hr h=>⟨t,hb hr hr.units S.nd,rk h⟩
local macro_rules | `(tactic| walk_at "l")=>`(tactic| (intro vs H Q E h; (repeat obtain ⟨_,h⟩:=h); subst_vars; rfl))
theorem sS{α:Type}{us:List α}{n:Nat}(e:us.length=n+1):∃ u t,t.length=n/\us=u::t:=by
 cases us with
 | nil=>cases e
 | cons u t=>exact⟨u,t,Nat.succ.inj e,rfl⟩
def bd1{a0:Str}(h:∀ kV doc pm an Gz ct u0,bindArgs (fnOf x qual (cM st) (bJ st) (aJ st) .none kV doc pm an Gz ct) ⟨[u0],[]⟩=pure ([a0].zip [u0]):=by intros;rfl):Bd x qual st [a0]:=by
 intro _ _ _ _ _ _ _ e;(iterate 1 (obtain⟨_,_,f,rfl⟩:=sS e;clear e;have e:=f;clear f));cases HJ e;exact h ..
def bd2{a0 a1:Str}(h:∀ kV doc pm an Gz ct u0 u1,bindArgs (fnOf x qual (cM st) (bJ st) (aJ st) .none kV doc pm an Gz ct) ⟨[u0,u1],[]⟩=pure ([a0,a1].zip [u0,u1]):=by intros;rfl):Bd x qual st [a0,a1]:=by
 intro _ _ _ _ _ _ _ e;(iterate 2 (obtain⟨_,_,f,rfl⟩:=sS e;clear e;have e:=f;clear f));cases HJ e;exact h ..
def bd3{a0 a1 a2:Str}(h:∀ kV doc pm an Gz ct u0 u1 u2,bindArgs (fnOf x qual (cM st) (bJ st) (aJ st) .none kV doc pm an Gz ct) ⟨[u0,u1,u2],[]⟩=pure ([a0,a1,a2].zip [u0,u1,u2]):=by intros;rfl):Bd x qual st [a0,a1,a2]:=by
 intro _ _ _ _ _ _ _ e;(iterate 3 (obtain⟨_,_,f,rfl⟩:=sS e;clear e;have e:=f;clear f));cases HJ e;exact h ..
def bd4{a0 a1 a2 a3:Str}(h:∀ kV doc pm an Gz ct u0 u1 u2 u3,bindArgs (fnOf x qual (cM st) (bJ st) (aJ st) .none kV doc pm an Gz ct) ⟨[u0,u1,u2,u3],[]⟩=pure ([a0,a1,a2,a3].zip [u0,u1,u2,u3]):=by intros;rfl):Bd x qual st [a0,a1,a2,a3]:=by
 intro _ _ _ _ _ _ _ e;(iterate 4 (obtain⟨_,_,f,rfl⟩:=sS e;clear e;have e:=f;clear f));cases HJ e;exact h ..
def bd5{a0 a1 a2 a3 a4:Str}(h:∀ kV doc pm an Gz ct u0 u1 u2 u3 u4,bindArgs (fnOf x qual (cM st) (bJ st) (aJ st) .none kV doc pm an Gz ct) ⟨[u0,u1,u2,u3,u4],[]⟩=pure ([a0,a1,a2,a3,a4].zip [u0,u1,u2,u3,u4]):=by intros;rfl):Bd x qual st [a0,a1,a2,a3,a4]:=by
 intro _ _ _ _ _ _ _ e;(iterate 5 (obtain⟨_,_,f,rfl⟩:=sS e;clear e;have e:=f;clear f));cases HJ e;exact h ..
def bd6{a0 a1 a2 a3 a4 a5:Str}(h:∀ kV doc pm an Gz ct u0 u1 u2 u3 u4 u5,bindArgs (fnOf x qual (cM st) (bJ st) (aJ st) .none kV doc pm an Gz ct) ⟨[u0,u1,u2,u3,u4,u5],[]⟩=pure ([a0,a1,a2,a3,a4,a5].zip [u0,u1,u2,u3,u4,u5]):=by intros;rfl):Bd x qual st [a0,a1,a2,a3,a4,a5]:=by
 intro _ _ _ _ _ _ _ e;(iterate 6 (obtain⟨_,_,f,rfl⟩:=sS e;clear e;have e:=f;clear f));cases HJ e;exact h ..
local macro_rules | `(tactic| ac_rfl)=>`(tactic| exact ⟨rfl,rfl,rfl,by decide+kernel,rfl,by decide+kernel,by decide+kernel⟩)
def okc(B:Bt3 Z)(D:De Z.K x st)(rk:Rk N sp t)(b:Bd x x st ps)(hb:∀{f},Hb Z N x st f k t)(S:gz N ps (aJ st):=by ac_rfl)(len:Ln ps sp:=by walk_at "l"):Cal Z.P Z.w Z.K Z.mg Z.base (k+1) x ps sp:=
 let ⟨f,fd,a,F⟩:=D.ex
 ⟨f,fd,okf F S rk hb len,B.ns a,F.kp,F.binds b⟩
structure Mo(Z:Z5)(k:Nat)(f:Addr)(ps:List Str)(sp:Sp):Prop where
 ex:∃ fd:FuncData,FnOk Z.P Z.w Z.K Z.mg Z.base CX0 k f fd ps sp/\Binds Z.K fd ps []/\isFn Z.K (.ref f)=true/\keepIn Z.K (.ref f)=true
def okm(D:Me Z.K x qual st f)(rk:Rk N sp t)(b:Bd x qual st ps)(hb:Hb Z N qual st f k t)(S:gz N ps (aJ st):=by ac_rfl)(len:Ln ps sp:=by walk_at "l"):Mo Z (k+1) f ps sp:=
 let ⟨fd,F,n⟩:=D.ex
 ⟨fd,okf F S rk hb len,F.binds b,n,F.kp⟩
def Mo.at{C:Addr}(T:Mo Z k f ps sp)(cl:Cls Z.K C)(a:findIn Z.K (.ref C) m=some ↑f)(imp:∀ vs H Q E,sp' vs H Q E->sp vs H Q E)(hk:k<=k':=by decide):∃(f:Addr) (fd:FuncData),Cls Z.K C/\Meth Z.K C m f/\FnOk Z.P Z.w Z.K Z.mg Z.base CX0 k' f fd ps sp'/\Binds Z.K fd ps []:=
 let ⟨fd,F,b,n,kp⟩:=T.ex
 ⟨f,fd,cl,⟨a,n,kp⟩,(F.mono hk).imp imp,b⟩
def Mo.mke{C:Addr}(T:Mo Z k f ps sp)(B:Bt3 Z)(c:ClsP Z.K x C f):KCal Z.P Z.w Z.K Z.mg Z.base k x C ps sp:=
 let ⟨fd,F,b,n,_⟩:=T.ex
 ⟨f,fd,⟨c.m1,c.m2,n,c.m4⟩,F,B.ns c.q,b⟩
def De.of{K:Frag}{f:Addr}{fd:FuncData}(a:nsIn K mainGlobals x=some ↑f)(F:Fun K x x st f fd):De K x st:=⟨f,fd,a,F⟩
def Me.of{K:Frag}{f:Addr}{fd:FuncData}(F:Fun K x qual st f fd)(n:isFn K (.ref f)=true):Me K x qual st f:=⟨fd,F,n⟩
structure GT0(K:Frag)(x:Str)(ws:List Str):Prop where
 ex:∃(p:Addr) (o:Obj) (GB:Array Value) (n:Nat),nsIn K mainGlobals x=some ↑p/\K.lookup p=some o/\o.cls=.type "tuple"/\o.data=.seq GB n/\GB.size<=sizeLine/\Vals (ws.map V.str) GB.toList
def GT0.mk'{K:Frag}{ws:List Str}{p:Addr}{o:Obj}{GB:Array Value}{n:Nat}(a:nsIn K mainGlobals x=some ↑p)(b:K.lookup p=some o)(c:o.cls=.type "tuple")(d:o.data=.seq GB n)(e:GB.size<=sizeLine)(v:Vals (ws.map V.str) GB.toList):GT0 K x ws:=⟨p,o,GB,n,a,b,c,d,e,v⟩
def GT0.of{ws:List Str}(g:GT0 Z.K x ws)(B:Bt3 Z):GTup Z.K Z.mg x ws:=let ⟨p,o,i,n,a,r⟩:=g.ex;⟨p,o,i,n,B.ns a,r⟩
structure GD0(w:World)(K:Frag)(x:Str)(D:List (Str × List Str)):Prop where
 ex:∃(p:Addr) (o:Obj) (es:Array DictEntry) (ep:Nat),nsIn K mainGlobals x=some ↑p/\K.lookup p=some o/\o.ExactDict/\o.data=.dict es ep/\DRows w K es.toList D/\(D.map fun x=>x.1).Nodup
def GD0.of{D:List (Str × List Str)}(g:GD0 Z.w Z.K x D)(B:Bt3 Z):GDict Z.w Z.K Z.mg x D:=let ⟨p,o,i,n,a,r⟩:=g.ex;⟨p,o,i,n,B.ns a,r⟩
end
section
variable{X:Cx}{a b e:Expr}{ta tb te:TE}{pos pos' p:Pos}{x:Str}{es:List Expr}{t:TA}{ps:List Str}{sp:Sp}{k n:Nat}
def kcal(C:Cal X.prog X.w X.K X.mg X.base k x ps sp)(hr:Room n X.A)(ha:PA X (e::es) t)(hk:k<=n:=by decide)(hg:Gl X x:=by exact rfl)(hdb:(x==("__debug__":Str))=false:=by decide)(he:starEach (e::es) X.env=(false,eval e X.env)::starEach es X.env:=by rfl)(hpl:(backTo pos (starEach es X.env)).any (·.1)=false:=by rfl):PE X (.Call (.Name x p) (e::es) [] pos) (tCall sp [] E0 t):=CS C hr hk hg ha hdb he hpl
def kix(hu:X.A.units+64<cLine)(ha:PE X a ta)(hb:PE X b tb)(hs:sj b:=by exact fun _ _=>rfl):PE X (.Subscript a b pos) (tOp cIx ta tb):=uJ (CP hu) ha hb hs
def kset(i:Nat)(hN:X.N.Nodup)(he:PE X e te)(hi:X.N[i]? =some x:=by exact rfl)(hx:Loc X.env.scope x:=by exact Or.inl rfl)(hs:swapsWith e (some (.Name x pos')) pos.line X.env=pure false:=by rfl)(hf:X.fn x=true\/X.env.scope.names.lookup x=some .local:=by first | exact .inl rfl | exact .inr rfl | assumption):PS X (.Assign [.Name x pos'] e pos) (tAsg te (gName i)):=lC hN hi hx he hs hf
end
def tabP(K:Frag)(x:Str):Addr:=match PySem.W.tabIn K x with | some (_,P)=>P | none=>0
variable{K:Frag}{c P:Addr}
def xN{x:Str}(h:PySem.W.tabIn K x=some (c,P)):tabP K x=P:=by unfold tabP;rw[h]
structure CdP(K:Frag)(c P:Addr):Prop where
 ex:∃(o:Obj) (vs:Array Value) (file:Str) (tf:Tok) (flags:Int) (tg:Tok) (inF:Bool) (text:Int) (tt:Tok),K.lookup c=some o/\o.cls=.type "code"/\o.data=.fields vs/\vs[11]? =↑P/\vs.getD 11 .none=.ref P/\vs.getD 18 .none=.str file tf/\vs.getD 7 .none=.int flags tg/\vs.getD 9 .none=.bool inF/\vs.getD 10 .none=.int text tt/\c≠P
variable{vs:Array Value}
def CdP.mk'{o:Obj}{file:Str}{tf tg tt:Tok}{flags text:Int}{inF:Bool}(a:K.lookup c=some o)(b:o.cls=.type "code")(d:o.data=.fields vs)(e:vs[11]? =↑P)(f:vs.getD 11 .none=.ref P)(g:vs.getD 18 .none=.str file tf)(i:vs.getD 7 .none=.int flags tg)(j:vs.getD 9 .none=.bool inF)(k:vs.getD 10 .none=.int text tt)(l:c≠P):CdP K c P:=⟨o,vs,file,tf,flags,tg,inF,text,tt,a,b,d,e,f,g,i,j,k,l⟩
def CdP.hd{h:Heap}(x:CdP K c P)(X:K.In h):PySem.W.CodeHd h c P:=by
 obtain⟨o,vs,file,tf,flags,tg,inF,text,tt,a,r⟩:=x.ex;exact⟨o,vs,file,tf,flags,tg,inF,text,tt,X _ _ a,r⟩
def CdP.tab{h:Heap}(x:CdP K c P)(X:K.In h):isCodeTable h P:=by
 obtain⟨o,vs,file,tf,flags,tg,inF,text,tt,a,b,d,e,_⟩:=x.ex;exact⟨c,o,vs,X _ _ a,b,d,e⟩
def vV{x:Str}{f:Addr}{cl cl2:Value}{di di2:Option Addr}{fd:FuncData}{sl sl2:Array (Option Value)}(a:nsIn K mainGlobals x=some ↑f)(b:K.lookup f=some ⟨cl,di,.func fd,sl⟩)(e:fd.code=.ref c)(l:K.lookup c=some ⟨cl2,di2,.fields vs,sl2⟩)(v:vs[11]? =↑P):PySem.W.tabIn K x=some (c,P):=by
 have b':List.lookup f K=some ⟨cl,di,.func fd,sl⟩:=b;have l':List.lookup c K=some ⟨cl2,di2,.fields vs,sl2⟩:=l;unfold PySem.W.tabIn;rw[a];simp only[b',e,l',v]
section
variable{Z:Z5}{N ps:List Str}{k:Nat}{sp:Sp}{t:TS}{x qual:Str}{st:Stmt}{c P:Addr}
abbrev Ca9(Z:Z5)(k:Nat)(x:Str)(ps:List Str)(sp:Sp):Prop:=Cal Z.P Z.w Z.K Z.mg Z.base k x ps sp
abbrev HbT(Z:Z5)(N:List Str)(qual:Str)(st:Stmt)(f c:Addr)(k:Nat)(t:TS):Prop:=∀{A:Around} {outer:List Env} {s:Shared} {H:Hp} {E:XK},Room k (A.deeper (envOfC qual (aJ st) s.heap.objs.size f (.ref c)))->(A.deeper (envOfC qual (aJ st) s.heap.objs.size f (.ref c))).units+64<cLine->N.Nodup->PSs (cxOf CX0 Z.P Z.w Z.K Z.mg Z.base N qual (aJ st) f (.ref c) A outer s H E).nox (bJ st) t
theorem nX:∀{l:List (Str × NameKind)} {x:Str} {k:NameKind},l.lookup x=some k->(x,k)∈l
 | (y,j)::l,x,k,h=>by
  rw[Hw] at h
  split at h
  . rename_i e
    have ex:x=y:=by simpa using e
    cases h;rw[ex];exact .head _
  . exact .tail _ (nX h)
def okfT{f:Addr}{fd:FuncData}(F:Fun Z.K x x st f fd)(a:nsIn Z.K mainGlobals x=some ↑f)(S:gz N ps (aJ st))(rk:Rk N sp t)(T:PySem.W.tabIn Z.K x=some (c,P))(hb:HbT Z N x st f c k t)(len:Ln ps sp):FnOk Z.P Z.w Z.K Z.mg Z.base CX0 (k+1) f fd ps sp:=by
 obtain⟨oc,od,kV,doc,pm,an,Gz,ct,osl,rfl,lk,hcd⟩:=F.ex;have lk':List.lookup f Z.K=some ⟨oc,od,.func (fnOf x x (cM st) (bJ st) (aJ st) .none kV doc pm an Gz ct),osl⟩:=lk
 have e:Gz=.ref c:=by
  unfold PySem.W.tabIn at T;rw[a] at T;simp only[lk'] at T
  clear lk hcd
  cases Gz with
  | ref c1=>
   dsimp only[fnOf] at T
   cases q:List.lookup c1 Z.K with
   | none=>rw[q] at T;cases T
   | some o=>
    rw[q] at T;obtain⟨cl,di,da,sl⟩:=o
    cases da with
    | fields vs=>
     dsimp only at T
     split at T
     . cases T;rfl
     . cases T
    | _=>cases T
  | _=>cases T
 subst e;refine Bs lk hcd S (fun _ _ _ _ h=>len h) fun A outer s H vs Q E hr h=>⟨t,(hb hr hr.units S.nd).nox,rk h⟩
local macro_rules | `(tactic| walk_at "l")=>`(tactic| (intro vs H Q E h; (repeat obtain ⟨_,h⟩:=h); subst_vars; rfl))
local macro_rules | `(tactic| ac_rfl)=>`(tactic| exact ⟨rfl,rfl,rfl,by decide+kernel,rfl,by decide+kernel,by decide+kernel⟩)
def okcT(B:Bt3 Z)(D:De Z.K x st)(rk:Rk N sp t)(b:Bd x x st ps)(T:PySem.W.tabIn Z.K x=some (c,P))(hb:∀{f},HbT Z N x st f c k t)(S:gz N ps (aJ st):=by ac_rfl)(len:Ln ps sp:=by walk_at "l"):Ca9 Z (k+1) x ps sp:=
 let ⟨f,fd,a,F⟩:=D.ex
 ⟨f,fd,okfT F a S rk T hb len,B.ns a,F.kp,F.binds b⟩
def wL {X:Cx} {e:Expr} {te:TE} {p pos lp kp p1 p2 p3:Pos} {F v q:Str} {i:Nat} {ps:Arguments} {sc:Scope} (LT:PySem.W.tabIn X.K x=some (c,P)) (hgl:Gl X "sorted") (hl:X.mg "sorted"=none) (hr:X.A.depth<recursionLimit) (hcode:X.env.code=.ref c) (hcd:PySem.W.CodeHd X.base c P) (hbu:X.base.BuiltinsAt X.mg P) (hmP:mainGlobals≠P) (he:PE X e te) (hN:X.N[i]? =some F) (hFc:X.env.scope.names.lookup F=some .cell) (hq:X.env.qual++"<lambda>"=q)
  (hdf:defaultsOf ps X.env=([],[])) (hfr:(sc.names.all fun y=>!(y.2==.free)||y.1==F)=true) (hf:(sc.names.all fun y=>!(y.2==.cell))=true)
  (hps:∀ cl pm c' ctv x t,bindArgs (PySem.W.kla_fn "<lambda>" q ps (.Subscript (.Name F p1) (.Name v p2) p3) sc cl pm (.ref c') ctv) ⟨[.int x t],[]⟩=pure [(v,.int x t)])
  (hk:sc.kind=.function) (hco:sc.isCoroutine=false) (hge:sc.isGenerator=false) (hv:sc.names.lookup v=some .local) (hFf:sc.names.lookup F=some .free)
  (hdF:(F==("__debug__":Str))=false:=by decide) (hcF:(F==("__classdict__":Str))=false:=by decide) (hdv:(v==("__debug__":Str))=false:=by decide)
  (hs1:starEach [e] X.env=[(false,eval e X.env)]:=by rfl):
  PE X (.Call (.Name "sorted" p) [e] [⟨some "key",.Lambda ps (.Subscript (.Name F p1) (.Name v p2) p3) sc lp,kp⟩] pos) (mR (tabP X.K x) lp.line lp.col q te i):=by
 rw[xN LT];rw[GZ] at hfr hf;refine yG hgl hl hr hcode hcd hbu hmP he hN hFc hq hdf (fun y hy=>?_) (nX hFf) hps hk hco hge (fun y hy e=>?_) hv hFf hdF hcF hdv hs1
 . have:=hfr _ hy
   simpa using this
 . have:=hf _ hy;rw[e] at this;cases this
end
def unrK(k:RK):Bool:=decide (k=.Unlike)||decide (k=.Rising)
def DM(k:RK):decide (tx (nmC k)∈[tx [117,110,108,105,107,101],tx [114,105,115,105,110,103]])=unrK k:=by cases k <;> decide+kernel
def DN(k:RK):decide (tx (nmC k)=tx [115,117,109])=decide (k=.Sum):=by cases k <;> decide+kernel
def Ap(k:RK):decide (tx (nmC k)=tx [115,101,101,110])=decide (k=.Seen):=by cases k <;> decide+kernel
def yH(k:RK):decide (tx (nmC k)=tx [99,111,117,110,116])=decide (k=.Count):=by cases k <;> decide+kernel
def xO(k:RK):(nmC k).length<=20:=by cases k <;> decide
def toSA{i:Int}(h0:0<=i)(h1:i<100):Str.ofString (toString i)=tx (numC i.toNat)/\i.natAbs.log2<1920:=by
 have e:i=((i.toNat:Nat):Int):=by omega
 have a:=xq (n:=i.toNat) #[0];have b:=xu (n:=i.toNat) #[0];rw[← e] at a b;exact⟨a,b⟩
def Bi(cs:List Nat)(k:Nat):(nsV cs).take k=nsV (cs.take k):=by unfold nsV;rw[Ir,Ir]
section
variable{c:RCl RK}{h w g:Int}{Gy:List RR}{cl cl':∅}{ks:List TK}
open Classical in
end
def nY{b:Bool}{A B:Prop}(e:b=true)(h:A):if b=true then A else B:=by rw[e];exact iteT h
def iU{b:Bool}{A B:Prop}(e:b=false)(h:B):if b=true then A else B:=by rw[e];exact iteF h
section
variable{Z:Z5}{N ps:List Str}{k:Nat}{sp:Sp}{t:TS}{b x:Str}{st:Stmt}
local macro_rules | `(tactic| walk_at "l")=>`(tactic| (intro vs H Q E h; (repeat obtain ⟨_,h⟩:=h); subst_vars; rfl))
local macro_rules | `(tactic| ac_rfl)=>`(tactic| exact ⟨rfl,rfl,rfl,by decide+kernel,rfl,by decide+kernel,by decide+kernel⟩)
end
section
variable{K:Frag}{c:RCl RK}{d:RCl PzK}{h w g:Int}{Gy:List RR}{cl:∅}{ks:List TK}
open Classical in
end
variable{l:∅}
def fS{k:Nat}(h:k<l.length):l.getD k 0∈l:=by
 rw[List.getD,GH h];exact Hf h
def Aq(xs cs:∅)(m:Int):(((sgAt xs cs).filter fun y=>decide (y=m)).length:Int)=((mkAt xs cs m).length:Int):=by
 unfold sgAt mkAt;rw[Jk,GG];rfl
def oX(l:∅)(i:Nat):Bool:=decide ((i:Int)=0)||decide (maxI (l.take i)<l.getD i 0)
theorem vW(num:Nat->Int):∀ k,argBest (fun i j=>decide (num i>num j)) k<=k/\∀ j,j<=k->num j<=num (argBest (fun i j=>decide (num i>num j)) k)
 | 0=>⟨GP _,fun j hj=>by rw[show j=0 by omega];exact Int.le_refl _⟩
 | k+1=>by
  obtain⟨a,b⟩:=vW num k;rw[argBest];by_cases h:num (k+1)>num (argBest (fun i j=>decide (num i>num j)) k)
  . rw[G9 (GL h)];refine⟨GP _,fun j hj=>?_⟩;by_cases e:j=k+1
    . rw[e];exact Int.le_refl _
    . have:=b j #[0];omega
  . rw[G3 (by simpa using h)];refine⟨by omega,fun j hj=>?_⟩;by_cases e:j=k+1
    . rw[e];omega
    . exact b j #[0]
def DO(h:l≠[])(x:Int):maxI l<x↔∀ y∈l,y<x:=by
 have hl:0<l.length:=Jq.mpr h;obtain⟨a,b⟩:=vW (fun i=>l.getD i 0) (l.length-1);unfold maxI;generalize argBest (fun i j=>decide (l.getD i 0>l.getD j 0)) (l.length-1)=k at*;constructor
 . intro hx y hy;obtain⟨j,hj,rfl⟩:=Ib.mp hy;have:=b j #[0];have e:l.getD j 0=l[j]:=by rw[List.getD,GH hj];rfl
   simp only[e] at this;omega
 . intro hx;exact hx _ (fS #[0])
def Bj{i:Nat}{x:Int}(hx:l[i]? =some x):oX l i=decide (∀ y∈l.take i,y<x):=by
 have e:l.getD i 0=x:=by rw[List.getD,hx];rfl
 unfold oX;rw[e];by_cases h:i=0
 . subst h;simp
 . have hl:=(GN.mp hx).1;rw[GI #[0],Ia,Hx,JC,JC];exact DO (by intro e;have:=congrArg List.length e;rw[HV,List.length_nil] at this;omega) x
theorem Ar{l:∅}(h1:∀ y∈l,1<=y):∀ i,i<=l.length->(((List.range i).filter (oX l)).length:Int)=(seenN (l.take i)).2
 | 0,_=>rfl
 | i+1,hi=>by
  have ih:=Ar h1 i #[0];have hx:l[i]? =some l[i]:=GH #[0];have et:l.take (i+1)=l.take i++[l[i]]:=by rw[IH,hx];rfl
  rw[et,Af (h1 _ (Hf _)),HH,Hm,Ha,Int.natCast_add,ih,Hv,Bj hx];by_cases h:∀ y∈l.take i,y<l[i]
  . rw[G9 h,GL h];rfl
  . rw[G3 h,GI h];rfl
variable{c:Nat}{q:Str}{H H':Hp}{P:Addr}
def TbOk.same{l:Nat}(x:TbOk l c q H P)(s:Same H H'):TbOk l c q H' P:=by
 rcases x with e | ⟨a,e,ea⟩
 . exact .inl (s _ _ e)
 . exact .inr ⟨a,s _ _ e,s _ _ ea⟩
variable{xs:List V}
def TbOk.ne{l:Nat}{b:Addr}(x:TbOk l c q H P)(e:H b=↥xs):b≠P:=fun z=>by
 rcases x with e' | ⟨_,e',_⟩ <;> (rw[z,e'] at e;cases e)
def SameX.of(s:Same H H'):SameX P H H':=fun a o _ e=>s a o e
def SameX.trans{H1 H2:Hp}(a:SameX P H H1)(b:SameX P H1 H2):SameX P H H2:=fun x o n e=>b x o n (a x o n e)
theorem vX:∀{xs:∅},xs.Pairwise (· <=·)->xs.Nodup->risB xs=true
 | [],_,_=>rfl
 | [_],_,_=>rfl
 | x::y::r,p,n=>by
  have p1:=Jz.mp p;have n1:=HK.mp n
  have lt:x<y:=by
   have:=p1.1 y (.head _);have ne:x≠y:=fun e=>n1.1 (by rw[e];exact .head _);omega
  show(decide (x<y)&&risB (y::r))=true;rw[GL lt,HB];exact vX p1.2 n1.2
structure Rw53(H:Hp)(f:Addr)(h w g:Int)(fl:∅):Prop where
 F:FlOk h w g
 f:H f=↥(fl.map V.int)
 fll:fl.length=(h*w).toNat
 sg:∀ x∈fl,1<=x/\x<=g
 m1:1<=h*w
variable{h w:Int}{fl:∅}
def Rw53.same{f:Addr}{g:Int}(X:Rw53 H f h w g fl)(s:Same H H'):Rw53 H' f h w g fl:=⟨X.F,s _ _ X.f,X.fll,X.sg,X.m1⟩
def g7(K:Frag):Sp:=fun vs H Q _=>∃ num many,vs=[.int num,.int many]/\0<=many/\many<=16/\
 ∀(l:Addr) (H':Hp) (cs:List Nat),Same H H'->H l=none->H' l=↥(nsV cs)->cs.Nodup->(∀ c∈cs,(c:Int)<many)->(cs.length:Int)=many->Q (.ref l) H'
def g8(K:Frag):TS:=#[":gl~Da1eh#2 glveh#3 gLXa1eh#4 VHcGW3aHcG{C2abBbU0bu4df#3 pCa2eeei3"]
variable{K:Frag}{vs:List V}{Q:VK}{E:XK}
def rj(h:g7 K vs H Q E):g8 K (eD9 Q) (start ["_law_number","_law_many","_law_left","_law_found","_law_k"] vs) H:=by
 obtain⟨num,many,rfl,c0,m1,q⟩:=h;ac_nf;unfold g8;symm;refine⟨many,rfl,by omega,by omega,fun L hL=>?_⟩;obtain⟨H1,z9,s1,eL⟩:=bn (.lst ((rngL 0 many).map V.int)) hL;rw[z9];symm;refine⟨aV #[1],fun R hR=>?_⟩;have nRL:R≠L:=fun e=>by rw[e,eL] at hR;cases hR
 refine⟨many,rfl,by omega,by omega,?_⟩
 refine d3 (fun i σ H'=>∃(kv:Option V) (fs ls:∅),σ=[⇑num,⇑many,↑L,↑R,kv]/\Same H H'/\H' L=↥(ls.map V.int)/\H' R=↥(fs.map V.int)/\(fs++ls).Perm (rngL 0 many)/\fs.length=i)
  ⟨none,[],rngL 0 many,rfl,s1.laid hR,by rw[aj nRL.symm];exact eL,by rw[ah];rfl,List.Perm.refl _,rfl⟩ ?_ ?_
 . rintro i σ H2 hi ⟨kv,fs,ls,rfl,s2,e1,e2,hp,hl⟩;have GD:=hp.length_eq;rw[Ha,mj] at GD;symm;refine⟨bD e2,bD e1,⟨by omega,by omega⟩,?_⟩;rw[cj e1,GG];have hpos:0 < (ls.length:Int):=by omega
   generalize num / (0+(i:Int)+3)=y at*;have j0:=HD y (Int.ne_of_gt hpos);have j1:=Hq y hpos;refine⟨hpos,?_⟩;generalize y % (ls.length:Int)=j at*;have hj:j.toNat<ls.length:=by omega
   refine B1 e1 j0 (by rw[GG];omega) (y:=V.int ls[j.toNat]) (by rw[GK,GH hj];rfl) ?_;have e2':(upd H2 L (.lst ((ls.map V.int).eraseIdx j.toNat))) R=↥(fs.map V.int):=by rw[aj nRL];exact e2
   symm;rw[d9 e2'];refine⟨by rw[GG];exact ay #[0],_,fs++[ls[j.toNat]],ls.eraseIdx j.toNat,rfl,(s2.own hL).own (s1.free hR),?_,?_,?_,by simp[hl]⟩
   . rw[aj nRL.symm,ah,tO]
   . rw[ah];simp
   . have p1:=qQ ls j.toNat hj;have p2:=List.Perm.append_left fs p1;refine List.Perm.trans ?_ hp;rw[JH];exact p2
 . rintro σ H2 ⟨kv,fs,ls,rfl,s2,e1,e2,hp,hl⟩;symm;have hnd:(fs++ls).Nodup:=hp.nodup_iff.mpr (z4 many);have hm:∀ x∈fs,0<=x/\x<many:=fun x hx=>sG (hp.mem_iff.mp (Hc.mpr (.inl hx)))
   have ef:(fs.map Int.toNat).map (fun(n:Nat)=>(n:Int))=fs:=by
    rw[Hn]
    conv=>rhs;rw[← J8 fs]
    exact Ii fun x hx=>by have:=hm x hx;show((x.toNat:Nat):Int)=x;omega
   refine q R H2 (fs.map Int.toNat) s2 (s1.free hR) (by unfold nsV;rw[ef];exact e2) ?_ ?_ ?_
   . have h1:=(Ip.mp hnd).1;rw[← ef] at h1;exact nJ _ h1
   . intro c hc;obtain⟨x,hx,rfl⟩:=G1.mp hc;have:=hm x hx;omega
   . rw[GG,hl];omega
def fh(K:Frag):Sp:=fun vs H Q _=>∃ s,vs=[.int s]/\1<=s/\s<=6/\∀ H',Same H H'->Q (.int (1*2^(s-1).toNat)) H'
def jh(K:Frag):TS:=#[":ibkvadf#1 adf#2 adf#4 adf#8 adf#16 adf#32 ebO0df#1 "]
variable{s:Int}
def DP(s0:1<=s)(s6:s<=6):([1,2,4,8,16,32]:∅).getD (s-1).toNat 0=1*2^(s-1).toNat:=by
 have e:s=1\/s=2\/s=3\/s=4\/s=5\/s=6:=by omega
 rcases e with rfl | rfl | rfl | rfl | rfl | rfl <;> decide
def ut(h:fh K vs H Q E):jh K (eD9 Q) (start ["_law_sign"] vs) H:=by
 obtain⟨s,rfl,s0,s6,q⟩:=h;ac_nf;unfold jh;symm;refine⟨lnR rfl,fun U hU=>?_⟩;obtain⟨H3,z9,s3,eU⟩:∃ z,upd H U (.lst [V.int 1,V.int 2,V.int 4,V.int 8,V.int 16,V.int 32])=z/\Same H z/\z U=↥(([1,2,4,8,16,32]:∅).map V.int):=bn _ hU;rw[z9];refine ixI eU #[0] (by show _ < (6:Int);omega) ?_;rw[DP s0 s6];exact q _ s3
def e6(K:Frag):Sp:=fun vs H Q _=>∃(l:Addr) (xs:∅),vs=[.ref l]/\H l=↥(xs.map V.int)/\∀ H',Same H H'->Q (.bl true) H'
def e7(K:Frag):TS:=#[":gmKwp*a0ad+GeidFAngLxc0h#1 mMKwp*a1ad+~rewp*a1ad+~WeidFAnidFT"]
def mS(h:e6 K vs H Q E):e7 K (eD9 Q) (start ["_law_found","_law_one"] vs) H:=by
 obtain⟨l,xs,rfl,el,q⟩:=h;ac_nf;unfold e7;symm;rw[ax];symm;refine vk el ?_;symm;refine⟨⟨_,G6 el⟩,?_⟩;refine fG (K:=K) (xs:=xs.map V.int) (fun i σ H'=>∃(v1:Option V),σ=[↑l,v1]/\Same H H') ⟨_,rfl,GJ _⟩ (fun i σ H' _ ⟨_,_,s⟩=>G6 (s _ _ el)) ?_ ?_
 . rintro i v σ H3 hv ⟨v1,rfl,s3⟩;obtain⟨c,hc,rfl⟩:=bb hv;rw[aL];rw[ax];symm;exact⟨_,rfl,s3⟩
 . rintro σ H3 ⟨v1,rfl,s3⟩;symm;exact q _ s3
def g9(K:Frag):Sp:=fun vs H Q _=>∃ T M C t r z s ms y,vs=[.ref T,.ref C]/\IsTh H T M t r z s ms/\K39 t/\H C=↥(y.cs.map V.int)/\y.cs.length<=63/\z∈y.cs/\RestP Q H (rg y t z)
def hJ(K:Frag):TS:=#[":gmobscbk0df#0 dqr`0glHcG~Jc1abk0df#2 eh#2 ip~babuZ:1Sp{Dadf#0 abO2df#1 eS2Z:1Sbu2df#1 Sbu2df#2 enip~bay&--0 xc1h#1 obQc1bk2df#2 1e",[115,116,101,112]]
def rm(h:g9 K vs H Q E):hJ K (eD9 Q) (start ["_law_thought","_law_cells_here","_law_at"] vs) H:=by
 obtain⟨T,M,C,t,r,z,s,ms,y,rfl,Th,ht,eC,cl,hz,q⟩:=h;have ab:=xG y.cs z;have hlt:=qY hz;ac_nf;unfold hJ;symm;rw[ax];symm;refine ixT Th.T (v:=V.str (tx (tkC t))) rfl ?_;symm;rw[b6,xy];by_cases e:t=.step
 . subst e;rw[GL rfl];refine iteT ?_;symm;refine⟨bD eC,?_⟩;refine ixT Th.T (v:=V.int z) rfl ?_;refine qc eC hz #[0] ?_;have q:RestP Q H (ahdL y.cs z++behL y.cs z):=q;unfold ahdL behL at q ab;have ei:(y.cs.findIdx (· ==z))=fv y.cs z:=rfl;rw[ei];generalize fv y.cs z=j at*;symm;refine mh eC fun A hA=>?_
   have eA0:cutV (y.cs.map V.int) (some (if (j:Int)-1>0 then(j:Int)-1 else 0)) (some (j:Int))=(if 0<j then [y.cs.getD (j-1) 0] else []).map V.int:=by
    have ej:(if (j:Int)-1>0 then(j:Int)-1 else 0)=((j-1:Nat):Int):=by split <;> omega
    rw[ej,oW _ #[0]];by_cases hj:0<j
    . rw[show j - (j-1)=1 by omega,← JN,← Ir,mJ,G9 #[0],G9 hj]
    . rw[show j - (j-1)=0 by omega,G3 hj];rfl
   rw[eA0];obtain⟨H1,z9,s1,eA⟩:=bn (.lst ((if 0<j then [y.cs.getD (j-1) 0] else []).map V.int)) hA;rw[z9];symm;refine mh (s1 _ _ eC) fun B hB=>?_;have ej:(j:Int)+1=((j+1:Nat):Int):=by omega
   have ek:(j:Int)+2=((j+2:Nat):Int):=by omega
   rw[ej,ek,oW _ #[0],show j+2 - (j+1)=1 by omega,← JN,← Ir,mJ];obtain⟨H2,z9,s2,eB⟩:=bn (.lst ((if j+1<y.cs.length then [y.cs.getD (j+1) 0] else []).map V.int)) hB;rw[z9];generalize (if 0<j then [y.cs.getD (j-1) 0] else [])=as at*;generalize (if j+1<y.cs.length then [y.cs.getD (j+1) 0] else [])=bs at*;symm;refine qK (s2 _ _ eA) eB (by rw[GG,GG];omega) fun l4 hl4=>?_;have s5:Same H2 (upd H2 l4 (.lst (as.map V.int++bs.map V.int))):=(GJ H2).laid hl4;have e4:(upd H2 l4 (.lst (as.map V.int++bs.map V.int))) l4=↥((as++bs).map V.int):=by rw[ah,HY]
   generalize upd H2 l4 (.lst (as.map V.int++bs.map V.int))=H5 at*;symm;exact kE ((s1.trans s2).trans s5) e4 (by rw[Ha];omega) (.refl _) q
 . rw[GI e];refine iteF ?_;have er:rg y t z=othL y.cs z:=by rcases ht with rfl | rfl | rfl | rfl <;> first | rfl | exact absurd rfl e
   rw[er] at q;refine⟨⟨_,G6 eC⟩,?_⟩;refine bH (fun x=>!decide (x=z)) (fun x=>x) #[0] (G6 eC) ?_ ?_ ?_
   . intro x H4 R4 hx s4 k4;show tTest _ [none,⇑x,↑T] H4 R4;symm;refine ixT (s4 _ _ Th.T) (v:=V.int z) rfl ?_;symm;exact k4 _ (GJ _)
   . intro x H4 Q4 hx hb4 s4 k4;show tVar 1 [none,⇑x,↑T] H4 Q4;symm;exact k4 _ (GJ _)
   . intro A H3 hA s3 eA;rw[IK] at eA;symm;exact kE s3 eA (by have:=Hg (fun x=>!decide (x=z)) y.cs;omega) (.refl _) q
variable{Gy:List RR}
def Cg{g:Int}{Gw:∅}{t:TK}{r z:Int}{ms:∅}(F:FlOk h w g)(ml:Gw.length=(h*w).toNat)(at_:AtA (h*w) g Gw fl)(ok:∀ x∈Gy,fW h w g fl x)(ht:K39 t)(hb:j9 h w g Gy Gw t r z s ms=true):fl.getD z.toNat 0≠s:=by
 unfold j9 at hb;rw[G7] at hb;obtain⟨f,q⟩:=hb;obtain⟨z0,z1,s0,s1,GF⟩:=kA f;have g6:=F.g1;obtain⟨r0,y,ey,hgo,hz⟩:=oV (BB ht) GF;obtain⟨O,ho⟩:=ok y (GQ ey);have cin:=J9 O F;have ci:∀ c∈y.cs,0<=c/\c<h*w:=fun c hcc=>by have:=cin.2 c hcc;omega
 have nd:=RR.ndA O;have q39:iT h w Gy Gw t r z s ms=vL h w y Gw t z s ms:=by unfold iT;rw[ey]
 rw[q39] at q;rcases ht with rfl | rfl | rfl | rfl
 . have ek:y.k=.Count:=by revert hgo;cases y.k <;> intro hgo <;> first | rfl | (cases hgo;done)
   rw[ek] at ho;have m0:=O.m0 (by rw[ek];rfl);exact yE g6 m0.1 #[0] at_ ci hz (Hy ho) q
 . have ek:y.k=.Sum:=by revert hgo;cases y.k <;> intro hgo <;> first | rfl | (cases hgo;done)
   rw[ek] at ho;exact yD g6 at_ ci nd hz (Hy ho) q
 . have ek:y.k=.Rising:=by revert hgo;cases y.k <;> intro hgo <;> first | rfl | (cases hgo;done)
   rw[ek] at ho;exact wI g6 at_ ci hz ho q
 . exact wJ ml at_ ci ho q
abbrev DX:Str:="_law_cells.<locals>.<lambda>"
abbrev ly(K:Frag)(H:Hp):Prop:=TbOk 541 34 DX H (tabP K "_law_cells")
abbrev Bk(K:Frag)(H H':Hp):Prop:=SameX (tabP K "_law_cells") H H'
def Ch{p:Addr}{s:Str}{ws:List Str}(h:H p=some (.tup (ws.map V.str))):cIn K true (.str s) (.ref p) H Q=Q (.bl (!decide (s∈ws))) H:=by
 unfold cIn;dsimp only;rw[h];dsimp only[unD,unS,bnd];rw[jL,iQ];simp[flatV]
def DQ(k:RK):decide (tx (nmC k)=tx [117,110,108,105,107,101])=decide (k=.Unlike):=by cases k <;> decide+kernel
structure sU(h w:Int)(fl:∅)(k:RK)(ds:List Nat):Prop where
 Y:Cs58 h w ds
 un:k=.Unlike->(sgAt fl (iN ds)).Nodup
 ri:k=.Rising->risB (sgAt fl (iN ds))=true
def hV(K:Frag):Sp:=fun vs H Q _=>∃ f C k h w g fl cs,vs=[.ref f,.str (tx (nmC k)),.ref C]/\Rw53 H f h w g fl/\Cs58 h w cs/\H C=↥((iN cs).map V.int)/\ly K H/\∀(R:Addr) (ds:List Nat) (H':Hp),Bk K H H'->ly K H'->(R=C\/H R=none)->H' R=↥((iN ds).map V.int)->sU h w fl k ds->Q (.ref R) H'
def yI(K:Frag):TS:=#[":mobYcTbk04y&--0 xc3h#1 Dbk21VHcGW3a4en"]
def dL(K:Frag):TS:=#[":gmobsc1dqr`0i3ni{E{Fc{G#541 #34 `13#0 ",[117,110,108,105,107,101],"_law_cells.<locals>.<lambda>"]
def fT(K:Frag):TS:=#[":glveh#3 gLxc2h#4 {Hc{Ic"]
def hX(K:Frag):TS:=#[":gmobYcT1Nadqr`0adqr`1ei2n{Jc",[117,110,108,105,107,101],[114,105,115,105,110,103]]
section
variable{K:Frag}{H:Hp}{Q:VK}{f C:Addr}{k:RK}{h w g:Int}{fl:∅}{cs:List Nat}
def Ci {D:Ends} {R:Addr} {ds:List Nat} {n:Nat} {v1 v2:Option V} (ef:H f=↥(fl.map V.int)) (eR:H R=↥((iN ds).map V.int)) (hl:ds.length<=16) (hd:∀ x∈ds,x<fl.length) (hn:n<fl.length)
  (k1:fl.getD n 0∉sgAt fl (iN ds)->∀ H',Same H H'->D.nx [↑f,v1,v2,↑R,⇑(n:Int)] (upd H' R (.lst ((iN (ds++[n])).map V.int))))
  (k2:ds≠[]->∀ H',Same H H'->D.nx [↑f,v1,v2,↑R,⇑(n:Int)] H'):
  yI K D [↑f,v1,v2,↑R,⇑(n:Int)] H:=by
 unfold yI;rw[ax];symm;refine ixI ef #[0] #[0] ?_;refine⟨⟨_,G6 eR⟩,?_⟩;refine bH (fun _=>true) (fun x=>fl.getD x.toNat 0) (by unfold iN;rw[GG];omega) (G6 eR) ?_ ?_ ?_
 . intro x H4 R4 hx s4 k4;exact k4 _ (GJ _)
 . intro x H4 Q4 hx hb4 s4 k4;show tOp cIx _ _ [none,⇑x,↑f] H4 Q4;symm;have m:=vR hx;have:=hd _ m.2;exact ixI (s4 _ _ ef) m.1 #[0] (k4 _ (GJ _))
 . intro S H3 hS s3 eS;have eS:H3 S=↥((sgAt fl (iN ds)).map V.int):=by rw[Iv.mpr (fun _ _=>rfl)] at eS;exact eS
   rw[uN eS,HI];by_cases h1:fl.getD n 0∈sgAt fl (iN ds)
   . rw[GL h1];symm;refine k2 (fun e=>?_) H3 s3;rw[e] at h1;cases h1
   . rw[GI h1];symm;refine⟨bD (s3 _ _ eR),?_⟩;rw[d9 (s3 _ _ eR)];refine⟨by rw[GG];unfold iN;rw[GG];exact ay #[0],?_⟩;have:=k1 h1 H3 s3;unfold iN at this ⊢;rw[HY,HY] at this;exact this
def uu{v2 v4:Option V}{R:Addr}(X:Rw53 H f h w g fl)(Y:Cs58 h w cs)(T:ly K H)(hu:unrK k=true)(eR:H R=↥((iN cs).map V.int))(un:(sgAt fl (iN cs)).Nodup)(q:∀(R':Addr) (ds:List Nat) (H':Hp),Bk K H H'->ly K H'->(R'=R\/H R'=none)->H' R'=↥((iN ds).map V.int)->sU h w fl k ds->Q (.ref R') H'):
  dL K (eD9 Q) [↑f,some (.str (tx (nmC k))),v2,↑R,v4] H:=by
 have cl:=Y.len;have il:(iN cs).length=cs.length:=by unfold iN;rw[GG]
 unfold dL;rw[aB,ax];symm;rw[DQ];by_cases e:k=.Unlike
 . rw[GL e];refine iteT ?_;exact q R cs H (.of (GJ _)) T (.inl rfl) eR ⟨Y,fun _=>un,fun e'=>by rw[e] at e';cases e'⟩
 . rw[GI e];refine iteF ?_;have er:k=.Rising:=by revert hu e;cases k <;> intro hu e <;> first | rfl | exact absurd rfl e | (cases hu;done)
   unfold mR;refine iF (v:=V.ref R) rfl ?_;refine⟨R,f,iN cs,fl,rfl,eR,rfl,X.f,fun x hx=>?_,by omega,T,fun zs r H2 hr pm pw sx T2 er2=>?_⟩
   . have b:=Be Y X.fll X.sg hx;exact⟨b.1,b.2.1⟩
   . have zm:∀ z∈zs,0<=z:=fun z hz=>(vR (pm.mem_iff.mp hz)).1
     have ez:iN (zs.map Int.toNat)=zs:=by
      unfold iN;rw[Hn]
      conv=>rhs;rw[← J8 zs]
      exact Ii fun x hx=>by have:=zm x hx;show((x.toNat:Nat):Int)=x;omega
     have pn:(zs.map Int.toNat).Perm cs:=by
      have:=pm.map Int.toNat;unfold iN at this;rw[Hn] at this
      have e2:cs.map (Int.toNat ∘ fun(n:Nat)=>(n:Int))=cs:=by
       conv=>rhs;rw[← J8 cs]
       exact Ii fun x _=>by show((x:Int)).toNat=x;omega
      rw[e2] at this;exact this
     have Y2:Cs58 h w (zs.map Int.toNat):=⟨fun e=>Y.ne (List.Perm.nil_eq (e ▸ pn)).symm,pn.nodup_iff.mpr Y.nd,fun c hc=>Y.lt c (pn.mem_iff.mp hc),by rw[pn.length_eq];exact Y.len⟩
     have nd2:(sgAt fl (iN (zs.map Int.toNat))).Nodup:=by
      rw[ez];unfold sgAt;exact(pm.map _).nodup_iff.mpr un
     have pw2:(sgAt fl (iN (zs.map Int.toNat))).Pairwise (· <=·):=by
      rw[ez];unfold sgAt;rw[List.pairwise_map];exact pw
     exact q r (zs.map Int.toNat) H2 sx T2 (.inr hr) (by rw[ez];exact er2) ⟨Y2,fun e'=>absurd e' e,fun _=>vX pw2 nd2⟩
end
theorem rn(h:hV K vs H Q E):hX K (eD9 Q) (start ["_law_filling","_law_word","_law_order_here","_law_found","_law_cell"] vs) H:=by
 obtain⟨f,C,k,h,w,g,fl,cs,rfl,X,Y,eO,T,q⟩:=h;have cl:=Y.len;have il:(iN cs).length=cs.length:=by unfold iN;rw[GG]
 ac_nf;unfold hX;rw[aB,ax];generalize hW:fT K=W at*;symm;refine⟨lnR rfl,fun T2 hT2=>?_⟩;have s5:Same H (upd H T2 (.tup ([tx [117,110,108,105,107,101],tx [114,105,115,105,110,103]].map V.str))):=(GJ H).laid hT2;have eT2:(upd H T2 (.tup ([tx [117,110,108,105,107,101],tx [114,105,115,105,110,103]].map V.str))) T2=some (.tup ([tx [117,110,108,105,107,101],tx [114,105,115,105,110,103]].map V.str)):=ah;show cIn K true (V.str (tx (nmC k))) (V.ref T2) (upd H T2 (.tup ([tx [117,110,108,105,107,101],tx [114,105,115,105,110,103]].map V.str))) _;generalize upd H T2 (.tup ([tx [117,110,108,105,107,101],tx [114,105,115,105,110,103]].map V.str))=H1 at*;rw[Ch eT2,DM]
 cases hu:unrK k with
 | false=>
  refine⟨true,rfl,iteT ?_⟩;exact q C cs H1 (.of s5) (T.same s5) (.inl rfl) (s5 _ _ eO) ⟨Y,fun e=>(by rw[e] at hu;cases hu),fun e=>(by rw[e] at hu;cases hu)⟩
 | true=>
  refine⟨false,rfl,iteF ?_⟩;subst hW;unfold fT;generalize hU:yI K=U at*;generalize hW:dL K=W at*;symm;refine⟨aV #[1],fun R hR=>?_⟩;have s6:Same H1 (upd H1 R (.lst [])):=(GJ H1).laid hR;have eR:(upd H1 R (.lst [])) R=↥((iN []).map V.int):=ah;have fR:H R=none:=s5.free hR;generalize upd H1 R (.lst [])=H2 at*;have s56:=s5.trans s6;have nRC:R≠C:=fun e=>by rw[e,eO] at fR;cases fR
  refine⟨⟨_,G6 (s56 _ _ eO)⟩,?_⟩;subst hU;have lt:=fun c hc=>Y.lt c hc;have fll:=X.fll;refine fG (K:=K) (xs:=(iN cs).map V.int) (fun i σ H'=>∃(v4:Option V) (ds:List Nat),σ=[↑f,some (.str (tx (nmC k))),↑C,↑R,v4]/\Same H H'/\H' R=↥((iN ds).map V.int)/\ds.Sublist (cs.take i)/\(0<i->ds≠[])/\(sgAt fl (iN ds)).Nodup) ⟨_,[],rfl,s56,eR,List.nil_sublist _,(fun h=>absurd h (HP _)),IU⟩ (fun i σ H' _ ⟨_,_,_,s,_⟩=>G6 (s _ _ eO)) ?_ ?_
  . rintro i v σ H3 hv ⟨v4,ds,rfl,s3,eR3,sub,ne,un⟩;obtain⟨c,hc,rfl⟩:=bb hv
    have hcn:∃ n,cs[i]? =some n/\c=(n:Int):=by
     unfold iN at hc;rw[GK] at hc;obtain⟨n,hn,rfl⟩:=IT.mp hc;exact⟨n,hn,rfl⟩
    obtain⟨n,hn,rfl⟩:=hcn;have dl:ds.length<=16:=GS sub.length_le (by rw[HV];omega);have dlt:∀ x∈ds,x<fl.length:=fun x hx=>by have:=lt x (Jf (sub.subset hx));omega
    have tk:cs.take (i+1)=cs.take i++[n]:=by rw[IH,hn];rfl
    rw[aL];refine Ci (s3 _ _ X.f) eR3 dl dlt (by have:=lt n (GQ hn);omega) (fun hn' H4 s4=>?_) (fun h0 H4 s4=>?_)
    . exact⟨_,ds++[n],rfl,(s3.trans s4).own fR,ah,by rw[tk];exact sub.append (List.Sublist.refl _),(fun _=>by simp),by rw[Al];exact Ip.mpr ⟨un,by simp,fun a ha b hb e=>hn' (by rw[← GW.mp hb,← e];exact ha)⟩⟩
    . exact⟨_,ds,rfl,s3.trans s4,s4 _ _ eR3,sub.trans (by rw[tk];exact List.sublist_append_left _ _),(fun _=>h0),un⟩
  . rintro σ H3 ⟨v4,ds,rfl,s3,eR3,sub,ne,un⟩;rw[GG,il] at sub ne;rw[Ix] at sub;have cp:=Jq.mpr Y.ne;subst hW;exact uu (X.same s3) (Y.sub sub (ne cp)) (T.same s3) hu eR3 un fun R' ds' H' s' t' fr e' O=>q R' ds' H' ((SameX.of s3).trans s') t' (.inr (fr.elim (fun z=>z ▸ fR) fun z=>s3.free z)) e' O
variable{a:Addr}
theorem SameX.free38{l:Nat}(s:SameX P H H')(T:TbOk l c q H' P)(z:H' a=none):H a=none:=by
 cases e:H a with
 | none=>rfl
 | some o=>
  by_cases n:a=P
  . rcases T with e' | ⟨_,e',_⟩ <;> (rw[n,e'] at z;cases z)
  . rw[s a o n e] at z;cases z
structure Rl38(H:Hp)(T C:Addr)(r:RR)(h w:Int):Prop where
 top:∃ x,H T=some (.tup [.str r.txt,x,.ref C])
 C:(H C=↥(r.cs.map V.int)/\r.cs≠[])\/(H C=some (.lst [])/\r.cs=rngL 0 (h*w))
variable{r:RR}
def Rl38.same{T C:Addr}(x:Rl38 H T C r h w)(s:Same H H'):Rl38 H' T C r h w:=
 ⟨x.top.elim fun v e=>⟨v,s _ _ e⟩,x.C.elim (fun c=>.inl ⟨s _ _ c.1,c.2⟩) (fun c=>.inr ⟨s _ _ c.1,c.2⟩)⟩
def ji(K:Frag):Sp:=fun vs H Q _=>∃ f h w g y fl,vs=[.ref f,.int g,.int y]/\Rw53 H f h w g fl/\ly K H/\∀(T C:Addr) (r:RR) (H':Hp),Bk K H H'->ly K H'->H C=none->Rl38 H' T C r h w->fW h w g fl r->Q (.ref T) H'
def cG(K:Frag):TS:=#[":iNaHc~E{Kdqr`0abuva4ey&-- xcbu|a6h#1 Dp'ga1eea4a6e",[32]]
def cZ(K:Frag):TS:=#[":gmobsc4dqr`0glbudf#1 bBbU2df#500 1h#8 lvapCay&--8 xc7h#1 obsc121ea8eh#10 n{Lc",[99,111,117,110,116]]
def e8(K:Frag):TS:=#[":gmobsc4dqr`0lvapCay&--7 XapCa7eeh#1 Mobsc1df#0 ob>bk21p{MaZ:2~cS1e1eeh#10 n{Nc",[115,101,101,110]]
def e9(K:Frag):TS:=#[":gmobsc4dqr`0lvap~xa7eeh#10 n{Oc",[115,117,109]]
def fb(K:Frag):TS:=#[":glveh#10 {Pc"]
def fc(K:Frag):TS:=#[":gmobsc4dqr`0g~S#9 &--0 ~-adf#1 abu1df#1 eh#1 obYcT121gmobQc9veiNabububkvadqr`1adqr`2adqr`0ebBbU2df#9 df#3 dqr`3p'gabk9bBbU2df#27 pCa9eea4aveenldqr`4h#4 n{Qc",[110,111,115,113,117,97,114,101],[106,111,105,110,101,100],[114,105,110,103],[32],[115,117,109]]
def fe(K:Frag):TS:=#[":gly&--0 xc6h#1 Dbk21h#7 {Rc"]
def gw(K:Frag):TS:=#[":glZ:,{ScabU2df#9 a3e~cSbudf#1 bBbU2df#63 3h#5 gl,{Tca0a4a5eh#6 {Uc"]
def jj(K:Frag):TS:=#[":glpCa0eh#3 glbkvadqr`0adqr`1adqr`2adqr`3adqr`4adqr`0adqr`2adqr`1adqr`5ebB2df#9 h#4 {Vc",[99,111,117,110,116],[114,105,115,105,110,103],[115,117,109],[115,101,101,110],[117,110,108,105,107,101],[110,111,115,113,117,97,114,101]]
def Bl{k:RK}{n m:Int}(ha:allK k=true)(fll:fl.length=(h*w).toNat)(hm:m∉fl):hoB k h w (rngL 0 (h*w)) n m fl=true:=by
 have e:mkAt fl (rngL 0 (h*w)) m=[]:=by
  unfold mkAt;refine List.filter_eq_nil_iff.mpr fun c hc hh=>hm ?_;have:=sG hc;have e:=Hy hh;rw[← e];exact fS #[0]
 have j:joinB h w []=true:=by
  unfold joinB;exact @GL _ (Classical.propDecidable _) (.inl rfl)
 cases k <;> first
  | (cases ha;done)
  | (show joinB h w (mkAt fl (rngL 0 (h*w)) m)=true;rw[e];exact j)
  | (show(joinB h w (mkAt fl (rngL 0 (h*w)) m)&&(mkAt fl (rngL 0 (h*w)) m).all _)=true;rw[e,j];rfl)
  | (show(!((squL h w).any fun sq=>sq.all fun c=>decide (c∈mkAt fl (rngL 0 (h*w)) m)))=true
     rw[e,IV,JG];intro sq hs;unfold squL at hs;obtain⟨i,hi,rfl⟩:=G1.mp hs;unfold sqL;simp)
  | rfl
section
variable{K:Frag}{H:Hp}{Q:VK}{f C S:Addr}{k:RK}{h w g m y:Int}{fl:∅}{cs:List Nat}
def vY{Nu:Addr}{nu:List Nat}{v0 v1 v2 v3 v5 v7 v8 v9:Option V}(eO:H C=↥((iN cs).map V.int))(eN:H Nu=↥((iN nu).map V.int))(hc:∀ c∈cs,c<100)(hn:∀ c∈nu,c<100)(cl:cs.length<=16)(nl:nu.length<=2)(q:∀ H',Same H H'->∀ T,H' T=none->Q (.ref T) (upd H' T (.tup [V.str (tx (catL 32 (nmC k::(nu++cs).map numC))),V.str (tx (nmC k)),V.ref C]))):
  cG K (eD9 Q) [v0,v1,v2,v3,some (.str (tx (nmC k))),v5,↑C,v7,v8,v9,↑Nu] H:=by
 unfold cG;symm;refine⟨Bw,lnR rfl,fun Wd hW=>?_⟩;obtain⟨H1,z9,s1,eW⟩:∃ z,upd H Wd (.lst [V.str (tx (nmC k))])=z/\Same H z/\z Wd=↥((([nmC k]:List (List Nat)).map tx).map V.str):=bn _ hW;rw[z9];refine qK (s1 _ _ eN) (s1 _ _ eO) (by unfold iN;simp;omega) fun Y hY=>?_;have s2:Same H1 (upd H1 Y (.lst ((iN nu).map V.int++(iN cs).map V.int))):=(GJ H1).laid hY;have eY:(upd H1 Y (.lst ((iN nu).map V.int++(iN cs).map V.int))) Y=↥(((nu++cs).map fun(n:Nat)=>(n:Int)).map V.int):=by rw[ah];unfold iN;simp
 generalize upd H1 Y (.lst ((iN nu).map V.int++(iN cs).map V.int))=H2 at*;refine⟨Y,rfl,⟨_,G6 eY⟩,?_⟩;refine z5 eY (by simp;omega) (fun c h=>(Hc.mp h).elim (hn c) (hc c)) fun l H3 hl s3 el=>?_;symm;refine qK ((s2.trans s3) _ _ eW) el (by simp;omega) fun Z hZ=>?_;have s4:Same H3 (upd H3 Z (.lst ((([nmC k]:List (List Nat)).map tx).map V.str++(((nu++cs).map numC).map tx).map V.str))):=(GJ H3).laid hZ;have eZ:(upd H3 Z (.lst ((([nmC k]:List (List Nat)).map tx).map V.str++(((nu++cs).map numC).map tx).map V.str))) Z=↥(((nmC k::(nu++cs).map numC).map tx).map V.str):=by rw[ah];rfl
 generalize upd H3 Z (.lst ((([nmC k]:List (List Nat)).map tx).map V.str++(((nu++cs).map numC).map tx).map V.str))=H4 at*;have kl:=xO k
 refine B3 eZ (vo (by simp;omega) (fun t ht=>by
  obtain⟨z,hz,rfl⟩:=G1.mp ht;rw[fI];rcases GU.mp hz with rfl | hz
  . omega
  . obtain⟨x,_,rfl⟩:=G1.mp hz;exact GS oT #[1]) (by rw[fI];decide)) ?_
 rw[AW,sy];symm;exact⟨lnR rfl,fun T hT=>q _ (((s1.trans s2).trans s3).trans s4) T hT⟩
def uQ{Nu:Addr}{nu:List Nat}{n mm:Nat}{v0 v1 v2 v3 v5 v7 v8 v9:Option V}(F:FlOk h w g)(Y:Cs58 h w cs)(ha:allK k=false)(k0:k≠.Rule)(eO:H C=↥((iN cs).map V.int))(eN:H Nu=↥((iN nu).map V.int))(hn:∀ c∈nu,c<100)(nl:nu.length<=2)(n9:n<=99)(nz:numK k=false->n=0)(m0:sgnK k=true->1<=(mm:Int)/\(mm:Int)<=g)(mz:sgnK k=false->mm=0)(enu:nu.map numC=(if numK k then [numC n] else [])++(if sgnK k then [numC mm] else []))(ho:hoB k h w (iN cs) n mm fl=true)(q:∀(T C':Addr) (r:RR) (H':Hp),Same H H'->(C'=C\/H C'=none)->Rl38 H' T C' r h w->fW h w g fl r->Q (.ref T) H'):
  cG K (eD9 Q) [v0,v1,v2,v3,some (.str (tx (nmC k))),v5,↑C,v7,v8,v9,↑Nu] H:=by
 refine vY eO eN (Y.lt100 F) hn Y.len nl fun H' s' T hT=>?_
 have e:tx (catL 32 (nmC k::(nu++cs).map numC))=RR.txt ⟨k,n,mm,cs,iN cs⟩:=by
  show _=tx (catL 32 (rowW k n mm cs));unfold rowW;rw[HY,enu]
 rw[e];have st:=(GJ H').laid hT (o:=.tup [V.str (RR.txt ⟨k,n,mm,cs,iN cs⟩),V.str (tx (nmC k)),V.ref C]);exact q T C _ _ (s'.trans st) (.inl rfl) ⟨⟨_,ah⟩,.inl ⟨(s'.trans st) _ _ eO,fun e=>Y.ne (by unfold iN at e;exact List.map_eq_nil_iff.mp e)⟩⟩ (DL F Y ha k0 n9 nz m0 mz ho)
def wM{Nu:Addr}{v3 v5 v8 v9:Option V}(X:Rw53 H f h w g fl)(Z:sU h w fl k cs)(ha:allK k=false)(k0:k≠.Rule)(eO:H C=↥((iN cs).map V.int))(eS:H S=↥((sgAt fl (iN cs)).map V.int))(eN:H Nu=↥((iN []).map V.int))(q:∀(T C':Addr) (r:RR) (H':Hp),Same H H'->(C'=C\/H C'=none)->Rl38 H' T C' r h w->fW h w g fl r->Q (.ref T) H'):
  e9 K (eD9 Q) [↑f,⇑g,⇑y,v3,some (.str (tx (nmC k))),v5,↑C,↑S,v8,v9,↑Nu] H:=by
 have F:=X.F;have g0:=F.g0;have g6:=F.g1;have Y:=Z.Y;have un:=Z.un;have ri:=Z.ri;have cl:=Y.len;have sl:(sgAt fl (iN cs)).length=cs.length:=by unfold sgAt iN;rw[GG,GG]
 have sb:∀ x∈sgAt fl (iN cs),1<=x/\x<=6:=fun x hx=>by
  unfold sgAt at hx;obtain⟨c,hc,rfl⟩:=G1.mp hx;have:=Be Y X.fll X.sg hc;omega
 unfold e9;rw[aB,ax];generalize hW:e8 K=W at*;symm;rw[DN];by_cases e1:k=.Sum
 . rw[GL e1];refine iteT ?_;symm;have sm:=vS (sgAt fl (iN cs)) fun x hx=>by have:=sb x hx;omega
   refine uO eS (fun x hx=>by have:=sb x hx;omega) #[0] ?_;refine⟨lnR rfl,fun N hN=>?_⟩;have s1:Same H (upd H N (.lst [V.int (sgAt fl (iN cs)).sum])):=(GJ H).laid hN
   have eN2:(upd H N (.lst [V.int (sgAt fl (iN cs)).sum])) N=↥((iN [(sgAt fl (iN cs)).sum.toNat]).map V.int):=by
    rw[ah];show _=some (HO.lst [V.int (((sgAt fl (iN cs)).sum.toNat:Nat):Int)]);rw[show(((sgAt fl (iN cs)).sum.toNat:Nat):Int)=(sgAt fl (iN cs)).sum by omega]
   generalize upd H N (.lst [V.int (sgAt fl (iN cs)).sum])=H1 at*;subst hW;unfold e8;rw[aB,ax];symm;rw[Ap,e1,GI (show ¬ RK.Sum=RK.Seen by decide)];refine iteF ?_;unfold cZ;rw[aB,ax];symm;rw[yH,GI (show ¬ RK.Sum=RK.Count by decide)];refine iteF ?_;refine uQ (k:=.Sum) (n:=(sgAt fl (iN cs)).sum.toNat) (mm:=0) F Y rfl #[1] (s1 _ _ eO) eN2 (fun c hc=>by rw[GW.mp hc];omega) (by simp) #[0] (fun e=>by cases e) (fun e=>by cases e) (fun _=>rfl) rfl ?_ fun T C' r H' s' fr x O=>q T C' r H' (s1.trans s') (fr.imp id fun z=>s1.free z) x O;show decide ((sgAt fl (iN cs)).sum=(((sgAt fl (iN cs)).sum.toNat:Nat):Int))=true;exact GL #[0]
 . rw[GI e1];refine iteF ?_;subst hW;unfold e8;rw[aB,ax];generalize hW:cZ K=W at*;symm;rw[Ap];by_cases e3:k=.Seen
   . rw[GL e3];refine iteT ?_;symm;rw[cj eS,GG];refine⟨_,rfl,by omega,by omega,?_⟩;rw[HI];refine kY (fun i=>oX (sgAt fl (iN cs)) i) (fun(i:Nat)=>(0:Int)+(i:Int)) #[0] ?_ ?_ ?_
     . intro i H5 R5 hi s5 k5;show tOr _ _ [none,⇑(0+(i:Int)),↑S] H5 R5;rw[Iq];symm;unfold oX at k5;by_cases i0:(i:Int)=0
       . refine nY (GL i0) ?_;rw[GL i0,IX] at k5;exact k5 _ (GJ _)
       . refine iU (GI i0) ?_;rw[GI i0,Ia] at k5;refine ixI (s5 _ _ eS) #[0] #[0] ?_;rw[HI];symm;refine mh (s5 _ _ eS) fun Z hZ=>?_;rw[Dk V.int];obtain⟨H6,z9,s6,eZ⟩:=bn (.lst (((sgAt fl (iN cs)).take i).map V.int)) hZ;rw[z9];refine Dg eZ (by rw[HV];omega) ?_;symm;exact k5 _ s6
     . intro i H5 Q5 hi hb5 s5 k5;exact iF rfl (k5 _ (GJ _))
     . intro A H3 hA s3 eA;have sn:=Ar (l:=sgAt fl (iN cs)) (fun y hy=>(sb y hy).1) (sgAt fl (iN cs)).length (GP _);rw[Ix] at sn;have bd:=Am (sgAt fl (iN cs));rw[cj eA,GG,GG];generalize ((List.range (sgAt fl (iN cs)).length).filter (oX (sgAt fl (iN cs)))).length=N at*;symm;refine⟨lnR rfl,fun N2 hN2=>?_⟩;obtain⟨H4,z9,s4,eN2⟩:∃ z,upd H3 N2 (.lst [V.int (N:Int)])=z/\Same H3 z/\z N2=↥((iN [N]).map V.int):=bn _ hN2;rw[z9];have s34:=s3.trans s4;subst hW;unfold cZ;rw[aB,ax];symm;rw[yH,e3,GI (show ¬ RK.Seen=RK.Count by decide)];refine iteF ?_;refine uQ (k:=.Seen) (n:=N) (mm:=0) F Y rfl #[1] (s34 _ _ eO) eN2 (fun c hc=>by rw[GW.mp hc];omega) (by simp) #[0] (fun e=>by cases e) (fun e=>by cases e) (fun _=>rfl) rfl ?_ fun T C' r H' s' fr x O=>q T C' r H' (s34.trans s') (fr.imp id fun z=>s34.free z) x O;show decide ((seenN (sgAt fl (iN cs))).2=(N:Int))=true;exact GL sn.symm
   . rw[GI e3];refine iteF ?_;subst hW;unfold cZ;rw[aB,ax];generalize hW:cG K=W at*;symm;rw[yH];by_cases e2:k=.Count
     . rw[GL e2];refine iteT ?_;symm;have b0:=HD (y/500) (show g≠0 by omega);have b1:=Hq (y/500) (show 0<g by omega);refine⟨⟨by decide,by decide⟩,by omega,?_⟩;generalize hm:1+y/500%g=m at*;symm;refine⟨⟨_,G6 eS⟩,?_⟩;refine bH (fun x=>decide (x=m)) (fun x=>x) #[0] (G6 eS) ?_ ?_ ?_
       . intro x H4 R4 hx s4 k4;show tTest _ [none,⇑x,⇑m] H4 R4;symm;exact k4 _ (GJ _)
       . intro x H4 Q4 hx hb4 s4 k4;show tVar 1 [none,⇑x,⇑m] H4 Q4;symm;exact k4 _ (GJ _)
       . intro A H3 hA s3 eA;have eA:H3 A=↥(((sgAt fl (iN cs)).filter fun y=>decide (y=m)).map V.int):=by rw[IK] at eA;exact eA
         have fl2:((sgAt fl (iN cs)).filter fun y=>decide (y=m)).length<=cs.length:=by rw[← sl];exact Hg _ _
         have ct:=Aq fl (iN cs) m;symm;rw[cj eA,GG];generalize ((sgAt fl (iN cs)).filter fun y=>decide (y=m)).length=N at*;symm;refine⟨lnR rfl,fun N2 hN2=>?_⟩;have s4:Same H3 (upd H3 N2 (.lst [V.int (N:Int),V.int m])):=(GJ H3).laid hN2
         have eN2:(upd H3 N2 (.lst [V.int (N:Int),V.int m])) N2=↥((iN [N,m.toNat]).map V.int):=by
          rw[ah];show _=some (HO.lst [V.int (N:Int),V.int ((m.toNat:Nat):Int)]);rw[show((m.toNat:Nat):Int)=m by omega]
         generalize upd H3 N2 (.lst [V.int (N:Int),V.int m])=H4 at*;have s34:=s3.trans s4;subst hW;rw[e2]
         refine uQ (k:=.Count) (n:=N) (mm:=m.toNat) F Y rfl #[1] (s34 _ _ eO) eN2 (fun c hc=>by
          simp only[GU,HZ,JO] at hc;rcases hc with rfl | rfl <;> omega) (by simp) #[0] (fun e=>by cases e) (fun _=>by omega) (fun e=>by cases e) rfl ?_ fun T C' r H' s' fr x O=>q T C' r H' (s34.trans s') (fr.imp id fun z=>s34.free z) x O
         show decide (((mkAt fl (iN cs) ((m.toNat:Nat):Int)).length:Int)=(N:Int))=true;rw[show((m.toNat:Nat):Int)=m by omega];exact GL ct.symm
     . rw[GI e2];refine iteF ?_;subst hW;have hnk:numK k=false:=by revert e1 e2 e3;cases k <;> intro e1 e2 e3 <;> first | rfl | exact absurd rfl e1 | exact absurd rfl e2 | exact absurd rfl e3
       have hsk:sgnK k=false:=by revert ha e2;cases k <;> intro ha e2 <;> first | rfl | exact absurd rfl e2 | (cases ha;done)
       refine uQ (n:=0) (mm:=0) F Y ha k0 eO eN (fun c hc=>by cases hc) (by simp) #[1] (fun _=>rfl) (fun e=>by rw[hsk] at e;cases e) (fun _=>rfl) (by rw[hnk,hsk];rfl) ?_ q
       clear Z
       revert e1 e2 e3 ha k0 un ri
       cases k <;> intro ha k0 un ri e1 e2 e3 <;> first
        | exact absurd rfl k0
        | exact absurd rfl e1
        | exact absurd rfl e2
        | exact absurd rfl e3
        | (cases ha;done)
        | exact GL ((vA _).mpr (un rfl))
        | exact ri rfl
end
def Ds(k:RK):decide (tx (nmC k)=tx [110,111,115,113,117,97,114,101])=decide (k=.NoSquare):=by cases k <;> decide+kernel
def reg38:List RK:=[.Joined,.Ring,.NoSquare]
def Bm{j:Int}(j0:0<=j)(j1:j<3):∃ k:RK,(k=.Joined\/k=.NoSquare\/k=.Ring)/\atI (reg38.map fun k=>V.str (tx (nmC k))) j=some (V.str (tx (nmC k))):=by
 have e:j=0\/j=1\/j=2:=by omega
 rcases e with rfl | rfl | rfl
 . exact⟨.Joined,.inl rfl,rfl⟩
 . exact⟨.Ring,.inr (.inr rfl),rfl⟩
 . exact⟨.NoSquare,.inr (.inl rfl),rfl⟩
def wds38:List RK:=[.Count,.Rising,.Sum,.Seen,.Unlike,.Count,.Sum,.Rising,.NoSquare]
def Bn{j:Int}(j0:0<=j)(j1:j<9):∃ k:RK,(allK k=false\/k=.NoSquare)/\k≠.Rule/\atI (wds38.map fun k=>V.str (tx (nmC k))) j=some (V.str (tx (nmC k))):=by
 have e:j=0\/j=1\/j=2\/j=3\/j=4\/j=5\/j=6\/j=7\/j=8:=by omega
 rcases e with rfl | rfl | rfl | rfl | rfl | rfl | rfl | rfl | rfl
 . exact⟨.Count,.inl rfl,by decide,rfl⟩
 . exact⟨.Rising,.inl rfl,by decide,rfl⟩
 . exact⟨.Sum,.inl rfl,by decide,rfl⟩
 . exact⟨.Seen,.inl rfl,by decide,rfl⟩
 . exact⟨.Unlike,.inl rfl,by decide,rfl⟩
 . exact⟨.Count,.inl rfl,by decide,rfl⟩
 . exact⟨.Sum,.inl rfl,by decide,rfl⟩
 . exact⟨.Rising,.inl rfl,by decide,rfl⟩
 . exact⟨.NoSquare,.inr rfl,by decide,rfl⟩
section
variable{K:Frag}{H:Hp}{Q:VK}{f C S:Addr}{k:RK}{h w g m y:Int}{fl:∅}{cs:List Nat}
def pA{v3 v5 v8 v9 v10:Option V}(X:Rw53 H f h w g fl)(Z:sU h w fl k cs)(ha:allK k=false)(k0:k≠.Rule)(eO:H C=↥((iN cs).map V.int))(eS:H S=↥((sgAt fl (iN cs)).map V.int))(q:∀(T C':Addr) (r:RR) (H':Hp),Same H H'->(C'=C\/H C'=none)->Rl38 H' T C' r h w->fW h w g fl r->Q (.ref T) H'):
  fb K (eD9 Q) [↑f,⇑g,⇑y,v3,some (.str (tx (nmC k))),v5,↑C,↑S,v8,v9,v10] H:=by
 unfold fb;generalize hW:e9 K=W at*;symm;refine⟨aV #[1],fun Nu hN=>?_⟩;obtain⟨H4,z9,s4,eN⟩:∃ z,upd H Nu (.lst [])=z/\Same H z/\z Nu=↥((iN []).map V.int):=bn _ hN;rw[z9];subst hW;exact wM (X.same s4) Z ha k0 (s4 _ _ eO) (s4 _ _ eS) eN fun T C' r H' s' fr x O=>q T C' r H' (s4.trans s') (fr.imp id fun z=>s4.free z) x O
def wN{v3 v5 v8 v9 v10:Option V}(X:Rw53 H f h w g fl)(Z:sU h w fl k cs)(ha:allK k=false\/k=.NoSquare)(k0:k≠.Rule)(eO:H C=↥((iN cs).map V.int))(eS:H S=↥((sgAt fl (iN cs)).map V.int))(q:∀(T C':Addr) (r:RR) (H':Hp),Same H H'->(C'=C\/H C'=none)->Rl38 H' T C' r h w->fW h w g fl r->Q (.ref T) H'):
  fc K (eD9 Q) [↑f,⇑g,⇑y,v3,some (.str (tx (nmC k))),v5,↑C,↑S,v8,v9,v10] H:=by
 have g0:=X.F.g0;have g6:=X.F.g1;unfold fc;rw[aB,ax];generalize hW:fb K=W at*;symm;rw[Ds];by_cases e:k=.NoSquare
 . rw[GL e];refine iteT ?_;symm;refine⟨1,g+1,rfl,⟨by omega,by omega,by omega,by omega⟩,?_⟩;refine kY (fun i=>!decide ((1+(i:Int))∈fl)) (fun(i:Nat)=>(1:Int)+(i:Int)) #[0] ?_ ?_ ?_
   . intro i H5 R5 hi s5 k5;show tTest _ [none,⇑(1+(i:Int)),↑f] H5 R5;symm;rw[uN (s5 _ _ X.f)];exact⟨_,rfl,k5 _ (GJ _)⟩
   . intro i H5 Q5 hi hb5 s5 k5;exact iF rfl (k5 _ (GJ _))
   . intro A H3 hA s3 eA
     have al:∀ x∈((List.range (g+1-1).toNat).filter fun(i:Nat)=>!decide ((1+(i:Int))∈fl)).map (fun(i:Nat)=>(1:Int)+(i:Int)),1<=x/\x<=g/\x∉fl:=fun x hx=>by
      obtain⟨i,hi,rfl⟩:=G1.mp hx;obtain⟨hi,hb⟩:=HC.mp hi;have:=G0.mp hi;refine⟨by omega,by omega,by simpa using hb⟩
     have ll:(((List.range (g+1-1).toNat).filter fun(i:Nat)=>!decide ((1+(i:Int))∈fl)).map (fun(i:Nat)=>(1:Int)+(i:Int))).length<=6:=by
      rw[GG];refine GS (Hg _ _) ?_;rw[HX];omega
     generalize ((List.range (g+1-1).toNat).filter fun(i:Nat)=>!decide ((1+(i:Int))∈fl)).map (fun(i:Nat)=>(1:Int)+(i:Int))=ls at*;symm;rw[ax];symm;refine⟨aV #[1],fun B hB=>?_⟩;obtain⟨H4,z9,s4,eB⟩:∃ z,upd H3 B (.lst [])=z/\Same H3 z/\z B=↥(([]:∅).map V.int):=bn _ hB;rw[z9];have s34:=s3.trans s4;refine oQ (s4 _ _ eA) eB ?_;symm;by_cases h0:ls=[]
     . refine iU (by rw[GL h0];rfl) ?_;symm;subst hW;exact pA (k:=.Sum) (X.same s34) ⟨Z.Y,fun e=>(by cases e),fun e=>(by cases e)⟩ rfl #[1] (s34 _ _ eO) (s34 _ _ eS) fun T C' r H' s' fr x O=>q T C' r H' (s34.trans s') (fr.imp id fun z=>s34.free z) x O
     . refine nY (by rw[GI h0];rfl) ?_;have lp:0<ls.length:=Jq.mpr h0;symm;refine⟨lnR rfl,fun U hU=>?_⟩;have s5:Same H4 (upd H4 U (.lst (reg38.map fun k=>V.str (tx (nmC k))))):=(GJ H4).laid hU;have eU:(upd H4 U (.lst (reg38.map fun k=>V.str (tx (nmC k))))) U=↥(reg38.map fun k=>V.str (tx (nmC k))):=ah;refine⟨⟨by decide,by decide⟩,by decide,?_⟩;show cIx (V.ref U) (V.int (y/9%3)) (upd H4 U (.lst (reg38.map fun k=>V.str (tx (nmC k))))) _;generalize upd H4 U (.lst (reg38.map fun k=>V.str (tx (nmC k))))=H5 at*;obtain⟨k2,hk,ek⟩:=Bm (j:=y/9%3) (HD _ #[1]) (Hq _ #[1]);refine ixL eU ek ?_;have ka:allK k2=true:=by rcases hk with rfl | rfl | rfl <;> rfl
       have kr:k2≠.Rule:=by rcases hk with rfl | rfl | rfl <;> decide
       have hs:sgnK k2=true:=by rcases hk with rfl | rfl | rfl <;> rfl
       have hn:numK k2=false:=by rcases hk with rfl | rfl | rfl <;> rfl
       have kl:=xO k2;symm;rw[qJ];refine⟨by rw[fI,fI];exact aV (by simp;omega),⟨by decide,by decide⟩,?_⟩;rw[cj (s5 _ _ (s4 _ _ eA)),GG];symm;have b0:=HD (y/27) (show(ls.length:Int)≠0 by omega);have b1:=Hq (y/27) (show 0 < (ls.length:Int) by omega);refine⟨by omega,?_⟩;generalize y/27 % (ls.length:Int)=x at*;refine ixI (s5 _ _ (s4 _ _ eA)) b0 b1 ?_;obtain⟨m0,m1,ma⟩:=al _ (fS (l:=ls) (k:=x.toNat) #[0]);generalize ls.getD x.toNat 0=m at*;symm;have t:=toSA (i:=m) #[0] #[0];have nl:=oT (n:=m.toNat);rw[t.1,qJ];refine⟨t.2,by rw[fI,fI];exact aV (by simp;omega),?_⟩;refine⟨aV #[1],fun C2 hC2=>?_⟩;obtain⟨H6,z9,s6,eC2⟩:=bn (.lst []) hC2;rw[z9];refine⟨lnR rfl,fun T hT=>?_⟩
       have e:nmC k2++[32]++numC m.toNat=catL 32 (rowW k2 0 m.toNat []):=by
        unfold rowW;rw[hn,hs];show _=nmC k2++32::numC m.toNat;simp
       rw[e];have s7:=(GJ H6).laid hT (o:=.tup [V.str (tx (catL 32 (rowW k2 0 m.toNat []))),V.str (tx (nmC k)),V.ref C2]);refine q T C2 ⟨k2,0,m.toNat,[],rngL 0 (h*w)⟩ _ (((s34.trans s5).trans s6).trans s7) (.inr ((s34.trans s5).free hC2)) ⟨⟨_,ah⟩,.inr ⟨s7 _ _ eC2,rfl⟩⟩ ⟨Ab ka kr hn hs #[0] #[0],?_⟩;show hoB k2 h w (rngL 0 (h*w)) ((0:Nat):Int) ((m.toNat:Nat):Int) fl=true;rw[show((m.toNat:Nat):Int)=m by omega];exact Bl ka X.fll ma
 . rw[GI e];refine iteF ?_;subst hW;exact pA X Z (ha.elim id fun e'=>absurd e' e) k0 eO eS q
def wO{v3 v5 v7 v8 v9 v10:Option V}(X:Rw53 H f h w g fl)(Z:sU h w fl k cs)(ha:allK k=false\/k=.NoSquare)(k0:k≠.Rule)(eO:H C=↥((iN cs).map V.int))(q:∀(T C':Addr) (r:RR) (H':Hp),Same H H'->(C'=C\/H C'=none)->Rl38 H' T C' r h w->fW h w g fl r->Q (.ref T) H'):
  fe K (eD9 Q) [↑f,⇑g,⇑y,v3,some (.str (tx (nmC k))),v5,↑C,v7,v8,v9,v10] H:=by
 have Y:=Z.Y;have cl:=Y.len;unfold fe;generalize hW:fc K=W at*;symm;refine⟨⟨_,G6 eO⟩,?_⟩;refine bH (fun _=>true) (fun x=>fl.getD x.toNat 0) (by unfold iN;rw[GG];omega) (G6 eO) ?_ ?_ ?_
 . intro x H4 R4 hx s4 k4;exact k4 _ (GJ _)
 . intro x H4 Q4 hx hb4 s4 k4;show tOp cIx _ _ [none,⇑x,↑f] H4 Q4;symm;have b:=Be Y X.fll X.sg hx;exact ixI (s4 _ _ X.f) b.1 b.2.1 (k4 _ (GJ _))
 . intro S H3 hS s3 eS;have eS:H3 S=↥((sgAt fl (iN cs)).map V.int):=by rw[Iv.mpr (fun _ _=>rfl)] at eS;exact eS
   symm;subst hW;exact wN (X.same s3) Z ha k0 (s3 _ _ eO) eS fun T C' r H' s' fr x O=>q T C' r H' (s3.trans s') (fr.imp id fun z=>s3.free z) x O
end
def uv(h:ji K vs H Q E):jj K (eD9 Q) (start ["_law_filling","_law_signs","_law_cell","_law_many","_law_word","_law_order_here","_law_cells_here","_law_told","_law_sign","_law_left","_law_numbers"] vs) H:=by
 obtain⟨f,h,w,g,y,fl,rfl,X,T,q⟩:=h;have fll:=X.fll;have m16:=X.F.m;have mp:=X.m1;ac_nf;unfold jj;generalize hW:gw K=W at*;symm;rw[cj X.f,GG];symm;refine⟨lnR rfl,fun U hU=>?_⟩;have s1:Same H (upd H U (.lst (wds38.map fun k=>V.str (tx (nmC k))))):=(GJ H).laid hU;have eU:(upd H U (.lst (wds38.map fun k=>V.str (tx (nmC k))))) U=↥(wds38.map fun k=>V.str (tx (nmC k))):=ah;refine⟨by decide,?_⟩;show cIx (V.ref U) (V.int (y%9)) (upd H U (.lst (wds38.map fun k=>V.str (tx (nmC k))))) _;generalize upd H U (.lst (wds38.map fun k=>V.str (tx (nmC k))))=H1 at*;obtain⟨k,ha,k0,ek⟩:=Bn (j:=y%9) (HD _ #[1]) (Hq _ #[1]);refine ixL eU ek ?_;have X1:=X.same s1;have T1:=T.same s1;subst hW;unfold gw;generalize hW:fe K=W at*;symm;refine⟨⟨by decide,by decide⟩,?_⟩;refine⟨_,_,rfl,by omega,by omega,fun O H3 cs s3 hO eO nd lt len=>?_⟩;have b0:=HD (y/63) (show(fl.length:Int)≠0 by omega);have b1:=Hq (y/63) (show 0 < (fl.length:Int) by omega);symm;refine⟨⟨by decide,by decide⟩,by omega,?_⟩;generalize y/63 % (fl.length:Int)=x at*;refine mh eO fun O2 hO2=>?_;rw[A4 _ #[0],Bi];obtain⟨H4,z9,s4,e4⟩:∃ z,upd H3 O2 (.lst (nsV (cs.take (1+x).toNat)))=z/\Same H3 z/\z O2=↥((iN (cs.take (1+x).toNat)).map V.int):=bn _ hO2;rw[z9];have tl:(cs.take (1+x).toNat).length=(1+x).toNat:=by rw[HV];omega
 have Y:Cs58 h w (cs.take (1+x).toNat):=⟨fun e=>by rw[e] at tl;simp at tl;omega,nd.sublist (List.take_sublist _ _),fun c hc=>by have:=lt c (Jf hc);omega,by omega⟩;generalize cs.take (1+x).toNat=ds at*;have s34:=s3.trans s4;symm;refine⟨f,O2,k,h,w,g,fl,ds,rfl,X1.same s34,Y,e4,T1.same s34,fun R es H5 s5 T5 fr0 e5 Z=>?_⟩;subst hW;have X5:Rw53 H5 f h w g fl:=⟨X.F,s5 _ _ ((T1.same s34).ne ((X1.same s34).f)) (X1.same s34).f,X.fll,X.sg,X.m1⟩;have f4:H4 R=none\/R=O2:=fr0.symm;have fH:H R=none:=fr0.elim (fun z=>z ▸ (s1.trans s3).free hO2) fun z=>(s1.trans s34).free z;exact wO X5 Z ha k0 e5 fun T C' r H' s' fr x O=>q T C' r H' ((SameX.of (s1.trans s34)).trans (s5.trans (.of s'))) (T5.same s') (fr.elim (fun z=>z ▸ fH) fun z=>(s1.trans s34).free (s5.free38 T5 z)) x O
def BD(s0:1<=s)(s6:s<=6):(0<=(1:Int)*2^(s-1).toNat/\(1:Int)*2^(s-1).toNat<64)/\stB ((1:Int)*2^(s-1).toNat) s=true:=by
 have e:s=1\/s=2\/s=3\/s=4\/s=5\/s=6:=by omega
 rcases e with rfl | rfl | rfl | rfl | rfl | rfl <;> decide
def yJ{xs:∅}{v:Int}{k:Nat}(hk:k < (xs++[v]).length):(k<xs.length/\(xs++[v]).getD k 0=xs.getD k 0)\/(k=xs.length/\(xs++[v]).getD k 0=v):=by
 rw[Ha,IZ] at hk;by_cases e:k<xs.length
 . refine .inl ⟨e,?_⟩;rw[List.getD,List.getD,Ho e]
 . have e2:k=xs.length:=by omega
   refine .inr ⟨e2,?_⟩;rw[List.getD,Hu #[0],e2,Nat.sub_self];rfl
def h9(K:Frag):Sp:=fun vs H Q _=>∃(a f:Addr) (ns:∅) (g:Int) (fl:∅),vs=[.ref a,.ref f,.int g]/\SqL K H a (ns.map V.int)/\ns.length<=63/\H f=↥(fl.map V.int)/\fl.length<=16/\1<=g/\g<=6/\(∀ x∈fl,1<=x/\x<=g)/\∀(l:Addr) (H':Hp) (ms:∅),Same H H'->H l=none->H' l=↥(ms.map V.int)->ms.length=fl.length->(∀ m∈ms,0<=m/\m<64)->(∀ k,k<fl.length->stB (ms.getD k 0) (fl.getD k 0)=true)->Q (.ref l) H'
def yK(K:Frag):TS:=#[":gmob>bB5df#5 df#2 lb'h6,~Lcabudf#1 bBbU5df#40 2eh#6 nVHcGW3a6e"]
def yL(K:Frag):TS:=#[":gmob>bB5df#5 df#0 lb'h6,~Lcabudf#1 bBbU5df#5 2eh#6 n{Wc"]
def ia(K:Frag):TS:=#[":glveh#3 gLXapCa1eeh#4 glbBbJbu,~mca0abudf#7 4ebJbJdf#47 44df#30011 df#65521 h#5 gl,~Lcabk14eh#6 {Xci3"]
section
variable{K:Frag}{H:Hp}{D:Ends}{f R:Addr}{g z m:Int}{ms:∅}{v0 v1 v4:Option V}
def BE{x:Int}(m0:0<=m/\m<64)(x0:1<=x)(x6:x<=6):(0<=Builtin.bitOr m (1*2^(x-1).toNat)/\Builtin.bitOr m (1*2^(x-1).toNat)<64)/\∀ s,1<=s->s<=6->stB m s=true->stB (Builtin.bitOr m (1*2^(x-1).toNat)) s=true:=by
 have b:=BD x0 x6;refine⟨Bx m0.1 m0.2 b.1.1 b.1.2,fun s s0 s6 h=>?_⟩;rw[DK m0.1 m0.2 b.1.1 b.1.2 s0 s6,h,IX]
def xP(eR:H R=↥(ms.map V.int))(hl:ms.length<=16)(g0:1<=g)(g6:g<=6)(m0:0<=m/\m<64)(kk:∀ m',(0<=m'/\m'<64)->(∀ s,1<=s->s<=6->stB m s=true->stB m' s=true)->∀ H',Same H H'->D.nx [v0,v1,⇑g,↑R,v4,⇑z,⇑m'] (upd H' R (.lst ((ms++[m']).map V.int)))):
  yK K D [v0,v1,⇑g,↑R,v4,⇑z,⇑m] H:=by
 unfold yK;rw[aB,ax];symm;refine⟨by decide,?_⟩;by_cases c:2<z%5
 . refine nY (GL c) ?_;symm;have b0:=HD (z/40) (show g≠0 by omega);have b1:=Hq (z/40) (show 0<g by omega);refine⟨⟨by decide,by decide⟩,by omega,?_⟩;refine⟨1+z/40%g,rfl,by omega,by omega,fun H1 s1=>?_⟩;have o:=BE (x:=1+z/40%g) m0 #[0] #[0];unfold cOr;symm;refine⟨bD (s1 _ _ eR),?_⟩;rw[d9 (s1 _ _ eR)];refine⟨by rw[GG];exact ay #[0],?_⟩;have:=kk _ o.1 o.2 H1 s1;rw[HY] at this;exact this
 . refine iU (GI c) ?_;symm;refine⟨bD eR,?_⟩;rw[d9 eR];refine⟨by rw[GG];exact ay #[0],?_⟩;have:=kk m m0 (fun _ _ _ h=>h) H (GJ _);rw[HY] at this;exact this
def Cj(eR:H R=↥(ms.map V.int))(hl:ms.length<=16)(g0:1<=g)(g6:g<=6)(m0:0<=m/\m<64)(kk:∀ m',(0<=m'/\m'<64)->(∀ s,1<=s->s<=6->stB m s=true->stB m' s=true)->∀ H',Same H H'->D.nx [v0,v1,⇑g,↑R,v4,⇑z,⇑m'] (upd H' R (.lst ((ms++[m']).map V.int)))):
  yL K D [v0,v1,⇑g,↑R,v4,⇑z,⇑m] H:=by
 unfold yL;rw[aB,ax];generalize hW:yK K=W at*;symm;refine⟨by decide,?_⟩;by_cases c:0<z%5
 . refine nY (GL c) ?_;symm;have b0:=HD (z/5) (show g≠0 by omega);have b1:=Hq (z/5) (show 0<g by omega);refine⟨⟨by decide,by decide⟩,by omega,?_⟩;refine⟨1+z/5%g,rfl,by omega,by omega,fun H1 s1=>?_⟩;have o:=BE (x:=1+z/5%g) m0 #[0] #[0];unfold cOr;symm;subst hW;exact xP (s1 _ _ eR) hl g0 g6 o.1 fun m' b' c' H' s'=>kk m' b' (fun s s0 s6 h=>c' s s0 s6 (o.2 s s0 s6 h)) H' (s1.trans s')
 . refine iU (GI c) ?_;subst hW;exact xP eR hl g0 g6 m0 kk
end
def ro(h:h9 K vs H Q E):ia K (eD9 Q) (start ["_law_script","_law_filling","_law_signs","_law_masks_here","_law_k","_law_cell","_law_mask"] vs) H:=by
 obtain⟨a,f,ns,g,fl,rfl,hS,hn,ef,f16,g0,g6,sg,q⟩:=h;ac_nf;unfold ia;generalize hU:yL K=U at*;symm;refine⟨aV #[1],fun R hR=>?_⟩;obtain⟨H1,z9,s1,eR⟩:∃ z,upd H R (.lst [])=z/\Same H z/\z R=↥(([]:∅).map V.int):=bn _ hR;rw[z9];rw[cj (s1 _ _ ef),GG];refine⟨_,rfl,by omega,by omega,?_⟩;rw[HI];refine d3 (fun i σ H'=>∃(v4 v5 v6:Option V) (ms:∅),σ=[↑a,↑f,⇑g,↑R,v4,v5,v6]/\Same H H'/\H' R=↥(ms.map V.int)/\ms.length=i/\(∀ m∈ms,0<=m/\m<64)/\∀ k,k<i->stB (ms.getD k 0) (fl.getD k 0)=true) ⟨_,_,_,[],rfl,s1,eR,rfl,fun x hx=>(by cases hx),fun k hk=>absurd hk (Nat.not_lt_zero _)⟩ ?_ ?_
 . rintro i σ H3 hi ⟨v4,v5,v6,ms,rfl,s3,eR3,ml,mm,st⟩;rw[Iq];symm;refine⟨a,ns,_,rfl,s3.seq hS,hn,by omega,by omega,?_⟩;symm;refine⟨.inl ⟨by decide,by decide⟩,.inl ⟨by omega,by omega⟩,.inr ⟨by decide,by decide⟩,by decide,?_⟩;generalize (sQ ns (7+(i:Int))+47*(i:Int)*(i:Int))*30011%65521=z at*;refine ixI (s3 _ _ ef) #[0] #[0] ?_;rw[HI];have sx:=sg _ (fS (l:=fl) (k:=i) hi);symm;refine⟨_,rfl,by omega,by omega,fun H4 s4=>?_⟩;have b:=BD sx.1 (show fl.getD i 0<=6 by omega);symm;subst hU;refine Cj (s4 _ _ eR3) #[0] g0 g6 b.1 fun m' b' c' H' s'=>⟨_,_,_,ms++[m'],rfl,((s3.trans s4).trans s').own hR,ah,by simp[ml],fun u hu=>?_,fun k hk=>?_⟩
   . rcases Hc.mp hu with hu | hu
     . exact mm u hu
     . rw[GW.mp hu];exact b'
   . rcases yJ (xs:=ms) (v:=m') (k:=k) (by simp;omega) with ⟨k1,e1⟩ | ⟨k1,e1⟩
     . rw[e1];exact st k #[0]
     . rw[e1,k1,ml];exact c' _ sx.1 #[0] b.2
 . rintro σ H3 ⟨v4,v5,v6,ms,rfl,s3,eR3,ml,mm,st⟩;symm;exact q R H3 ms s3 hR eR3 ml mm st
def As(K:Frag)(c:RCl RK)(d:RCl PzK):Sp:=fun vs H Q _=>∃(a:Addr) (ns:∅),vs=[.ref a]/\SqL K H a (ns.map V.int)/\ns.length<=63/\(∀ k,k≠.Rule->c.ok k=true)/\d.ok .Puzzle=true/\H (tabP K "_law_cells")=some (.tbl #[])/\∀ H',Q (.bl true) H'
def sV(K:Frag):Sp:=fun vs H Q _=>∃(a:Addr) (ns:∅),vs=[.ref a]/\SqL K H a (ns.map V.int)/\ns.length<=63/\H (tabP K "_law_cells")=some (.tbl #[])/\∀ H',Q (.bl true) H'
def yM(K:Frag)(c:RCl RK)(d:RCl PzK):TS:=#[":mw,{Ycjta|aa|ba|eegmobscbk6bk|edf#2 bk|edf#3 idFAngl,{Zcjta|aa|eeh#15 mMKw,{*ca|feobQc|f,{+ca|ea|deidFAnn"]
def yN(K:Frag)(c:RCl RK)(d:RCl PzK):TS:=#[":glNabkvadqr`0adqr`1adqr`2adqr`3ebBbu71df#4 a|cabU74abudf#1 bB74aveeh#14 gmob<bB1df#7 df#3 lb{-cNadqr`3eZ{/c|eSdf#1 ~ch#14 n{:cjt",[99,111,117,110,116],[115,116,101,112],[115,117,109],[119,97,121,115]]
def yO(K:Frag)(c:RCl RK)(d:RCl PzK):TS:=#[":glbkbk8|cdf#2 h#13 gmobsc|dvel~Da5eh#13 nLXabJ54eh#7 {;cjt"]
def jz(K:Frag)(c:RCl RK)(d:RCl PzK):TS:=#[":gLXapCa8eeh#12 {?cjtidFT"]
def jA(K:Frag)(c:RCl RK)(d:RCl PzK):TS:=#[":gl,{[ca0a6a4eh#11 {]cjt"]
def jB(K:Frag)(c:RCl RK)(d:RCl PzK):TS:=#[":gl-{^}a}bcjt=/aNa2a3a4eay&-- xc8h#1 Dbk1df#0 a9eh#10 }ccjt"]
def kG(K:Frag)(c:RCl RK)(d:RCl PzK):TS:=#[":glveh#9 gLXa5eh#7 VHcGW9abkvadf#0 abk67adf#0 ebBbBbJbu,~mca0abudf#25 7ebJdf#5 7df#48271 df#50021 df#3 e}dcjt"]
def kH(K:Frag)(c:RCl RK)(d:RCl PzK):TS:=#[":glveh#8 gLXabudf#1 bBbU1df#36 df#3 eh#7 VHcGW8a,}eca6a4abBbJbu,~mca0abudf#1 7ebJdf#59 7df#69621 df#1000003 ee}fcjt"]
def nZ(K:Frag)(c:RCl RK)(d:RCl PzK):TS:=#[":glbudf#1 bBbU1df#6 df#6 h#4 glbJ23h#5 glveh#6 gLXa5eh#7 VHcGW6abudf#1 bBbBbJbu,~mca0abudf#16 7ebJbJdf#53 77df#16807 df#10007 4e}gcjt"]
def n4(K:Frag)(c:RCl RK)(d:RCl PzK):TS:=#[":glbkvaNadf#1 adf#2 eaNadf#2 adf#2 eaNadf#1 adf#5 eaNadf#2 adf#3 eaNadf#3 adf#3 eaNadf#4 adf#2 eebB1df#6 'bc#2 ~Ah#2 ~Ah#3 'c}hcjt"]
def vZ(K:Frag)(c:RCl RK)(d:RCl PzK):TS:=#[":glbBbJ,~mca0adf#0 edf#48271 df#65537 h#1 }icjt"]
structure Cx38(H:Hp)(c:RCl RK)(d:RCl PzK)(P L G A f:Addr)(h w g:Int)(Gy:List RR)(cl Gw fl:∅):Prop where
 P:IsPz H c d P L G h w g Gy cl
 A:H A=↥(Gw.map V.int)
 f:H f=↥(fl.map V.int)
 ml:Gw.length=(h*w).toNat
 fll:fl.length=(h*w).toNat
 mm:∀ m∈Gw,0<=m/\m<64
 at_:AtA (h*w) g Gw fl
 ok:∀ x∈Gy,fW h w g fl x
variable{d:RCl PzK}
def Cx38.same{c:RCl RK}{L G A f:Addr}{g:Int}{cl Gw:∅}(X:Cx38 H c d P L G A f h w g Gy cl Gw fl)(s:Same H H'):Cx38 H' c d P L G A f h w g Gy cl Gw fl:=⟨X.P.same s,s _ _ X.A,s _ _ X.f,X.ml,X.fll,X.mm,X.at_,X.ok⟩
section
variable{K:Frag}{c:RCl RK}{d:RCl PzK}{H:Hp}{D:Ends}{P L G A C f T M:Addr}{h w g y:Int}{Gy:List RR}{cl Gw fl:∅}
theorem xQ {t:TK} {r z s:Int} {y0:RR} {v0 v1 v2 v3 v4 v5 v7 v8 v9 v12 v15:Option V} (X:Cx38 H c d P L G A f h w g Gy cl Gw fl) (Th:IsTh H T M t r z s []) (ht:K39 t) (ey:Gy[r.toNat]? =some y0) (eC:H C=↥(y0.cs.map V.int)) (z0:0<=z) (z1:z<h*w)
  (kk:∀ v15 H',Same H H'->D.nx [v0,v1,v2,v3,v4,v5,↑f,v7,v8,v9,↑P,↑A,v12,↑C,↑T,v15] H'):
  yM K c d D [v0,v1,v2,v3,v4,v5,↑f,v7,v8,v9,↑P,↑A,v12,↑C,↑T,v15] H:=by
 unfold yM;rw[ax];symm;refine⟨P,L,G,A,T,M,h,w,g,Gy,cl,Gw,t,r,z,s,[],rfl,⟨X.P,Th,X.A,X.ml⟩,ht,X.mm,fun H1 s1=>?_⟩
 cases hb:j9 h w g Gy Gw t r z s [] with
 | false=>exact⟨false,rfl,iteF (kk _ _ s1)⟩
 | true=>
  refine⟨true,rfl,iteT ?_⟩;have X1:=X.same s1;have T1:=Th.same s1;have fll:=X.fll;have so:=Cg X.P.R.F X.ml X.at_ X.ok ht hb;obtain⟨r0,s0,s6,y',ey',hz⟩:=Ak ht hb;rw[ey] at ey';cases ey';have O:=X.P.R.ok y0 (GQ ey);have hin:=J9 O X.P.R.F;have hmm:=X.P.R.F.m;symm;rw[ax];symm;refine ixT T1.T (v:=V.int z) rfl ?_;refine ixI X1.f z0 #[0] ?_;symm;refine ixT T1.T (v:=V.int s) rfl ?_;symm;refine iU (GI so) ?_;symm;refine⟨P,L,G,T,M,h,w,g,Gy,cl,t,r,z,s,[],y0,rfl,X1.P,T1,ht,r0,ey,hz,fun R H3 xs s3 hR eR pm pw=>?_⟩;symm;rw[ax];symm;refine⟨R,xs,rfl,eR,fun H4 s4=>⟨true,rfl,?_⟩⟩;have s14:=(s1.trans s3).trans s4;symm;refine⟨T,M,C,t,r,z,s,[],y0,rfl,Th.same s14,ht,s14 _ _ eC,by have:=hin.1;omega,hz,fun R2 H5 ys s5 hR2 eR2 pm2 pw2=>?_⟩;have e:xs=ys:=List.Perm.eq_of_pairwise (fun _ _ _ _ h1 h2=>Int.le_antisymm h1 h2) pw pw2 (pm.trans pm2.symm);refine oQ ((s4.trans s5) _ _ eR) eR2 ?_;symm;refine iU (by rw[GL e];rfl) ?_;exact kk _ _ (s14.trans s5)
def kin38:List TK:=[.count,.step,.sum,.ways]
def Bo{j:Int}(j0:0<=j)(j1:j<4):∃ t:TK,K39 t/\atI (kin38.map fun t=>V.str (tx (tkC t))) j=some (V.str (tx (tkC t))):=by
 have e:j=0\/j=1\/j=2\/j=3:=by omega
 rcases e with rfl | rfl | rfl | rfl
 . exact⟨.count,.inl rfl,rfl⟩
 . exact⟨.step,.inr (.inr (.inl rfl)),rfl⟩
 . exact⟨.sum,.inr (.inl rfl),rfl⟩
 . exact⟨.ways,.inr (.inr (.inr rfl)),rfl⟩
def Ck {i r:Int} {y0:RR} {v0 v2 v3 v5 v8 v9 v14 v15:Option V} (X:Cx38 H c d P L G A f h w g Gy cl Gw fl) (ey:Gy[r.toNat]? =some y0) (eC:H C=↥(y0.cs.map V.int)) (i0:0<=i) (i1:i<h*w*g)
  (kk:∀ v14 v15 H',Same H H'->D.nx [v0,⇑y,v2,v3,⇑g,v5,↑f,⇑i,v8,v9,↑P,↑A,⇑r,↑C,v14,v15] H'):
  yN K c d D [v0,⇑y,v2,v3,⇑g,v5,↑f,⇑i,v8,v9,↑P,↑A,⇑r,↑C,v14,v15] H:=by
 have g0:=X.P.R.F.g0;have g6:=X.P.R.F.g1;unfold yN;generalize hW:yM K c d=W at*;symm;refine⟨lnR rfl,fun U hU=>?_⟩;have s1:Same H (upd H U (.lst (kin38.map fun t=>V.str (tx (tkC t))))):=(GJ H).laid hU;have eU:(upd H U (.lst (kin38.map fun t=>V.str (tx (tkC t))))) U=↥(kin38.map fun t=>V.str (tx (tkC t))):=ah;refine⟨by decide,?_⟩;show cIx (V.ref U) (V.int ((i+y)%4)) (upd H U (.lst (kin38.map fun t=>V.str (tx (tkC t))))) _;generalize upd H U (.lst (kin38.map fun t=>V.str (tx (tkC t))))=H1 at*;obtain⟨t,ht,et⟩:=Bo (j:=(i+y)%4) (HD _ #[1]) (Hq _ #[1]);refine ixL eU et ?_;symm;have z0:0<=i/g:=Int.ediv_nonneg i0 #[0];have z1:i/g<h*w:=Int.ediv_lt_of_lt_mul #[0] i1;generalize i/g=z at*;refine⟨⟨by omega,by omega⟩,by omega,?_⟩;generalize 1+i%g=s at*;refine⟨aV #[1],fun M hM=>?_⟩;obtain⟨H2,z9,s2,eM⟩:∃ z,upd H1 M (.lst [])=z/\Same H1 z/\z M=↥(([]:∅).map V.int):=bn _ hM;rw[z9];refine⟨lnR rfl,fun T hT=>?_⟩;obtain⟨H3,z9,s3,eT⟩:=bn (.tup [V.str (tx (tkC t)),V.int r,V.int z,V.int s,V.ref M]) hT;rw[z9];have s13:=(s1.trans s2).trans s3;symm;rw[ax];symm;refine⟨by decide,?_⟩;by_cases c3:y%7<3
 . refine nY (GL c3) ?_;symm;refine⟨lnR rfl,fun B hB=>?_⟩;have s4:Same H3 (upd H3 B (.tup [V.str (tx (tkC .ways))])):=(GJ H3).laid hB;have eB:(upd H3 B (.tup [V.str (tx (tkC .ways))])) B=some (.tup [V.str (tx (tkC .ways))]):=ah;show rSlT K (V.ref T) (some 1) none (upd H3 B (.tup [V.str (tx (tkC .ways))])) _;generalize upd H3 B (.tup [V.str (tx (tkC .ways))])=H4 at*;refine⟨T,_,rfl,Kc (s4 _ _ eT),(fun e=>absurd e.1 (by show ¬ (1:Nat)=0;decide)),fun E hE=>?_⟩;have ec:cutV [V.str (tx (tkC t)),V.int r,V.int z,V.int s,V.ref M] (some 1) none=[V.int r,V.int z,V.int s,V.ref M]:=rfl;rw[ec];obtain⟨H5,z9,s5,eE⟩:=bn (.tup [V.int r,V.int z,V.int s,V.ref M]) hE;rw[z9];refine⟨B,E,_,_,rfl,rfl,Kc (s5 _ _ eB),Kc eE,by simp,lnR rfl,fun e=>(by cases e),fun _ N hN=>?_⟩;have s6:Same H5 (upd H5 N (.tup [V.str (tx (tkC .ways)),V.int r,V.int z,V.int s,V.ref M])):=(GJ H5).laid hN;have eN:(upd H5 N (.tup [V.str (tx (tkC .ways)),V.int r,V.int z,V.int s,V.ref M])) N=some (.tup [V.str (tx (tkC .ways)),V.int r,V.int z,V.int s,V.ref M]):=ah;show W D _ (upd H5 N (.tup [V.str (tx (tkC .ways)),V.int r,V.int z,V.int s,V.ref M]));generalize upd H5 N (.tup [V.str (tx (tkC .ways)),V.int r,V.int z,V.int s,V.ref M])=H6 at*;have s16:=((s13.trans s4).trans s5).trans s6;subst hW;exact xQ (X.same s16) ⟨eN,(((s3.trans s4).trans s5).trans s6) _ _ eM,by simp⟩ (.inr (.inr (.inr rfl))) ey (s16 _ _ eC) z0 z1 fun v15 H' s'=>kk _ v15 H' (s16.trans s')
 . refine iU (GI c3) ?_;subst hW;exact xQ (X.same s13) ⟨eT,s3 _ _ eM,by simp⟩ ht ey (s13 _ _ eC) z0 z1 fun v15 H' s'=>kk _ v15 H' (s13.trans s')
structure Rs38(H:Hp)(R:Addr)(ts:List Addr)(Gy:List RR)(h w:Int):Prop where
 top:H R=↥(ts.map V.ref)
 len:ts.length=Gy.length
 at_:∀(i:Nat) (t:Addr) (r:RR),ts[i]? =some t->Gy[i]? =some r->∃ C,C≠R/\Rl38 H t C r h w
def Rs38.same{H H':Hp}{R:Addr}{ts:List Addr}{Gy:List RR}{h w:Int}(x:Rs38 H R ts Gy h w)(s:Same H H'):Rs38 H' R ts Gy h w:=⟨s _ _ x.top,x.len,fun i t r a b=>(x.at_ i t r a b).elim fun C z=>⟨C,z.1,z.2.same s⟩⟩
def Cl {i:Nat} {R:Addr} {ts:List Addr} {v0 v2 v3 v7 v9 v13 v14 v15:Option V} (X:Cx38 H c d P L G A f h w g Gy cl Gw fl) (Y:Rs38 H R ts Gy h w) (hi:i<Gy.length)
  (kk:∀ v7 v13 v14 v15 H',Same H H'->D.nx [v0,⇑y,v2,v3,⇑g,⇑(h*w),↑f,v7,↑R,v9,↑P,↑A,⇑(i:Int),v13,v14,v15] H'):
  yO K c d D [v0,⇑y,v2,v3,⇑g,⇑(h*w),↑f,v7,↑R,v9,↑P,↑A,⇑(i:Int),v13,v14,v15] H:=by
 have g0:=X.P.R.F.g0;have g6:=X.P.R.F.g1;have hmm:=X.P.R.F.m;have mp:0<=h*w:=IG (by have:=X.P.R.F.h0;omega) (by have:=X.P.R.F.w0;omega);have hl:=Y.len;have et:ts[i]? =some ts[i]:=GH #[0];have er:Gy[i]? =some Gy[i]:=GH hi;obtain⟨C,_,Z⟩:=Y.at_ i _ _ et er;generalize Gy[i]=y0 at*;generalize ts[i]=t at*;obtain⟨x,ex⟩:=Z.top;unfold yO;generalize hU:yN K c d=U at*;symm;refine ixL Y.top (v:=V.ref t) (fk (by rw[GK,et];rfl)) ?_;refine ixT ex (v:=V.ref C) rfl ?_;symm;rw[ax];symm;refine⟨aV #[1],fun B hB=>?_⟩;obtain⟨H1,z9,s1,eB⟩:∃ z,upd H B (.lst [])=z/\Same H z/\z B=↥(([]:∅).map V.int):=bn _ hB;rw[z9]
 have lp:∀(C:Addr) (H2:Hp) (v13:Option V),Same H H2->H2 C=↥(y0.cs.map V.int)->(v13=↑C)->tFor (dU (tCons (tOp cMul (tVar 5) (tVar 4)) tNil)) (gName 7) U D [v0,⇑y,v2,v3,⇑g,⇑(h*w),↑f,v7,↑R,v9,↑P,↑A,⇑(i:Int),v13,v14,v15] H2:=by
  rintro C H2 v13 s2 eC rfl;symm;refine⟨.inr ⟨by omega,by omega⟩,?_⟩;have b:h*w*g<=16*6:=Int.mul_le_mul #[0] g6 #[0] #[0];refine⟨_,rfl,by have:=IG mp (show 0<=g by omega);omega,by omega,?_⟩;refine d3 (fun j σ H'=>∃(v7 v14 v15:Option V),σ=[v0,⇑y,v2,v3,⇑g,⇑(h*w),↑f,v7,↑R,v9,↑P,↑A,⇑(i:Int),↑C,v14,v15]/\Same H2 H') ⟨_,_,_,rfl,GJ _⟩ ?_ ?_
  . rintro j σ H3 hj ⟨v7,v14,v15,rfl,s3⟩;rw[aL];subst hU;refine Ck (X.same (s2.trans s3)) (by rw[HI];exact er) (s3 _ _ eC) #[0] #[0] fun v14 v15 H' s'=>⟨_,_,_,rfl,s3.trans s'⟩
  . rintro σ H3 ⟨v7,v14,v15,rfl,s3⟩;exact kk _ _ _ _ _ (s2.trans s3)
 rcases Z.C with ⟨eC,ne⟩ | ⟨eC,ec⟩
 . refine qC (s1 _ _ eC) eB ?_;symm;refine iU (GI ne) ?_;exact lp C H1 _ s1 (s1 _ _ eC) rfl
 . refine qC (xs:=[]) (s1 _ _ eC) eB ?_;symm;refine⟨_,rfl,by omega,by omega,fun C2 hC2=>?_⟩;have s2:Same H1 (upd H1 C2 (.lst ((rngL 0 (h*w)).map V.int))):=(GJ H1).laid hC2;have e2:(upd H1 C2 (.lst ((rngL 0 (h*w)).map V.int))) C2=↥(y0.cs.map V.int):=by rw[ah,ec]
   generalize upd H1 C2 (.lst ((rngL 0 (h*w)).map V.int))=H2 at*;exact lp C2 H2 _ (s1.trans s2) e2 rfl
end
def TbOk.neT{l:Nat}{b:Addr}(x:TbOk l c q H P)(e:H b=some (.tup xs)):b≠P:=fun z=>by
 rcases x with e' | ⟨_,e',_⟩ <;> (rw[z,e'] at e;cases e)
variable{o:HO}
def TbOk.own38{l:Nat}{R:Addr}(x:TbOk l c q H P)(e:H R=↥xs):TbOk l c q (upd H R o) P:=by
 rcases x with e' | ⟨a,e',ea⟩
 . exact .inl (by rw[aj (fun z=>by rw[z,e] at e';cases e')];exact e')
 . exact .inr ⟨a,by rw[aj (fun z=>by rw[z,e] at e';cases e')];exact e',by rw[aj (fun z=>by rw[z,e] at ea;cases ea)];exact ea⟩
def DR{l:Nat}(h:SqL K H a xs)(T:TbOk l c q H P)(s:SameX P H H'):SqL K H' a xs:=by
 rcases h with h | h
 . refine .inl ?_
   have nP:∀{u:HO},H a=some u->(∀ ps,u≠.tbl ps)->a≠P:=fun e n z=>by
    rcases T with e' | ⟨_,e',_⟩ <;> (rw[z,e'] at e;cases e;exact n _ rfl)
   rcases h with e | ⟨o,e⟩
   . exact .inl (s _ _ (nP e fun ps z=>by cases z) e)
   . exact .inr ⟨o,s _ _ (nP e fun ps z=>by cases z) e⟩
 . exact .inr h
def Bp{H4:Hp}{R:Addr}(hS:SqL K H a xs)(hR:H R=none)(h4:SqL K H4 a xs):SqL K (upd H4 R o) a xs:=by
 rcases hS with h | h
 . have na:a≠R:=fun z=>by rcases h with e | ⟨_,e⟩ <;> (rw[z,hR] at e;cases e)
   rcases h4 with e | e
   . refine .inl ?_;rcases e with e | ⟨u,e⟩
     . exact .inl (by rw[aj na];exact e)
     . exact .inr ⟨u,by rw[aj na];exact e⟩
   . exact .inr e
 . exact .inr h
def Rl38.sx{l:Nat}{T C:Addr}(x:Rl38 H T C r h w)(t:TbOk l c q H P)(s:SameX P H H'):Rl38 H' T C r h w:=
 ⟨x.top.elim fun v e=>⟨v,s _ _ (t.neT e) e⟩,x.C.elim (fun c=>.inl ⟨s _ _ (t.ne c.1) c.1,c.2⟩) (fun c=>.inr ⟨s _ _ (t.ne c.1) c.1,c.2⟩)⟩
def Rl38.put{T C R:Addr}(x:Rl38 H T C r h w)(e:H R=↥xs)(n:C≠R):Rl38 (upd H R o) T C r h w:=
 ⟨x.top.elim fun v e'=>⟨v,by rw[aj (fun z=>by rw[z,e] at e';cases e')];exact e'⟩,x.C.elim (fun c=>.inl ⟨by rw[aj n];exact c.1,c.2⟩) (fun c=>.inr ⟨by rw[aj n];exact c.1,c.2⟩)⟩
structure yP(h w g:Int)(fl:∅):Prop where
 F:FlOk h w g
 m1:1<=h*w
 m9:h*w<=9
 fll:fl.length=(h*w).toNat
 sg:∀ x∈fl,1<=x/\x<=g
section
variable{K:Frag}{c:RCl RK}{d:RCl PzK}{H:Hp}{Q:VK}{P L G C R A f a:Addr}{h w g y:Int}{Gy:List RR}{ts:List Addr}{fl ms cl ns:∅}
def yQ{v0 v2 v3 v7 v9:Option V}(X:Cx38 H c d P L G A f h w g Gy cl ms fl)(Y:Rs38 H R ts Gy h w)(q:∀ H',Q (.bl true) H'):
  jz K c d (eD9 Q) [v0,⇑y,v2,v3,⇑g,⇑(h*w),↑f,v7,↑R,v9,↑P,↑A,none,none,none,none] H:=by
 have rl:=X.P.R.n;have tl:=Y.len;unfold jz;generalize hU:yO K c d=U at*;symm;rw[cj Y.top,GG];refine⟨_,rfl,by omega,by omega,?_⟩;rw[HI];refine d3 (fun i σ H'=>∃(v7 v12 v13 v14 v15:Option V),σ=[v0,⇑y,v2,v3,⇑g,⇑(h*w),↑f,v7,↑R,v9,↑P,↑A,v12,v13,v14,v15]/\Same H H') ⟨_,_,_,_,_,rfl,GJ _⟩ ?_ ?_
 . rintro i σ H3 hi ⟨v7,v12,v13,v14,v15,rfl,s3⟩;rw[Iq,aL];subst hU;exact Cl (X.same s3) (Y.same s3) #[0] fun v7 v13 v14 v15 H' s'=>⟨_,_,_,_,_,rfl,s3.trans s'⟩
 . rintro σ H3 ⟨v7,v12,v13,v14,v15,rfl,s3⟩;symm;exact q _
def yR{v2 v3 v7 v9:Option V}(hS:SqL K H a (ns.map V.int))(hn:ns.length<=63)(D:yP h w g fl)(pz:IsPz H c d P L G h w g Gy cl)(ok:∀ r∈Gy,fW h w g fl r)(ef:H f=↥(fl.map V.int))(Y:Rs38 H R ts Gy h w)(q:∀ H',Q (.bl true) H'):
  jA K c d (eD9 Q) [↑a,⇑y,v2,v3,⇑g,⇑(h*w),↑f,v7,↑R,v9,↑P,none,none,none,none,none] H:=by
 have fll:=D.fll;have m9:=D.m9;have m1:=D.m1;unfold jA;generalize hW:jz K c d=W at*;symm;refine⟨a,f,ns,g,fl,rfl,hS,hn,ef,by omega,D.F.g0,D.F.g1,D.sg,fun A H1 ms s1 hA eA ml mm st=>?_⟩;subst hW;refine yQ ⟨pz.same s1,eA,s1 _ _ ef,by omega,fll,mm,fun c c0 c1=>?_,ok⟩ (Y.same s1) q;exact⟨mm _ (fS #[0]),D.sg _ (fS #[0]),st _ #[0]⟩
def yS{v7:Option V}(hS:SqL K H a (ns.map V.int))(hn:ns.length<=63)(D:yP h w g fl)(hk:∀ k,k≠.Rule->c.ok k=true)(okd:d.ok .Puzzle=true)(ok:∀ r∈Gy,fW h w g fl r)(rl:Gy.length<=12)(ef:H f=↥(fl.map V.int))(eC:H C=↥(cl.map V.int))(cc:CluesOk h w g cl)(Y:Rs38 H R ts Gy h w)(q:∀ H',Q (.bl true) H'):
  jB K c d (eD9 Q) [↑a,⇑y,⇑h,⇑w,⇑g,⇑(h*w),↑f,v7,↑R,↑C,none,none,none,none,none,none] H:=by
 have Ro:nK c h w g Gy:=⟨D.F,rl,fun r hr=>(ok r hr).1,fun r hr=>hk _ (ok r hr).1.k0⟩;have tl:=Y.len;unfold jB;generalize hW:jA K c d=W at*;symm;refine⟨lnR rfl,fun p hp=>?_⟩;have s4:Same H (upd H p (.tup [V.int h,V.int w,V.int g])):=(GJ H).laid hp;have ep:IsFl (upd H p (.tup [V.int h,V.int w,V.int g])) p h w g:=ah;generalize upd H p (.tup [V.int h,V.int w,V.int g])=H4 at*;have Y4:=Y.same s4;refine⟨⟨_,G6 Y4.top⟩,?_⟩;refine ck (fun _=>true) (fun i=>V.str ((Gy.map RR.txt).getD i (tx []))) (by rw[GG];omega) (G6 Y4.top) ?_ ?_ ?_
 . intro i z H5 R5 hz s5 k5;exact k5 _ (GJ _)
 . intro i z H5 Q5 hz hb5 s5 k5;rw[GK] at hz;obtain⟨t,et,rfl⟩:=IT.mp hz;have hi:=(GN.mp et).1;have er:Gy[i]? =some Gy[i]:=GH #[0];obtain⟨C',_,Z⟩:=Y4.at_ i _ _ et er;obtain⟨x,ex⟩:=Z.top;show tOp _ _ _ [none,↑t] H5 Q5;symm;refine ixT (s5 _ _ ex) (v:=V.str (Gy[i]).txt) rfl ?_;have:=k5 _ (GJ _);rw[List.getD,GK,er] at this;exact this
 . intro E H5 hE s5 eE;rw[a8] at eE
   have ee:((List.range (ts.map V.ref).length).map fun i=>V.str ((Gy.map RR.txt).getD i (tx [])))=(Gy.map RR.txt).map V.str:=by
    refine Id fun i=>?_;rw[GK,GK];by_cases hi:i<Gy.length
    . rw[HM (by rw[GG];omega)];show some (V.str ((Gy.map RR.txt).getD i (tx [])))=_;rw[List.getD,GH (show i < (Gy.map RR.txt).length by rw[GG];omega)];rfl
    . rw[G4 (by rw[HX,GG];omega),G4 (by rw[GG];omega)];rfl
   rw[ee] at eE;symm;have s45:=s4.trans s5;refine Db okd (s5 _ _ ep) eE (s45 _ _ eC) Ro cc fun P L G H6 s6 hP hL hG pz=>?_;symm;have s46:=s45.trans s6;subst hW;exact yR (s46.seq hS) hn D pz ok (s46 _ _ ef) (Y.same s46) q
def At{v7:Option V}(hS:SqL K H a (ns.map V.int))(hn:ns.length<=63)(D:yP h w g fl)(hk:∀ k,k≠.Rule->c.ok k=true)(okd:d.ok .Puzzle=true)(ok:∀ r∈Gy,fW h w g fl r)(rl:Gy.length<=12)(ef:H f=↥(fl.map V.int))(Y:Rs38 H R ts Gy h w)(q:∀ H',Q (.bl true) H'):
  kG K c d (eD9 Q) [↑a,⇑y,⇑h,⇑w,⇑g,⇑(h*w),↑f,v7,↑R,none,none,none,none,none,none,none] H:=by
 have g0:=D.F.g0;have m9:=D.m9;have m1:=D.m1;have fll:=D.fll;unfold kG;generalize hW:jB K c d=W at*;symm;refine⟨aV #[1],fun C hC=>?_⟩;obtain⟨H1,z9,s1,eC⟩:∃ z,upd H C (.lst [])=z/\Same H z/\z C=↥(([]:∅).map V.int):=bn _ hC;rw[z9];refine⟨_,rfl,by omega,by omega,?_⟩;refine d3 (fun i σ H'=>∃(v7:Option V) (cl:∅),σ=[↑a,⇑y,⇑h,⇑w,⇑g,⇑(h*w),↑f,v7,↑R,↑C,none,none,none,none,none,none]/\Same H H'/\H' C=↥(cl.map V.int)/\cl.length=i/\∀ x∈cl,0<=x/\x<=g) ⟨_,[],rfl,s1,eC,rfl,fun x hx=>(by cases hx)⟩ ?_ ?_
 . rintro i σ H3 hi ⟨v7,cl,rfl,s3,e3,ln,cx⟩;have hil:i < (h*w).toNat:=hi;rw[Iq];symm;refine⟨bD e3,?_⟩;refine ixI (s3 _ _ ef) #[0] #[0] ?_;rw[HI];have xb:=D.sg _ (fS (l:=fl) (k:=i) #[0]);generalize fl.getD i 0=x at*;refine⟨lnR rfl,fun U4 hU4=>?_⟩;obtain⟨H9,z9,s9,eU4⟩:∃ z,upd H3 U4 (.lst [V.int 0,V.int x,V.int 0])=z/\Same H3 z/\z U4=↥(([0,x,0]:∅).map V.int):=bn _ hU4;rw[z9];refine⟨a,ns,_,rfl,(s3.trans s9).seq hS,hn,by omega,by omega,?_⟩;symm;refine⟨.inl ⟨by decide,by decide⟩,.inr ⟨by decide,by decide⟩,by decide,by decide,?_⟩;generalize (sQ ns (25+(i:Int))+5*(i:Int))*48271%50021=z at*;refine ixI eU4 (HD _ #[1]) (by have:=Hq z (show(0:Int)<3 by decide);show _ < (3:Int);omega) ?_
   have cb:0<=([0,x,0]:∅).getD (z%3).toNat 0/\([0,x,0]:∅).getD (z%3).toNat 0<=g:=by
    have e:(z%3).toNat=0\/(z%3).toNat=1\/(z%3).toNat=2:=by omega
    rcases e with e | e | e <;> rw[e]
    . exact⟨by show(0:Int)<=0;decide,by show(0:Int)<=g;omega⟩
    . exact⟨by show(0:Int)<=x;omega,by show x<=g;omega⟩
    . exact⟨by show(0:Int)<=0;decide,by show(0:Int)<=g;omega⟩
   generalize ([0,x,0]:∅).getD (z%3).toNat 0=cv at*;rw[d9 (s9 _ _ e3)];refine⟨by rw[GG];exact ay #[0],_,cl++[cv],rfl,(s3.trans s9).own hC,by rw[ah];simp,by simp[ln],fun u hu=>?_⟩;rcases Hc.mp hu with hu | hu
   . exact cx u hu
   . rw[GW.mp hu];exact cb
 . rintro σ H3 ⟨v7,cl,rfl,s3,e3,ln,cx⟩;subst hW;exact yS (s3.seq hS) hn D hk okd ok rl (s3 _ _ ef) e3 ⟨ln,cx⟩ (Y.same s3) q
def Au{v7:Option V}(hS:SqL K H a (ns.map V.int))(hn:ns.length<=63)(D:yP h w g fl)(hk:∀ k,k≠.Rule->c.ok k=true)(okd:d.ok .Puzzle=true)(T:ly K H)(ef:H f=↥(fl.map V.int))(q:∀ H',Q (.bl true) H'):
  kH K c d (eD9 Q) [↑a,⇑y,⇑h,⇑w,⇑g,⇑(h*w),↑f,v7,none,none,none,none,none,none,none,none] H:=by
 have n0:=HD (y/36) (show(3:Int)≠0 by decide);have n1:=Hq (y/36) (show(0:Int)<3 by decide);unfold kH;generalize hW:kG K c d=W at*;symm;refine⟨aV #[1],fun R hR=>?_⟩;have s1:Same H (upd H R (.lst [])):=(GJ H).laid hR;have eR:(upd H R (.lst [])) R=↥(([]:List Addr).map V.ref):=ah;have nf:f≠R:=fun e=>by rw[e,hR] at ef;cases ef
 generalize upd H R (.lst [])=H1 at*;refine⟨⟨by decide,by decide⟩,by decide,?_⟩;generalize y/36%3=n at*;refine⟨1+n,rfl,by omega,by omega,?_⟩;refine d3 (fun i σ H'=>∃(v7:Option V) (ts:List Addr) (Gy:List RR),σ=[↑a,⇑y,⇑h,⇑w,⇑g,⇑(h*w),↑f,v7,↑R,none,none,none,none,none,none,none]/\SqL K H' a (ns.map V.int)/\ly K H'/\H' f=↥(fl.map V.int)/\Rs38 H' R ts Gy h w/\Gy.length=i/\∀ r∈Gy,fW h w g fl r) ⟨_,[],[],rfl,s1.seq hS,T.same s1,s1 _ _ ef,⟨eR,rfl,fun i t r a b=>(by cases a)⟩,rfl,fun _ hr=>(by cases hr)⟩ ?_ ?_
 . rintro i σ H3 hi ⟨v7',ts,Gy,rfl,hS3,T3,ef3,Y3,rl,rok⟩;rw[Iq];symm;refine⟨bD Y3.top,a,ns,_,rfl,hS3,hn,by omega,by omega,?_⟩;symm;refine⟨.inl ⟨by decide,by decide⟩,.inr ⟨by decide,by decide⟩,by decide,?_⟩;refine⟨f,h,w,g,_,fl,rfl,⟨D.F,ef3,D.fll,D.sg,D.m1⟩,T3,fun T' C' r H4 sx T4 fr Z O=>?_⟩;have e4:=sx _ _ (T3.ne Y3.top) Y3.top;have nC:C'≠R:=fun z=>by rw[z,Y3.top] at fr;cases fr
   dsimp only;rw[d9 e4];have tl:=Y3.len;refine⟨by rw[GG];exact ay #[0],_,ts++[T'],Gy++[r],rfl,Bp hS hR (DR hS3 T3 sx),T4.own38 e4,by rw[aj nf];exact sx _ _ (T3.ne ef3) ef3,⟨by rw[ah,HY];rfl,by simp[tl],fun j t r' ht hr=>?_⟩,by simp[rl],fun z hz=>?_⟩
   . by_cases hj:j<ts.length
     . rw[Ho hj] at ht;rw[Ho #[0]] at hr;obtain⟨C2,n2,Z2⟩:=Y3.at_ j t r' ht hr;exact⟨C2,n2,(Z2.sx T3 sx).put e4 n2⟩
     . have hj2:j=ts.length:=by
        have:=(GN.mp ht).1;simp at this;omega
       subst hj2;rw[Hu (GP _),Nat.sub_self] at ht;rw[Hu #[0],show ts.length-Gy.length=0 by omega] at hr;cases ht;cases hr;exact⟨C',nC,Z.put e4 nC⟩
   . rcases Hc.mp hz with hz | hz
     . exact rok z hz
     . rw[GW.mp hz];exact O
 . rintro σ H3 ⟨v7',ts,Gy,rfl,hS3,T3,ef3,Y3,rl,rok⟩;subst hW;exact At hS3 hn D hk okd rok #[0] ef3 Y3 q
def Av(hS:SqL K H a (ns.map V.int))(hn:ns.length<=63)(h0:1<=h)(h6:h<=6)(w0:1<=w)(w6:w<=6)(m1:1<=h*w)(m9:h*w<=9)(hk:∀ k,k≠.Rule->c.ok k=true)(okd:d.ok .Puzzle=true)(T:ly K H)(q:∀ H',Q (.bl true) H'):
  nZ K c d (eD9 Q) [↑a,⇑y,⇑h,⇑w,none,none,none,none,none,none,none,none,none,none,none,none] H:=by
 unfold nZ;generalize hW:kH K c d=W at*;symm;refine⟨⟨by decide,by decide⟩,by decide,?_⟩;have g0:=HD (y/6) (show(6:Int)≠0 by decide);have g1:=Hq (y/6) (show(0:Int)<6 by decide);have g2:1<=1+y/6%6:=by omega
 have g3:1+y/6%6<=6:=by omega
 generalize 1+y/6%6=g at*;refine⟨nD h0 h6,?_⟩;refine⟨aV #[1],fun f hf=>?_⟩;obtain⟨H1,z9,s1,ef⟩:∃ z,upd H f (.lst [])=z/\Same H z/\z f=↥(([]:∅).map V.int):=bn _ hf;rw[z9];have F:FlOk h w g:=⟨h0,h6,w0,w6,by omega,by omega,by omega⟩;refine⟨_,rfl,by omega,by omega,?_⟩;refine d3 (fun i σ H'=>∃(v7:Option V) (fl:∅),σ=[↑a,⇑y,⇑h,⇑w,⇑g,⇑(h*w),↑f,v7,none,none,none,none,none,none,none,none]/\Same H H'/\H' f=↥(fl.map V.int)/\fl.length=i/\∀ x∈fl,1<=x/\x<=g) ⟨_,[],rfl,s1,ef,rfl,fun x hx=>(by cases hx)⟩ ?_ ?_
 . rintro i σ H3 hi ⟨v7,fl,rfl,s3,e3,ln,fx⟩;have hil:i < (h*w).toNat:=hi;rw[Iq];symm;refine⟨bD e3,a,ns,_,rfl,s3.seq hS,hn,by omega,by omega,?_⟩;symm;refine⟨.inl ⟨by decide,by decide⟩,.inl ⟨by omega,by omega⟩,.inr ⟨by decide,by decide⟩,by decide,by omega,?_⟩;generalize (sQ ns (16+(i:Int))+53*(i:Int)*(i:Int))*16807%10007=z at*;have r0:=HD z (show g≠0 by omega);have r1:=Hq z (show 0<g by omega);rw[d9 e3];refine⟨by rw[GG];exact ay #[0],_,fl++[1+z%g],rfl,s3.own hf,by rw[ah];simp,by simp[ln],fun u hu=>?_⟩;rcases Hc.mp hu with hu | hu
   . exact fx u hu
   . rw[GW.mp hu];omega
 . rintro σ H3 ⟨v7,fl,rfl,s3,e3,ln,fx⟩;subst hW;exact Au (s3.seq hS) hn ⟨F,m1,m9,ln,fx⟩ hk okd (T.same s3) e3 q
end
def fl38:List (Int × Int):=[(1,2),(2,2),(1,5),(2,3),(3,3),(4,2)]
def Cm:∀ p∈fl38,1<=p.1/\p.1<=6/\1<=p.2/\p.2<=6/\1<=p.1*p.2/\p.1*p.2<=9:=by decide
def Aw{c:RCl RK}{ns:∅}{n:Int}(hS:SqL K H a (ns.map V.int))(hn:ns.length<=63)(hk:∀ k,k≠.Rule->c.ok k=true)(okd:d.ok .Puzzle=true)(T:ly K H)(k:∀ H',Q (.bl true) H'):
  n4 K c d (eD9 Q) [↑a,⇑n,none,none,none,none,none,none,none,none,none,none,none,none,none,none] H:=by
 unfold n4;rw[aB,bM,dN,cI];refine vU fl38 H _ fun as H1 s1 hl ha=>?_;have hl6:as.length=6:=hl;refine⟨by rw[GG];exact aV #[0],fun U hU=>?_⟩;obtain⟨H2,z9,s2,eU⟩:=bn (.lst (as.map V.ref)) hU;rw[z9];symm;refine⟨by decide,?_⟩;have j0:=HD n (show(6:Int)≠0 by decide);have j1:=Hq n (show(0:Int)<6 by decide);have ej:n%6=(((n%6).toNat:Nat):Int):=by omega
 have hj:(n%6).toNat<fl38.length:=by show _<6;omega
 rw[ej];generalize (n%6).toNat=j at*;have ea:as[j]? =some (as[j]'#[0]):=GH #[0];have ep:fl38[j]? =some fl38[j]:=GH hj;have et:=ha j _ _ ea ep;have ok2:=Cm _ (Hf hj);generalize fl38[j]=pr at*;refine ixL eU (v:=V.ref (as[j]'#[0])) (fk (by rw[GK,ea];rfl)) ?_;refine CY (s2 _ _ et) rfl ?_;rw[AV];symm;have s12:=s1.trans s2;exact Av (s12.seq hS) hn ok2.1 ok2.2.1 ok2.2.2.1 ok2.2.2.2.1 ok2.2.2.2.2.1 ok2.2.2.2.2.2 hk okd (T.same s12) k
def Dt{c:RCl RK}(h:As K c d vs H Q E):vZ K c d (eD9 Q) (start ["_law_script","_law_cell","_law_high","_law_wide","_law_signs","_law_many","_law_filling","_law_k","_law_rules","_law_clues","_law_puzzle","_law_masks_here","_law_number","_law_cells_here","_law_thought","_law_found"] vs) H:=by
 obtain⟨a,ns,rfl,hS,hn,hk,ok,T,k⟩:=h;ac_nf;unfold vZ;symm;refine⟨a,ns,0,rfl,hS,hn,by decide,by decide,?_⟩;symm;refine⟨.inr ⟨by decide,by decide⟩,by decide,?_⟩;generalize sQ ns 0*48271%65537=n at*;exact Aw hS hn hk ok (.inl T) k
section
variable{X:Cx}{e:Expr}{es rs:List Expr}{te:TE}{t:TA}
def iB{k}{p:Pos}(ha:PE X (.Tuple rs k p) te)(hr:PA X es t):PA X (.Tuple rs k p::es) (tCons te t):=aa ha hr
def cD{c:Const}{k}{p:Pos}(ha:PE X (.Constant c k p) te)(hr:PA X es t):PA X (.Constant c k p::es) (tCons te t):=aa ha hr
end
local macro_rules | `(tactic| walk_at "l")=>`(tactic| (intro vs H Q E h; (repeat obtain ⟨_,h⟩:=h); subst_vars; rfl))
local macro_rules | `(tactic| ac_rfl)=>`(tactic| exact ⟨rfl,rfl,rfl,by decide+kernel,rfl,by decide+kernel,by decide+kernel⟩)
def top(i:Nat):Stmt:=PySem.Challenge.pw_cluemaker_k38_whole_no_answer_is_struck.main.body.getD i (.Pass ⟨0,0,0,0⟩)
def mtop(i j:Nat):Stmt:=match top i with
 | .ClassDef _ _ _ body _ _ _ _ _ _ _=>body.getD j (.Pass ⟨0,0,0,0⟩)
 | s=>s
abbrev fX(Z:Z5):Prop:=Ca9 Z 1 "is_whole" ["value"] (dP Z.K)
abbrev d0(Z:Z5):Prop:=Ca9 Z 1 "many_cells" ["floor"] (cC Z.K)
abbrev n5(Z:Z5):Prop:=Ca9 Z 1 "spot_of" ["floor","cell"] (jw Z.K)
abbrev pB(Z:Z5):Prop:=Ca9 Z 1 "square_at" ["floor","corner"] (jO Z.K)
abbrev wa(Z:Z5):Prop:=Ca9 Z 1 "bit_of" ["sign"] (nO Z.K)
abbrev mT(Z:Z5):Prop:=Ca9 Z 1 "stands" ["mask","sign"] (iR Z.K)
abbrev n6(Z:Z5):Prop:=Ca9 Z 1 "clashes" ["masks"] (jy Z.K)
abbrev jC(Z:Z5):Prop:=Ca9 Z 1 "masks_at" ["masks","cells"] (gc Z.K)
abbrev lz(Z:Z5):Prop:=Ca9 Z 1 "with_sign" ["filling","cell","sign"] (gX Z.K)
abbrev pC(Z:Z5):Prop:=Ca9 Z 1 "is_within" ["some","cells"] (j4 Z.K)
abbrev pD(Z:Z5):Prop:=Ca9 Z 1 "number_in" ["word"] (jT Z.K)
abbrev iC(Z:Z5):Prop:=Ca9 Z 1 "_law_cell_at" ["_law_script","_law_k"] (cY Z.K)
abbrev oa(Z:Z5):Prop:=Ca9 Z 1 "_law_order" ["_law_number","_law_many"] (g7 Z.K)
abbrev rp(Z:Z5):Prop:=Ca9 Z 1 "_law_bit" ["_law_sign"] (fh Z.K)
abbrev oe(Z:Z5):Prop:=Ca9 Z 1 "_law_cells" ["_law_filling","_law_word","_law_order_here"] (hV Z.K)
abbrev og(Z:Z5):Prop:=Ca9 Z 1 "_law_rests" ["_law_thought","_law_cells_here"] (g9 Z.K)
abbrev jl(Z:Z5):Prop:=Ca9 Z 1 "_law_whole_list" ["_law_found"] (e6 Z.K)
abbrev gx(Z:Z5):Prop:=Ca9 Z 2 "is_from_one_to" ["value","most"] (bL Z.K)
abbrev qh(Z:Z5):Prop:=Ca9 Z 2 "beside" ["floor","cell"] (kn Z.K)
abbrev pE(Z:Z5):Prop:=Ca9 Z 2 "is_corner" ["floor","cell"] (jM Z.K)
abbrev tT(Z:Z5):Prop:=Ca9 Z 2 "without" ["mask","sign"] (my Z.K)
abbrev fY(Z:Z5):Prop:=Ca9 Z 2 "signs_in" ["mask"] (cK Z.K)
abbrev tU(Z:Z5):Prop:=Ca9 Z 2 "is_cell" ["floor","value"] (mD Z.K)
abbrev tV(Z:Z5)(c:RCl RK):Prop:=Ca9 Z 2 "goes_by" ["kind","rule"] (mH Z.K c)
abbrev iD(Z:Z5)(c:RCl RK):Prop:=Ca9 Z 2 "others" ["rule","cell"] (fL Z.K c)
abbrev rq(Z:Z5):Prop:=Ca9 Z 2 "many_may" ["some","sign"] (lq Z.K)
abbrev mU(Z:Z5)(c:RCl RK):Prop:=Ca9 Z 2 "ahead_of" ["rule","cell"] (iJ Z.K c)
abbrev qi(Z:Z5)(c:RCl RK):Prop:=Ca9 Z 2 "behind" ["rule","cell"] (kB Z.K c)
abbrev ke(Z:Z5):Prop:=Ca9 Z 2 "with_each_sign" ["fillings","cell","signs"] (ga Z.K)
abbrev ib(Z:Z5):Prop:=Ca9 Z 2 "number_within" ["word","least","most"] (eJ Z.K)
abbrev oh(Z:Z5):Prop:=Ca9 Z 2 "is_filling" ["floor","filling","least"] (i9 Z.K)
abbrev rz(Z:Z5):Prop:=Ca9 Z 2 "_law_row" ["_law_filling","_law_signs","_law_cell"] (ji Z.K)
abbrev oi(Z:Z5):Prop:=Ca9 Z 2 "_law_masks" ["_law_script","_law_filling","_law_signs"] (h9 Z.K)
abbrev rA(Z:Z5):Prop:=Ca9 Z 3 "floor_of" ["high","wide","signs"] (ld Z.K)
abbrev tW(Z:Z5):Prop:=Ca9 Z 3 "squares" ["floor"] (mr Z.K)
abbrev tX(Z:Z5):Prop:=Ca9 Z 3 "reached" ["floor","cells","start"] (mL Z.K)
abbrev rB(Z:Z5):Prop:=Ca9 Z 3 "has_only" ["mask","sign"] (lg Z.K)
abbrev Ax(Z:Z5):Prop:=Ca9 Z 3 "ways" ["masks"] (sL Z.K)
abbrev tY(Z:Z5):Prop:=Ca9 Z 3 "is_sign" ["floor","value"] (mF Z.K)
abbrev lO(Z:Z5)(c:RCl RK)(d:RCl PzK):Prop:=Ca9 Z 3 "has_its_rule" ["puzzle","kind","number","cell"] (gO Z.K c d)
abbrev kI(Z:Z5):Prop:=Ca9 Z 3 "is_no_greater" ["sign","mask"] (gt Z.K)
abbrev oj(Z:Z5):Prop:=Ca9 Z 3 "is_no_less" ["sign","mask"] (jb Z.K)
abbrev kJ(Z:Z5)(c:RCl RK)(d:RCl PzK):Prop:=Ca9 Z 3 "rests_by_line" ["puzzle","thought"] (fP Z.K c d)
abbrev m5(Z:Z5)(c:RCl RK):Prop:=Ca9 Z 3 "sum_strikes" ["rule","masks","cell","sign","more"] (iu Z.K c)
abbrev jm(Z:Z5)(c:RCl RK)(d:RCl PzK):Prop:=Ca9 Z 3 "rests_by_number" ["puzzle","thought"] (eV Z.K c d)
abbrev lP(Z:Z5):Prop:=Ca9 Z 3 "first_within" ["words","least","most"] (dJ Z.K)
abbrev oo(Z:Z5):Prop:=Ca9 Z 3 "told_cells" ["floor","words"] (iZ Z.K)
abbrev tZ(Z:Z5)(c:RCl RK):Prop:=Ca9 Z 3 "rule_by" ["floor","words","cells","amount","mark"] (mw Z.K c)
abbrev kK(Z:Z5):Prop:=Ca9 Z 3 "checked_clues" ["floor","clues"] (gm Z.K)
abbrev pF(Z:Z5)(c:RCl RK)(d:RCl PzK):Prop:=Ca9 Z 4 "is_formed" ["puzzle","thought"] (jX Z.K c d)
abbrev pG(Z:Z5):Prop:=Ca9 Z 4 "many_only" ["some","sign"] (jZ Z.K)
abbrev lQ(Z:Z5)(c:RCl RK):Prop:=Ca9 Z 4 "step_strikes" ["rule","masks","cell","sign","more"] (gR Z.K c)
abbrev rC(Z:Z5)(c:RCl RK)(d:RCl PzK):Prop:=Ca9 Z 4 "rests_on" ["puzzle","thought"] (jf Z.K c d)
abbrev rD(Z:Z5):Prop:=Ca9 Z 4 "cells_of" ["floor","name","words"] (kZ Z.K)
abbrev kL(Z:Z5):Prop:=Ca9 Z 4 "checked_floor" ["floor"] (gk Z.K)
abbrev jn(Z:Z5)(c:RCl RK)(d:RCl PzK):Prop:=Ca9 Z 5 "strikes_by_line" ["puzzle","masks","thought"] (eK Z.K c d)
abbrev kM(Z:Z5)(c:RCl RK):Prop:=Ca9 Z 5 "count_strikes" ["rule","masks","cell","sign","more"] (gq Z.K c)
abbrev pH(Z:Z5)(c:RCl RK):Prop:=Ca9 Z 5 "read_rule" ["floor","line"] (jV Z.K c)
abbrev lR(Z:Z5)(c:RCl RK):Prop:=Ca9 Z 6 "ways_strikes" ["rule","masks","cell","sign","more"] (gY Z.K c)
abbrev oq(Z:Z5)(c:RCl RK):Prop:=Ca9 Z 6 "read_rules" ["floor","lines"] (i7 Z.K c)
abbrev ig(Z:Z5)(c:RCl RK)(d:RCl PzK):Prop:=Ca9 Z 7 "strikes_by_number" ["puzzle","masks","thought"] (dR Z.K c d)
abbrev t1(Z:Z5)(c:RCl RK)(d:RCl PzK):Prop:=Ca9 Z 8 "strikes" ["puzzle","masks","thought"] (j7 Z.K c d)
abbrev t3(Z:Z5)(c:RCl RK)(d:RCl PzK):Prop:=Ca9 Z 9 "allowed" ["puzzle","masks","thought"] (kb Z.K c d)
abbrev xR(Z:Z5)(c:RCl RK)(d:RCl PzK):Prop:=MCal Z.P Z.w Z.K Z.mg Z.base d d.ok 1 "clues" ["self"] (vE Z.K c d)
abbrev kf(Z:Z5)(c:RCl RK):Prop:=MCal Z.P Z.w Z.K Z.mg Z.base c c.ok 3 "has_two_beside" ["self","cells","cell"] (fZ Z.K c)
abbrev xS(Z:Z5)(c:RCl RK):Prop:=MCal Z.P Z.w Z.K Z.mg Z.base c c.ok 5 "holds" ["self","filling"] (dO Z.K c)
abbrev iK(Z:Z5)(c:RCl RK):Prop:=MCal Z.P Z.w Z.K Z.mg Z.base c c.ok 4 "is_joined" ["self","cells"] (gH Z.K c)
abbrev gy(Z:Z5)(c:RCl RK):Prop:=MCal Z.P Z.w Z.K Z.mg Z.base c c.ok 1 "marked" ["self","filling"] (gD Z.K c)
abbrev Ay(Z:Z5)(c:RCl RK):Prop:=MCal Z.P Z.w Z.K Z.mg Z.base c c.ok 1 "name" ["self"] (sA Z.K c)
abbrev qj(Z:Z5)(c:RCl RK):Prop:=MCal Z.P Z.w Z.K Z.mg Z.base c c.ok 1 "number" ["self"] (gC Z.K c)
abbrev sW(Z:Z5)(c:RCl RK)(d:RCl PzK):Prop:=MCal Z.P Z.w Z.K Z.mg Z.base d d.ok 1 "place" ["self"] (p9 Z.K c d)
abbrev jE(Z:Z5)(c:RCl RK)(d:RCl PzK):Prop:=MCal Z.P Z.w Z.K Z.mg Z.base d d.ok 1 "rules" ["self"] (gp Z.K c d)
abbrev Az(Z:Z5)(c:RCl RK):Prop:=MCal Z.P Z.w Z.K Z.mg Z.base c c.ok 1 "sign" ["self"] (oU Z.K c)
abbrev ic(Z:Z5)(c:RCl RK):Prop:=MCal Z.P Z.w Z.K Z.mg Z.base c c.ok 1 "signs_at" ["self","filling"] (fm Z.K c)
abbrev lS(Z:Z5)(c:RCl RK):Prop:=MCal Z.P Z.w Z.K Z.mg Z.base c c.ok 1 "spots" ["self"] (io Z.K c)
abbrev jo(Z:Z5)(x:Str)(C:Addr)(c:RCl RK)(d:RCl PzK):Prop:=KCal Z.P Z.w Z.K Z.mg Z.base 7 x C ["self","floor","lines","clues"] (cq Z.K c d)
abbrev aC(Z:Z5)(x:Str)(C:Addr)(c:RCl RK):Prop:=KCal Z.P Z.w Z.K Z.mg Z.base 1 x C ["self","floor","words","cells","amount","mark"] (aK Z.K c)
section
variable{Z:Z5}(Bz:Bt3 Z)
include Bz
set_option maxHeartbeats 4000000
abbrev rE:Stmt:=top 10
theorem wP(D:De Z.K "is_whole" rE):fX Z:=okc Bz D wB bd1 #[";diNt:a;?b0b[.v]'ha~X~YacS'it:a;?b0b[.v]'ja'k'lac"]
abbrev or:Stmt:=top 13
theorem uw(D:De Z.K "many_cells" or):d0 Z:=okc Bz D uh bd1 #[";dio~nme0fme0f"]
abbrev t4:Stmt:=top 14
theorem yT(D:De Z.K "spot_of" t4):n5 Z:=okc Bz D yi bd2 #[";gs#2 nme0fdi~Ibo~b12boT12c"]
abbrev pI:Stmt:=top 17
theorem wb(D:De Z.K "square_at" pI):pB Z:=okc Bz D vv bd2 #[";gs#2 noC1me0fdiDb1boC1fb2boC2fc"]
abbrev wc:Stmt:=top 21
theorem AA(D:De Z.K "bit_of" wc):wa Z:=okc Bz D z7 bd1 #[";gs#1 nfg^+a~va~aboO0fcx.i#2 nauads#1 no~n1fdi1"]
abbrev wd:Stmt:=top 22
theorem AB(D:De Z.K "stands" wd):mT Z:=okc Bz D z6 bd2 #[";diNy~gf1jkNy~g1'm'n'o'p'q0jkSyveoTo'X0oO1fffjk"]
abbrev t5:Stmt:=top 26
theorem yU(D:De Z.K "clashes" t5):n6 Z:=okc Bz D yx bd1 #[";diy~wef0`0",(by with_unfolding_all rfl)]
abbrev rF:Stmt:=top 37
theorem wQ(D:De Z.K "masks_at" rF):jC Z:=okc Bz D wF bd2 #[";diA.x&--0 `0za%aaaaB1$x.i#1 @`0aua$I$me21",[".0","cell","masks"]]
abbrev pJ:Stmt:=top 59
theorem we(D:De Z.K "with_sign" pJ):lz Z:=okc Bz D vJ bd3 #[";diA.x&---12 `0za%aaaa'Ya'Zb0c$'*a'rx.i#1 @`0aua'rx.i#2 @`0aua'+$I$~Zrve13jk42",[".0","place","other","cell","sign"]]
abbrev pK:Stmt:=top 78
theorem wg(D:De Z.K "is_within" pK):pC Z:=okc Bz D vI bd2 #[";dit~haa~i~jbA.x&--1 `0za%aaaaB0$x.i#1 @`0aua$I$y~we12`1c",[".0","cell","cells"],(by with_unfolding_all rfl)]
abbrev kN:Stmt:=mtop 79 0
theorem qk{c:RCl RK}(Ea:FldK Z.K c "amount")(Ed:FldK Z.K c "cells")(Eg:FldK Z.K c "floor")(Ek:FldK Z.K c "mark")(Ex:FldK Z.K c "words"){f:Addr}(D:Me Z.K "__init__" "Rule.__init__" kN f):Mo Z 1 f ["self","floor","words","cells","amount","mark"] (aK Z.K c):=okm D p0 bd6 #[";g~k01~Jg~k0~c'sa~K~Lb2c'tg~k0~c'sa~K~Lb3c~Mg~k04~Bd~k05~*"]
abbrev pM:Stmt:=mtop 79 1
theorem wj{c:RCl RK}(Ex:FldK Z.K c "words"){f:Addr}(D:Me Z.K "name" "Rule.name" pM f):Mo Z 1 f ["self"] (nG Z.K c):=okm D vw bd1 #[";dimeJ0'tf"]
abbrev ot:Stmt:=mtop 79 2
theorem ux{c:RCl RK}(Ed:FldK Z.K c "cells"){f:Addr}(D:Me Z.K "spots" "Rule.spots" ot f):Mo Z 1 f ["self"] (mX Z.K c):=okm D ui bd1 #[";di~c~Na~d~obJ0~Mc"]
abbrev m6:Stmt:=mtop 79 3
theorem sX{c:RCl RK}(Ea:FldK Z.K c "amount"){f:Addr}(D:Me Z.K "number" "Rule.number" m6 f):Mo Z 1 f ["self"] (lJ Z.K c):=okm D sB bd1 #[";diJ0~B"]
abbrev pN:Stmt:=mtop 79 4
theorem wk{c:RCl RK}(Ek:FldK Z.K c "mark"){f:Addr}(D:Me Z.K "sign" "Rule.sign" pN f):Mo Z 1 f ["self"] (nI Z.K c):=okm D vx bd1 #[";diJ0~*"]
abbrev kO:Stmt:=mtop 79 8
theorem ql{c:RCl RK}(Ed:FldK Z.K c "cells"){f:Addr}(D:Me Z.K "signs_at" "Rule.signs_at" kO f):Mo Z 1 f ["self","filling"] (jS Z.K c):=okm D p5 bd2 #[";diA.x&--1 `0za%aaaa'uJ0~M$x.i#1 @`0aua$I$me21",[".0","cell","filling"]]
abbrev m7:Stmt:=mtop 79 9
theorem iE{c:RCl RK}(Ed:FldK Z.K c "cells")(Ek:FldK Z.K c "mark"){f:Addr}(D:Me Z.K "marked" "Rule.marked" m7 f):Mo Z 1 f ["self","filling"] (lL Z.K c):=okm D sJ bd2 #[";diA.x&--10 `0za%aaaa'uJ0~M$x.i#1 @`0aua$-rveme21J3~*jk$1",[".0","cell","filling","self"]]
abbrev pO:Stmt:=top 95
theorem wl{t_FIGURES:Tok}(FB:Z.mg "FIGURES"=some (.str (tx [48,49,50,51,52,53,54,55,56,57]) t_FIGURES)){t_MOST_FIGURES:Tok}(EQ:Z.mg "MOST_FIGURES"=some (.int 9 t_MOST_FIGURES))(D:De Z.K "number_in" pO):pD Z:=okc Bz D vy bd1 #[";gpUPrve0wjkPrVtHaEGb0c`0jk/U'vrveme0fwjk'wrWe0wjkdi~+qgpMFt~haa~i~jbA.x&-- `1za%aaaa'-0$x.i#1 @`1aua$I$y~we1`2`3cdi~+qdi~c'/a~X~Yb0c",(dy rfl EQ ⟨t_MOST_FIGURES,rfl⟩),[".0","figure"],(dy rfl FB ⟨t_FIGURES,rfl⟩),(by with_unfolding_all rfl)]
abbrev lT:Stmt:=mtop 108 1
theorem rG{c:RCl RK}{d:RCl PzK}(Ep:FldK Z.K d "floor"){f:Addr}(D:Me Z.K "place" "Puzzle.place" lT f):Mo Z 1 f ["self"] (ku Z.K c d):=okm D qS bd1 #[";diJ0~O"]
abbrev lU:Stmt:=mtop 108 3
theorem rH{c:RCl RK}{d:RCl PzK}(Ey:FldK Z.K d "given"){f:Addr}(D:Me Z.K "clues" "Puzzle.clues" lU f):Mo Z 1 f ["self"] (kx Z.K c d):=okm D qT bd1 #[";di~c~Na~d~obJ0'xc"]
abbrev lV:Stmt:=mtop 108 4
theorem rJ{c:RCl RK}{d:RCl PzK}(EF:FldK Z.K d "laws"){f:Addr}(D:Me Z.K "rules" "Puzzle.rules" lV f):Mo Z 1 f ["self"] (ky Z.K c d):=okm D qU bd1 #[";di~c~Na~d~obJ0'yc"]
abbrev lW:Stmt:=top 110
theorem rK(D:De Z.K "_law_cell_at" lW):iC Z:=okc Bz D vT bd2 #[";gprY1t':aEGb0cjkdi';'?01`0qdif",(fun _ _=>rfl)]
abbrev ou:Stmt:=top 111
theorem uy(D:De Z.K "_law_order" ou):oa Z:=okc Bz D rj bd2 #[";gs#2 n'zaaa~d~ab1cgs#3 nDcg^+a~va~ab1cx.i#4 nauad~lQZ~p~q~r3bQZ'[']'^2boTo~b0oC4ftHaEGb2cccdi3"]
abbrev rL:Stmt:=top 112
theorem wR(D:De Z.K "_law_bit" rL):rp Z:=okc Bz D ut bd1 #[";dimeDbfbfbfbfbfbfcoO0f"]
abbrev ow:Stmt:=top 113
def uz{c0 P0:Addr}(LT:PySem.W.tabIn Z.K "_law_cells"=some (c0,P0))(LC:PySem.W.CodeHd Z.base c0 P0)(LB:Z.base.BuiltinsAt Z.mg P0)(LM:mainGlobals≠P0)(D:De Z.K "_law_cells" ow):oe Z:=okcT Bz D rn bd3 LT fun hr hu nd=>(ad (ar (ap (iM hu) (pv 1) (dD (aa aw (aa aw ac))) (by with_unfolding_all rfl)) (ae (ai (pv 2))) am)
   (ad (kset 3 nd (aG ac))
   (ad (cF Hr rfl (aE (pv 2)) (au (i:=4) nd rfl (Or.inl rfl))
   (ae (ar (ap (iM hu) (kix hu (pv 0) (pv 4)) (aH (ix:=[none,none,some 0]) [".0","_law_other","_law_filling"] (aD rfl (by decide+kernel) rfl rfl rfl) rfl (aE (pv 3)) (fun cl s H fp=>(au (i:=1) (show([".0","_law_other","_law_filling"]:List Str).Nodup by decide+kernel) rfl (Or.inl rfl))) (fun cl s H fp=>aT) (fun cl s H fp=>(kix hu (pv 2) (pv 1)))) (by with_unfolding_all rfl)) (ae (dz (c6 G2 Hi Hj bC (pv 3) (aa (pv 4) ac)))) am)))
   (ad (ar (ap (az hu) (pv 1) aw (ak _)) (ae (ai (pv 3))) am)
   (ae (ai (wL (x:="_law_cells") (i:=0) LT rfl Bz.sorted_ hr.depth rfl LC LB LM (pv 3) rfl rfl rfl rfl rfl rfl (fun _ _ _ _ _ _=>rfl) rfl rfl rfl rfl rfl)))))))
abbrev ox:Stmt:=top 116
theorem uA(D:De Z.K "_law_rests" ox):og Z:=okc Bz D rm bd2 #[";gprveme0fwjkgs#2 nQZ~-~/~:e1bme0fcdit~sa~t~uboC~e~f1Xt{aaa'A'BbfboO2fcX2~e~f1XoC2fXoC2fcqdit~sa~t~ubA.x&--0 `0za%aaaaB1$x.i#1 @`0aua$-rWe1me2fjk$1c",[".0","_law_cell","_law_thought"]]
abbrev jp:Stmt:=top 117
theorem oy(D:De Z.K "_law_whole_list" jp):jl Z:=okc Bz D mS bd1 #[";gpMFt:a;?b0b[.v]~;a~d~oacdiKqg^+aB0x.i#1 nauadpUPMFt:a;?b1b[.v]'ha~X~Yac/Ft:a;?b1b[.v]'ja'k'lacdiKqdiK"]
abbrev kg:Stmt:=top 11
theorem o5(Ec:fX Z)(D:De Z.K "is_from_one_to" kg):gx Z:=okc Bz D oY bd2 #[";diNl~Chb0cNy~gf0jkSy~g01jk"]
abbrev wm:Stmt:=top 15
theorem AC(EG:n5 Z)(D:De Z.K "beside" wm):qh Z:=okc Bz D zR bd2 #[";gs#2 nme0fgs#3 nme0fgs#4 nl'Chb0b1cgs#5 nDcgprVme4ffjkd~lQZ~p~q~r5boO13cqgprVme4ffjkd~lQZ~p~q~r5boO1fcqgprYme4foO3fjkd~lQZ~p~q~r5boC1fcqgprYme4foO2fjkd~lQZ~p~q~r5boC13cqdi5"]
abbrev pP:Stmt:=top 16
theorem wn(EG:n5 Z)(D:De Z.K "is_corner" pP):pE Z:=okc Bz D vt bd2 #[";gs#2 nl'Chb0b1cdiNyYme2foOme0ffjkSyYme2foOme0ffjk"]
abbrev t6:Stmt:=top 23
theorem yV(FN:wa Z)(Et:mT Z)(D:De Z.K "without" t6):tT Z:=okc Bz D yo bd2 #[";di~ZFl~?hb0b1coO0l{bhb1c0"]
abbrev rM:Stmt:=top 25
theorem wS(Et:mT Z)(D:De Z.K "signs_in" rM):fY Z:=okc Bz D wE bd1 #[";diA.x&--0 `0za%aaaa'Da~abfboC'm'n'o'p'q0fc$x.i#1 @`0aua$-Fl~?hb2b1c$1",[".0","sign","mask"]]
abbrev t7:Stmt:=top 31
theorem yW(Ec:fX Z)(DZ:d0 Z)(D:De Z.K "is_cell" t7):tU Z:=okc Bz D yp bd2 #[";diNl~Chb1cNy~gf1jkSyY1l~Dhb0cjk"]
abbrev t8:Stmt:=top 33
theorem yX{c:RCl RK}(F8:Ay Z c)(EI:GDict Z.w Z.K Z.mg "RULES_OF_KIND" gd_RULES_OF_KIND)(D:De Z.K "goes_by" t8):tV Z c:=okc Bz D yr bd2 #[";di~[yve0wjkSy{cL{dh!1{e{f0a`0`1",(fun _ _=>rfl),(by with_unfolding_all rfl)]
abbrev wo:Stmt:=top 36
theorem AD{c:RCl RK}(Eo:lS Z c)(D:De Z.K "others" wo):iD Z c:=okc Bz D Aa bd2 #[";diA.x&--1 `0za%aaaaBL~Ph!0$x.i#1 @`0aua$-rWe12jk$1",[".0","spot","cell"]]
abbrev rN:Stmt:=top 39
theorem wT(Et:mT Z)(D:De Z.K "many_may" rN):rq Z:=okc Bz D wG bd2 #[";ditHaEGbA.x&--1 `0za%aaaaB0$x.i#1 @`0aua$-Fl~?hb1b2c$1c",[".0","mask","sign"]]
abbrev rO:Stmt:=top 45
theorem wU{c:RCl RK}(Eo:lS Z c)(D:De Z.K "ahead_of" rO):mU Z c:=okc Bz D wH bd2 #[";gs#2 nL~Ph!0gs#3 nQZ~-~/~:e2b1cdi~ZrV3fjk~e~f2XoO3fX3Dc"]
abbrev wp:Stmt:=top 46
theorem AE{c:RCl RK}(Eo:lS Z c)(D:De Z.K "behind" wp):qi Z c:=okc Bz D Ad bd2 #[";gs#2 nL~Ph!0gs#3 nQZ~-~/~:e2b1cdi~e~f2XoC3fXoC3f"]
abbrev kh:Stmt:=top 60
theorem o6(Eu:lz Z)(D:De Z.K "with_each_sign" kh):ke Z:=okc Bz D o4 bd3 #[";gs#3 nDcg^+aB0x.i#4 na~xad~lQZ{g{h{i3bA.x&--14 `0za%aaaaB2$x.i#1 @`0aua$I$l'Ehb3b2b1ccdi3",[".0","sign","cell","filling"]]
abbrev lX:Stmt:=mtop 80 0
theorem rP{c:RCl RK}(Eh:ic Z c){f:Addr}(D:Me Z.K "holds" "Unlike.holds" lX f):Mo Z 2 f ["self","filling"] (kt Z.K c):=okm D qR bd2 #[";gs#2 n*~Qh!0b1cdiyve'FaaaE'G2tHaEGb2cjk"]
abbrev pQ:Stmt:=mtop 81 1
theorem wq{c:RCl RK}(Ea:FldK Z.K c "amount")(Eh:ic Z c){f:Addr}(D:Me Z.K "holds" "Sum.holds" pQ f):Mo Z 2 f ["self","filling"] (nU Z.K c):=okm D vH bd2 #[";diyvet~Raa~S~Tb*~Qh!0b1ccJ0~Bjk"]
abbrev lY:Stmt:=mtop 82 1
theorem rQ{c:RCl RK}(Eh:ic Z c){f:Addr}(D:Me Z.K "holds" "Rising.holds" lY f):Mo Z 2 f ["self","filling"] (kC Z.K c):=okm D q5 bd2 #[";g~E.i#2 na~xa*~Qh!0b1cdit~haa~i~jbA.x&--2 `0za%aaaa~va~aboOtHaEGb2cfc$x.i#1 @`0aua$I$yYme21me2oC1fjkc",[".0","place","signs"]]
abbrev oz:Stmt:=mtop 83 1
theorem uB{c:RCl RK}(Ea:FldK Z.K c "amount")(Eh:ic Z c){f:Addr}(D:Me Z.K "holds" "Seen.holds" oz f):Mo Z 2 f ["self","filling"] (mZ Z.K c):=okm D uo bd2 #[";gs#2 nfgs#3 nfg^+aB*~Qh!0b1cx.i#4 nauadprV42jkgs#2 n4ds#3 noC3fqdiyve3J0~Bjk"]
abbrev m8:Stmt:=mtop 84 0
theorem sY{c:RCl RK}(Ea:FldK Z.K c "amount")(Er:gy Z c){f:Addr}(D:Me Z.K "holds" "Count.holds" m8 f):Mo Z 2 f ["self","filling"] (lM Z.K c):=okm D sK bd2 #[";diyvetHaEGb*~Uh!0b1ccJ0~Bjk"]
abbrev kP:Stmt:=top 96
theorem qm(Fg:pD Z)(D:De Z.K "number_within" kP):ib Z:=okc Bz D p6 bd3 #[";gs#3 nl{jhb0cgpUPr{k3~+jkPrY31jk/rV32jkdRqdi3"]
abbrev oA:Stmt:=top 106
theorem uC(Ec:fX Z)(DZ:d0 Z)(D:De Z.K "is_filling" oA):oh Z:=okc Bz D ul bd3 #[";gpUPMFt:a;?b1b[.v]~;a~d~oac/rWetHaEGb1cl~Dhb0cjkdiKqdit~haa~i~jbA.x&--02 `0za%aaaaB1$x.i#1 @`0aua$I$Nl~Chb1cNy~g31jkSy~g1me2fjkc",[".0","sign","floor","least"]]
abbrev rR:Stmt:=top 114
theorem wV(E3:oe Z)(E4:oa Z)(D:De Z.K "_law_row" rR):rz Z:=okc Bz D uv bd3 #[";gs#3 ntHaEGb0cgs#4 nmeDbwbwbwbwbwbwbwbwbwcoT2fgs#5 n~e~fl{lhbo~b2fb3c~FXoCfoTo~b2f3gs#6 nl{mhb0b4b5cg~E.i#7 na~xaA.x&--0 `0za%aaaaB6$x.i#1 @`0aua$I$me21gprve4wjkg'H.k#9 nauaa.x&--0 `1za%aaaa'Da~abfboC1fc$x.i#1 @`1aua$-r~]e12`2$1gprWe9Dcjkdi~IboCoCmeDbwbwbwcoTo~b2ffw~c'Ia~^'abme9oTo~b2ftHaEGb9ccb4bDccqds#4 nwqgs#10 nDcgprve4wjkds#10 nDbt~Raa~S~Tb7ccqgprve4wjkds#10 nDbtHaEGbA.x&--7 `3za%aaaa~va~abtHaEGb7cc$x.i#1 @`3aua$-UPrve1fjk/rVme21t{naa'A'Bb~e~f2~FX1cjk$1ccqgprve4wjkg~E.i#8 na~xaoCfoTo~b2f1ds#10 nDbtHaEGbA.x&--8 `4za%aaaaB7$x.i#1 @`4aua$-rve12jk$1cb8cqdi~IbQ'J{o{p{qwboCDb4cA.x&-- `5za%aaaaBoC|a6$x.i#1 @`5aua$I$~c'Ia~^'ab1ccb4b6c",[".0","_law_spot","_law_filling"],[".0","_law_sign","_law_filling"],(by with_unfolding_all rfl),[".0","_law_k","_law_told"],[".0","_law_one","_law_sign"],[".0","_law_one"]]
abbrev oB:Stmt:=top 115
theorem uD(EJ:rp Z)(Ef:iC Z)(D:De Z.K "_law_masks" oB):oi Z:=okc Bz D ro bd3 #[";gs#3 nDcg^+a~va~abtHaEGb1ccx.i#4 nauags#5 noTo~noCl{rhb0boCf4co~no~nf44ffgs#6 nl'bhbme14cgprVoT5ffjkds#6 no'K6l'bhboCfoTo~b5f2cqgprVoT5ffjkds#6 no'K6l'bhboCfoTo~b5f2cqd~lQZ~p~q~r3b6cdi3"]
abbrev rS:Stmt:=top 12
theorem wW(Ee:gx Z){t_MOST_CELLS:Tok}(E5:Z.mg "MOST_CELLS"=some (.int 16 t_MOST_CELLS)){t_MOST_SIDE:Tok}(EX:Z.mg "MOST_SIDE"=some (.int 6 t_MOST_SIDE)){t_MOST_SIGNS:Tok}(E6:Z.mg "MOST_SIGNS"=some (.int 6 t_MOST_SIGNS))(D:De Z.K "floor_of" rS):rA Z:=okc Bz D wC bd3 #[";gpMFl~Vhb0b`0cdRqgpMFl~Vhb1b`0cdRqgprVo~n01`1jkdRqgpMFl~Vhb2b`2cdRqdi~Ib0b1b2c",(dy rfl EX ⟨t_MOST_SIDE,rfl⟩),(dy rfl E5 ⟨t_MOST_CELLS,rfl⟩),(dy rfl E6 ⟨t_MOST_SIGNS,rfl⟩)]
abbrev t9:Stmt:=top 18
theorem yY(Fh:pE Z)(DZ:d0 Z)(Fi:pB Z)(D:De Z.K "squares" t9):tW Z:=okc Bz D ym bd1 #[";diA.x&--0 `0za%aaaa~va~abl~Dhb0cc$x.i#1 @`0aua$-Fl{shb2b1c$l{thb2b1c",[".0","cell","floor"]]
abbrev ua:Stmt:=top 19
theorem yZ(ER:qh Z)(D:De Z.K "reached" ua):tX Z:=okc Bz D yy bd3 #[";gpr~]e21`0diDcqgs#3 nDb2cgs#4 nfg{u+rY4tHaEGb3cjkg^+aBl'Lhb0bme34cx.i#5 nauadpU'vr~we51`0'wr~]e53`0d~lQZ~p~q~r3b5cqds#4 noC4fdit~sa~t~ub3c",(by with_unfolding_all rfl)]
abbrev rT:Stmt:=top 24
theorem wX(FC:tT Z)(D:De Z.K "has_only" rT):rB Z:=okc Bz D wD bd2 #[";diyvel{vhb0b1cfjk"]
abbrev AF:Stmt:=top 27
theorem Cn(Eb:fY Z)(D:De Z.K "ways" AF):Ax Z:=okc Bz D Cb bd1 #[";gs#1 nfg^+aB0x.i#2 nauads#1 no~n1tHaEGbl~yhb2ccdi1"]
abbrev ub:Stmt:=top 32
theorem y2(Ee:gx Z)(D:De Z.K "is_sign" ub):tY Z:=okc Bz D yq bd2 #[";dil~Vhb1bme0fc"]
abbrev lZ:Stmt:=top 34
theorem rV{c:RCl RK}{d:RCl PzK}(FD:tV Z c)(Ec:fX Z)(Ej:jE Z c d)(Eo:lS Z c)(D:De Z.K "has_its_rule" lZ):lO Z c d:=okc Bz D qV bd4 #[";gpUPMFl~Chb2c/rY2fjkdiKqgprve1wjkdiyve2fjkqgs#4 nL~Gh!0gpr'c2tHaEGb4cjkdiKqdiNl{whb1bme42cSy~we3L~Ph!me42`0",(by with_unfolding_all rfl)]
abbrev kQ:Stmt:=top 47
theorem qo(Eb:fY Z)(D:De Z.K "is_no_greater" kQ):kI Z:=okc Bz D qd bd2 #[";dit~haa~i~jbA.x&--0 `0za%aaaaBl~yhb1c$x.i#1 @`0aua$I$y~g21jkc",[".0","other","sign"]]
abbrev oC:Stmt:=top 48
theorem uE(Eb:fY Z)(D:De Z.K "is_no_less" oC):oj Z:=okc Bz D um bd2 #[";dit~haa~i~jbA.x&--0 `0za%aaaaBl~yhb1c$x.i#1 @`0aua$I$y'c21jkc",[".0","other","sign"]]
abbrev kR:Stmt:=top 53
theorem qp{c:RCl RK}{d:RCl PzK}(Ez:mU Z c)(ES:qi Z c)(Ei:iD Z c)(Ej:jE Z c d)(D:De Z.K "rests_by_line" kR):kJ Z c d:=okc Bz D nV bd2 #[";gs#2 nme1fgprve2wjkdiDcqgpUPrve2wjk/rve2wjkdit~sa~t~ubme1fcqgs#3 nmeL~Gh!0me1fgprve2wjkdit~sa~t~ubl~Hhb3bme1fccqdit~sa~t~uboCl'Mhb3bme1fcl'Nhb3bme1fcc"]
abbrev nc:Stmt:=top 58
theorem sZ{c:RCl RK}(EH:n6 Z)(Em:jC Z)(Ei:iD Z c)(Eb:fY Z)(Ew:qj Z c)(D:De Z.K "sum_strikes" nc):m5 Z c:=okc Bz D sI bd5 #[";gprWe4DcjkdiKqgs#5 nl'dhb1bl~Hhb0b2ccgpFl'Ohb5cdiKqgs#6 noC3t~Raa~S~TbA.x&-- `0za%aaaaB5$x.i#1 @`0aua$I$mel~yhb1cfcgs#7 noC3t~Raa~S~TbA.x&-- `0za%aaaaB5$x.i#1 @`0aua$I$mel~yhb1c{x{yfcdi~[yV6L~Wh!0jkSyY7L~Wh!0jk",[".0","mask"]]
abbrev jq:Stmt:=top 63
theorem oE{c:RCl RK}{d:RCl PzK}(Ei:iD Z c)(Ej:jE Z c d)(D:De Z.K "rests_by_number" jq):jm Z c d:=okc Bz D mQ bd2 #[";dit~sa~t~ubl~HhbmeL~Gh!0me1fbme1fcc"]
abbrev gF:Stmt:=mtop 87 1
theorem lA{c:RCl RK}(ER:qh Z)(Eg:FldK Z.K c "floor"){f:Addr}(D:Me Z.K "has_two_beside" "Ring.has_two_beside" gF f):Mo Z 3 f ["self","cells","cell"] (gd Z.K c):=okm D lw bd3 #[";diyvetHaEGbA.x&--1 `0za%aaaaBl'LhbJ0~Jb2c$x.i#1 @`0aua$-r~we12`1$1cfjk",[".0","other","cells"],(by with_unfolding_all rfl)]
abbrev l0:Stmt:=top 97
theorem rW(El:ib Z)(D:De Z.K "first_within" l0):lP Z:=okc Bz D qM bd3 #[";gprve0DcjkdRqdil'Phbme0fb1b2c"]
abbrev oF:Stmt:=top 98
theorem uF(DZ:d0 Z)(El:ib Z)(D:De Z.K "told_cells" oF):oo Z:=okc Bz D uj bd2 #[";g'H.k#2 nauaa.x&--0 `0za%aaaaB1$x.i#1 @`0aua$I$l'Phb1bfboOl~Dhb2cfcgprve2DcjkdRqgprWe'FaaaE'G2tHaEGb2cjkdRqdi2",[".0","word","floor"]]
abbrev uc:Stmt:=top 100
theorem y3{c:RCl RK}(FZ:aC Z "Count" (c.A .Count) c)(FO:aC Z "Joined" (c.A .Joined) c)(Fu:aC Z "NoSquare" (c.A .NoSquare) c)(F9:aC Z "Ring" (c.A .Ring) c)(FP:aC Z "Rising" (c.A .Rising) c)(Ga:aC Z "Seen" (c.A .Seen) c)(K_Sum:aC Z "Sum" (c.A .Sum) c)(FQ:aC Z "Unlike" (c.A .Unlike) c)(D:De Z.K "rule_by" uc):tZ Z c:=okc Bz D yn bd5 #[";gs#5 nme1fgprve5wjkdi~m{zh!ab0b1b2b3b4cqgprve5wjkdi~m{Ah!ab0b1b2b3b4cqgprve5wjkdi~m{Bh!ab0b1b2b3b4cqgprve5wjkdi~m{Ch!ab0b1b2b3b4cqgprve5wjkdi~m{Dh!ab0b1b2b3b4cqgprve5wjkdi~m{Eh!ab0b1b2b3b4cqgprve5wjkdi~m{Fh!ab0b1b2b3b4cqgprve5wjkdi~m{Gh!ab0b1b2b3b4cqdR"]
abbrev kS:Stmt:=top 107
theorem qq(E7:oh Z)(D:De Z.K "checked_clues" kS):kK Z:=okc Bz D p8 bd2 #[";gpMFl{Hhb0b1bfcdRqdi~c~Na~d~ob1c"]
abbrev pR:Stmt:=top 35
theorem wr{c:RCl RK}{d:RCl PzK}(ET:lO Z c d)(FE:tU Z)(FF:tY Z)(Ec:fX Z)(Fs:sW Z c d)(F0:GTup Z.K Z.mg "KINDS" mC)(D:De Z.K "is_formed" pR):pF Z c d:=okc Bz D vF bd2 #[";gpUPMFt:a;?b1b[.v]'Qa~K~LacPrWetHaEGb1cfjk/'R{Ime1fadiKqgs#2 nL{Jh!0gpUPMFl{Khb2bme1fc/MFl{Lhb2bme1fcdiKqgpMFl{Mhb0bme1fbme1fbme1fcdiKqdiNt:a;?bme1fb[.v]~;a~d~oacSt~haa~i~jbA.x&-- `0za%aaaaBme1f$x.i#1 @`0aua$I$l~Chb1cc",[".0","part"]]
abbrev pS:Stmt:=top 38
theorem wt(Fv:rB Z)(D:De Z.K "many_only" pS):pG Z:=okc Bz D vG bd2 #[";ditHaEGbA.x&--1 `0za%aaaaB0$x.i#1 @`0aua$-Fl{Nhb1b2c$1c",[".0","mask","sign"]]
abbrev l5:Stmt:=top 49
theorem rX{c:RCl RK}(Ez:mU Z c)(ES:qi Z c)(EK:kI Z)(E8:oj Z)(D:De Z.K "step_strikes" l5):lQ Z c:=okc Bz D qZ bd5 #[";gprWe4DcjkdiKqgpFt'eaa'f'gbA.x&--13 `0za%aaaaBl'Mhb0b2c$x.i#1 @`0aua$I$l{Ohb3bme21ccdiKqdit'eaa'f'gbA.x&--13 `0za%aaaaBl'Nhb0b2c$x.i#1 @`0aua$I$l{Phb3bme21cc",[".0","other","masks","sign"]]
abbrev rY:Stmt:=top 76
theorem wY{c:RCl RK}{d:RCl PzK}(EL:kJ Z c d)(EB:jm Z c d)(Es:GTup Z.K Z.mg "LINE_KINDS" dB)(En:GTup Z.K Z.mg "NUMBER_KINDS" cA)(D:De Z.K "rests_on" rY):rC Z c d:=okc Bz D uq bd2 #[";gp~z'Sme1fadil{Qhb0b1cqgp~z'Tme1fadil{Rhb0b1cqdi~A"]
abbrev iV:Stmt:=mtop 85 1
theorem ii{c:RCl RK}(Fe:tX Z)(Eg:FldK Z.K c "floor"){f:Addr}(D:Me Z.K "is_joined" "Joined.is_joined" iV f):Mo Z 4 f ["self","cells"] (ie Z.K c):=okm D nh bd2 #[";di~[yve1DcjkSyvel{ShbJ0~Jb1bme1fc1jk"]
abbrev ki:Stmt:=mtop 86 0
theorem o7{c:RCl RK}(Fj:pC Z)(FG:tW Z)(Eg:FldK Z.K c "floor")(Er:gy Z c){f:Addr}(D:Me Z.K "holds" "NoSquare.holds" ki f):Mo Z 4 f ["self","filling"] (jk Z.K c):=okm D o3 bd2 #[";g~E.i#2 na~xa*~Uh!0b1cdi'it'eaa'f'gbA.x&--2 `0za%aaaaBl{ThbJ0~Jc$x.i#1 @`0aua$I$l{Uhb1b2cc",[".0","square","cells"]]
abbrev rZ:Stmt:=top 99
theorem wZ(DZ:d0 Z)(E9:oo Z)(EU:GTup Z.K Z.mg "OF_ALL_CELLS" fD)(D:De Z.K "cells_of" rZ):rD Z:=okc Bz D wz bd3 #[";gp'R{V1adil{Whb0b2cqgprWe2DcjkdRqdi'zaaa~d~abl~Dhb0cc"]
abbrev kT:Stmt:=top 104
theorem qr(Fw:rA Z)(D:De Z.K "checked_floor" kT):kL Z:=okc Bz D p7 bd1 #[";gpUPMFt:a;?b0b[.v]'Qa~K~Lac/rWetHaEGb0cfjkdRqdil{Xhbme0fbme0fbme0fc"]
abbrev jr:Stmt:=top 52
theorem oG{c:RCl RK}{d:RCl PzK}(EV:lQ Z c)(Gf:xR Z c d)(Fs:sW Z c d)(Ej:jE Z c d)(D:De Z.K "strikes_by_line" jr):jn Z c d:=okc Bz D mP bd3 #[";gs#3 nme2fgs#4 nme2fgs#5 nme2fgs#6 nme2fgprve3wjkdi~Aqgs#7 nmeL~Gh!0me2fgprve3wjkdi~Aqgprve3wjkdi~Aqgprve3wjkdil{Yhb7b1b4b5b6cqdi~A"]
abbrev kU:Stmt:=top 57
theorem qt{c:RCl RK}(Fx:rq Z)(Fk:pG Z)(Em:jC Z)(Ei:iD Z c)(Ew:qj Z c)(FV:Az Z c)(D:De Z.K "count_strikes" kU):kM Z c:=okc Bz D qb bd5 #[";gprWe4DcjkdiKqgs#5 nl'dhb1bl~Hhb0b2ccgprve3L'Uh!0jkdiy'cl{Zhb5b3cL~Wh!0jkqdiyYl{*hb5bL'Uh!0cL~Wh!0jk"]
abbrev l6:Stmt:=mtop 85 0
theorem r8{c:RCl RK}(Fm:iK Z c)(Er:gy Z c){f:Addr}(D:Me Z.K "holds" "Joined.holds" l6 f):Mo Z 5 f ["self","filling"] (kD Z.K c):=okm D rb bd2 #[";di*'Vh!0b*~Uh!0b1cc"]
abbrev oH:Stmt:=mtop 87 0
theorem uG{c:RCl RK}(FR:kf Z c)(Fm:iK Z c)(Er:gy Z c){f:Addr}(D:Me Z.K "holds" "Ring.holds" oH f):Mo Z 5 f ["self","filling"] (m3 Z.K c):=okm D up bd2 #[";g~E.i#2 na~xa*~Uh!0b1cdiN*'Vh!0b2cSt~haa~i~jbA.x&--20 `0za%aaaaB2$x.i#1 @`0aua$I$*{+h!3b2b1cc",[".0","cell","cells","self"]]
abbrev pT:Stmt:=top 101
theorem wu{c:RCl RK}(Fy:rD Z)(EA:lP Z)(FH:tZ Z c){t_MOST_NUMBER:Tok}(EY:Z.mg "MOST_NUMBER"=some (.int 99 t_MOST_NUMBER))(EZ:GTup Z.K Z.mg "WITH_NUMBER" fV)(Fn:GTup Z.K Z.mg "WITH_SIGN" fJ)(D:De Z.K "read_rule" pT):pH Z c:=okc Bz D vD bd2 #[";gpMFt:a;?b1b[.v]{-a~^'aacdRqgs#2 nQ'J{/{:{;1bwcgs#3 nme2fgs#4 n~e~f2Xf~Fgs#5 nfgs#6 nfgp~z{?3ags#5 nl'Whb4bfb`0cds#4 n~e~f4Xf~Fqgp~z{[3ags#6 nl'Whb4bfbme0fcds#4 n~e~f4Xf~Fqdil{]hb0b2bl{^hb0b3b4cb5b6c",(dy rfl EY ⟨t_MOST_NUMBER,rfl⟩)]
abbrev l7:Stmt:=top 61
theorem sd{c:RCl RK}(EH:n6 Z)(Em:jC Z)(Ei:iD Z c)(Eb:fY Z)(Gb:Ax Z)(EE:ke Z)(Eu:lz Z){t_MOST_WAYS:Tok}(Fo:Z.mg "MOST_WAYS"=some (.int 32 t_MOST_WAYS))(F1:xS Z c)(D:De Z.K "ways_strikes" l7):lR Z c:=okc Bz D re bd5 #[";gs#5 nl~Hhb0b2cgs#6 nl'dhb1b5cgpUPrWe4Dcjk/rVl}ahb6c`0jkdiKqgpFl'Ohb6cdiKqgs#7 nDbl'Ehbo}bDbfctHaEGb1cb2b3ccg^+aB5x.i#8 nauads#7 nl}chb7b8bl~yhbme18ccg^+aB7x.i#9 nauadpF*}dh!0b9cdiKqdiK",(dy rfl Fo ⟨t_MOST_WAYS,rfl⟩)]
abbrev oI:Stmt:=top 105
theorem uH{c:RCl RK}(Fp:pH Z c){t_MOST_RULES:Tok}(Fa:Z.mg "MOST_RULES"=some (.int 12 t_MOST_RULES))(D:De Z.K "read_rules" oI):oq Z c:=okc Bz D uk bd2 #[";gprVtHaEGb1c`0jkdRqdiA.x&--0 `1za%aaaaB1$x.i#1 @`1aua$I$l}ehb2b1c",(dy rfl Fa ⟨t_MOST_RULES,rfl⟩),[".0","line","floor"]]
abbrev ij:Stmt:=top 62
theorem mV{c:RCl RK}{d:RCl PzK}(EM:kM Z c)(E2:m5 Z c)(EW:lR Z c)(Ej:jE Z c d)(D:De Z.K "strikes_by_number" ij):ig Z c d:=okc Bz D lx bd3 #[";gs#3 nmeL~Gh!0me2fgprveme2fwjkdil}fhb3b1bme2fbme2fbme2fcqgprveme2fwjkdil}ghb3b1bme2fbme2fbme2fcqdil}hhb3b1bme2fbme2fbme2fc"]
abbrev js:Stmt:=mtop 108 0
theorem oJ{c:RCl RK}{d:RCl PzK}(EN:kK Z)(EO:kL Z)(Fb:oq Z c)(Ep:FldK Z.K d "floor")(Ey:FldK Z.K d "given")(EF:FldK Z.K d "laws"){f:Addr}(D:Me Z.K "__init__" "Puzzle.__init__" js f):Mo Z 7 f ["self","floor","lines","clues"] (cq Z.K c d):=okm D nM bd4 #[";g~k0l}ihb1c~Og~k0l}jhbJ0~Ob2c'yd~k0l}khbJ0~Ob3c'x"]
abbrev ud:Stmt:=top 74
theorem y4{c:RCl RK}{d:RCl PzK}(EC:jn Z c d)(Ev:ig Z c d)(Es:GTup Z.K Z.mg "LINE_KINDS" dB)(En:GTup Z.K Z.mg "NUMBER_KINDS" cA)(D:De Z.K "strikes" ud):t1 Z c d:=okc Bz D vM bd3 #[";gp~z'Sme2fadil}lhb0b1b2cqgp~z'Tme2fadil}mhb0b1b2cqdi~A"]
abbrev ue:Stmt:=top 75
theorem y7{c:RCl RK}{d:RCl PzK}(Fq:pF Z c d)(FI:t1 Z c d)(D:De Z.K "allowed" ue):t3 Z c d:=okc Bz D vN bd3 #[";diNl}nhb0b2cSl}ohb0b1b2c"]
abbrev se:Stmt:=top 118
def Du{c:RCl RK}{d:RCl PzK}(Ef:iC Z)(Fc:oi Z)(Fd:og Z)(Fz:rz Z)(ED:jl Z)(FJ:t3 Z c d)(FA:rC Z c d)(FS:jo Z "Puzzle" (d.A .Puzzle) c d){f:Addr}{fd:FuncData}(F:Fun Z.K "law" "law" se f fd):FnOk Z.P Z.w Z.K Z.mg Z.base CX0 10 f fd ["_law_script"] (As Z.K c d):=okf F (by ac_rfl) Dt (fun hr hu nd=>by
 refine ad ?s0 ?r0
 case s0=>exact(kset 1 nd (ao aO (ao bA (kcal Ef hr (aa (pv 0) (aa af ac))) af) af))
 case r0=>
  refine ad ?s1 ?r1
  case s1=>
   refine Ct (te:=?te) (g:=gTup Z.K 2 (gCons (gName 2) (gCons (gName 3) gNil))) ?h1 ?h2 ?h4 ?h5 ?h6
   case h2=>exact(zd rfl (l8 (au (i:=2) nd rfl (Or.inl rfl)) (l8 (au (i:=3) nd rfl (Or.inl rfl)) w9)))
   case h4=>rfl
   case h5=>rfl
   case h6=>rfl
   case h1=>
    refine uJ ?x ?l ?j ?p
    case x=>exact(CP hu)
    case p=>exact(fun _ _=>rfl)
    case j=>exact(ao aO (pv 1) af)
    case l=>
     refine aG ?_;refine iB ?_ ?_
     . exact dD (cD af (cD af ac))
     refine iB ?_ ?_
     . exact dD (cD af (cD af ac))
     refine iB ?_ ?_
     . exact dD (cD af (cD af ac))
     refine iB ?_ ?_
     . exact dD (cD af (cD af ac))
     refine iB ?_ ?_
     . exact dD (cD af (cD af ac))
     refine iB ?_ ?_
     . exact dD (cD af (cD af ac))
     exact ac
  case r1=>
   exact(ad (kset 4 nd (ao aA af (ao aO (ao dA (pv 1) af) af)))
   (ad (kset 5 nd (ao bA (pv 2) (pv 3)))
   (ad (kset 6 nd (aG ac))
   (ad (cF Hr rfl (cm rfl Bz.range_ (aa (pv 5) ac)) (au (i:=7) nd rfl (Or.inl rfl))
   (ae (dz (c6 G2 Hi Hj bC (pv 6) (aa (ao aA af (ao aO (ao aO (ao bA (ao aA (kcal Ef hr (aa (pv 0) (aa (ao aA af (pv 7)) ac))) (ao bA (ao bA af (pv 7)) (pv 7))) af) af) (pv 4))) ac)))))
   (ad (kset 8 nd (aG ac))
   (ad (cF Hr rfl (cm rfl Bz.range_ (aa (ao aA af (ao aO (ao dA (pv 1) af) af)) ac)) (au (i:=7) nd rfl (Or.inl rfl))
   (ae (dz (c6 G2 Hi Hj bC (pv 8) (aa (kcal Fz hr (aa (pv 6) (aa (pv 4) (aa (ao aO (ao bA (ao aA (kcal Ef hr (aa (pv 0) (aa (ao aA af (pv 7)) ac))) (ao bA af (pv 7))) af) af) ac)))) ac)))))
   (ad (kset 9 nd (aG ac))
   (ad (cF Hr rfl (cm rfl Bz.range_ (aa (pv 5) ac)) (au (i:=7) nd rfl (Or.inl rfl))
   (ae (dz (c6 G2 Hi Hj bC (pv 9) (aa (kix hu (aG (aa af (aa (kix hu (pv 6) (pv 7)) (aa af ac)))) (ao aO (ao aO (ao bA (ao aA (kcal Ef hr (aa (pv 0) (aa (ao aA af (pv 7)) ac))) (ao bA af (pv 7))) af) af) af)) ac)))))
   (ad (kset 10 nd (jx FS hr #[1] rfl (aa (dD (aa (pv 2) (aa (pv 3) (aa (pv 4) ac)))) (aa (aH (ix:=[none,none]) [".0","_law_rule"] (aD rfl (by decide+kernel) rfl rfl rfl) rfl (aE (pv 8)) (fun cl s H fp=>(au (i:=1) (show([".0","_law_rule"]:List Str).Nodup by decide+kernel) rfl (Or.inl rfl))) (fun cl s H fp=>aT) (fun cl s H fp=>(kix hu (pv 1) af))) (aa (pv 9) ac)))))
   (ad (kset 11 nd (kcal Fc hr (aa (pv 0) (aa (pv 6) (aa (pv 4) ac)))))
   (ad (cF Hr rfl (cm rfl Bz.range_ (aa (aq aI rfl Bz.len_ aU (aa (pv 8) ac)) ac)) (au (i:=12) nd rfl (Or.inl rfl))
   (ad (kset 13 nd (kix hu (kix hu (pv 8) (pv 12)) af))
   (ad (ar (ap (az hu) (pv 13) (aG ac) (ak _)) (ae (kset 13 nd (kW rfl rfl rfl Bz.list_ Bz.range_ (aa (pv 5) ac)))) am)
   (ae (cF Hr rfl (cm rfl Bz.range_ (aa (ao bA (pv 5) (pv 4)) ac)) (au (i:=7) nd rfl (Or.inl rfl))
   (ad (kset 14 nd (dD (aa (kix hu (aG (aa aw (aa aw (aa aw (aa aw ac))))) (ao aO (ao aA (pv 7) (pv 1)) af)) (aa (pv 12) (aa (ao dA (pv 7) (pv 4)) (aa (ao aA af (ao aO (pv 7) (pv 4))) (aa (aG ac) ac)))))))
   (ad (ar (ap dY (ao aO (pv 1) af) af (ak _)) (ae (kset 14 nd (ao BO (dD (aa aw ac)) (dM CD (pv 14) (cu af) jD)))) am)
   (ae (ar (aS (kcal FJ hr (aa (pv 10) (aa (pv 11) (aa (pv 14) ac))))) (ad (ar (ap (az hu) (kix hu (pv 6) (kix hu (pv 14) af)) (kix hu (pv 14) af) (ak _)) (ae (ai cg)) am)
   (ad (kset 15 nd (kcal FA hr (aa (pv 10) (aa (pv 14) ac))))
   (ae (ar (JQ (d6 (cE (aS (kcal ED hr (aa (pv 15) ac)))) (ff (ap (dF hu) (pv 15) (kcal Fd hr (aa (pv 14) (aa (pv 13) ac))) (ak _))))) (ae (ai cg)) am)))) am)))))))))
   (ae (ai cg)))))))))))))) (by walk_at "l")
end
variable{l:PySem.W.OpenLaw}
def Dv {w:World} {K:Frag} {h:Heap} {mg:Str->Option Value} {fa:Addr} (X:K.In h) (G:h.Ns mainGlobals mg) (hfa:mg "law"=↑fa) {x1 x2 x3 x4 x5 x6 x7 x8 y1 f10 f11 f12 f13 f14 f15 f16 f18 f19 f20 f39 f40 f41 f42 f43 f60 f69 f70 f75 f76 f81 c0 P0:Addr} {tk_FIGURES tk_MOST_CELLS tk_MOST_FIGURES tk_MOST_NUMBER tk_MOST_RULES tk_MOST_SIDE tk_MOST_SIGNS tk_MOST_WAYS:Tok}
  (Q_Unlike:ClsP K "Unlike" x1 f10) (Q_Sum:ClsP K "Sum" x2 f10) (Q_Rising:ClsP K "Rising" x3 f10) (Q_Seen:ClsP K "Seen" x4 f10) (Q_Count:ClsP K "Count" x5 f10) (Q_Joined:ClsP K "Joined" x6 f10) (Q_NoSquare:ClsP K "NoSquare" x7 f10) (Q_Ring:ClsP K "Ring" x8 f10) (Q_Puzzle:ClsP K "Puzzle" y1 f81) (a11:At8 K "name" ↑f11 x1 x2 x3 x4 x5 x6 x7 x8) (a12:At8 K "spots" ↑f12 x1 x2 x3 x4 x5 x6 x7 x8) (a13:At8 K "number" ↑f13 x1 x2 x3 x4 x5 x6 x7 x8) (a14:At8 K "sign" ↑f14 x1 x2 x3 x4 x5 x6 x7 x8) (a15:At8 K "signs_at" ↑f15 x1 x2 x3 x4 x5 x6 x7 x8) (a16:At8 K "marked" ↑f16 x1 x2 x3 x4 x5 x6 x7 x8) (Gg:findIn K (.ref y1) "place"=some ↑f18) (Gh:findIn K (.ref y1) "clues"=some ↑f19) (Gi:findIn K (.ref y1) "rules"=some ↑f20) (Gj:findIn K (.ref x1) "holds"=some ↑f39) (Gv:findIn K (.ref x2) "holds"=some ↑f40) (Gk:findIn K (.ref x3) "holds"=some ↑f41) (Gq:findIn K (.ref x4) "holds"=some ↑f42) (Gp:findIn K (.ref x5) "holds"=some ↑f43) (Gr:findIn K (.ref x8) "has_two_beside"=some ↑f60) (Gm:findIn K (.ref x6) "is_joined"=some ↑f69) (Gs:findIn K (.ref x8) "is_joined"=some ↑f69) (Gc:findIn K (.ref x7) "holds"=some ↑f70) (Gn:findIn K (.ref x6) "holds"=some ↑f75) (Gu:findIn K (.ref x8) "holds"=some ↑f76) (n_c_amount:At8 K "amount" none x1 x2 x3 x4 x5 x6 x7 x8) (n_c_cells:At8 K "cells" none x1 x2 x3 x4 x5 x6 x7 x8) (n_c_floor:At8 K "floor" none x1 x2 x3 x4 x5 x6 x7 x8) (n_c_mark:At8 K "mark" none x1 x2 x3 x4 x5 x6 x7 x8) (n_c_words:At8 K "words" none x1 x2 x3 x4 x5 x6 x7 x8) (n_d_floor:findIn K (.ref y1) "floor"=some none) (n_d_given:findIn K (.ref y1) "given"=some none) (n_d_laws:findIn K (.ref y1) "laws"=some none) (D0:De K "is_whole" rE) (D1:De K "many_cells" or) (D2:De K "spot_of" t4) (D3:De K "square_at" pI) (D4:De K "bit_of" wc) (D5:De K "stands" wd) (D6:De K "clashes" t5) (D7:De K "masks_at" rF) (D8:De K "with_sign" pJ) (D9:De K "is_within" pK) (D10:Me K "__init__" "Rule.__init__" kN f10) (D11:Me K "name" "Rule.name" pM f11) (D12:Me K "spots" "Rule.spots" ot f12) (D13:Me K "number" "Rule.number" m6 f13) (D14:Me K "sign" "Rule.sign" pN f14) (D15:Me K "signs_at" "Rule.signs_at" kO f15) (D16:Me K "marked" "Rule.marked" m7 f16) (D17:De K "number_in" pO) (D18:Me K "place" "Puzzle.place" lT f18) (D19:Me K "clues" "Puzzle.clues" lU f19) (D20:Me K "rules" "Puzzle.rules" lV f20) (D21:De K "_law_cell_at" lW) (D22:De K "_law_order" ou) (D23:De K "_law_bit" rL) (D24:De K "_law_cells" ow) (D25:De K "_law_rests" ox) (D26:De K "_law_whole_list" jp) (D27:De K "is_from_one_to" kg) (D28:De K "beside" wm) (D29:De K "is_corner" pP) (D30:De K "without" t6) (D31:De K "signs_in" rM) (D32:De K "is_cell" t7) (D33:De K "goes_by" t8) (D34:De K "others" wo) (D35:De K "many_may" rN) (D36:De K "ahead_of" rO) (D37:De K "behind" wp) (D38:De K "with_each_sign" kh) (D39:Me K "holds" "Unlike.holds" lX f39) (D40:Me K "holds" "Sum.holds" pQ f40) (D41:Me K "holds" "Rising.holds" lY f41) (D42:Me K "holds" "Seen.holds" oz f42) (D43:Me K "holds" "Count.holds" m8 f43) (D44:De K "number_within" kP) (D45:De K "is_filling" oA) (D46:De K "_law_row" rR) (D47:De K "_law_masks" oB) (D48:De K "floor_of" rS) (D49:De K "squares" t9) (D50:De K "reached" ua) (D51:De K "has_only" rT) (D52:De K "ways" AF) (D53:De K "is_sign" ub) (D54:De K "has_its_rule" lZ) (D55:De K "is_no_greater" kQ) (D56:De K "is_no_less" oC) (D57:De K "rests_by_line" kR) (D58:De K "sum_strikes" nc) (D59:De K "rests_by_number" jq) (D60:Me K "has_two_beside" "Ring.has_two_beside" gF f60) (D61:De K "first_within" l0) (D62:De K "told_cells" oF) (D63:De K "rule_by" uc) (D64:De K "checked_clues" kS) (D65:De K "is_formed" pR) (D66:De K "many_only" pS) (D67:De K "step_strikes" l5) (D68:De K "rests_on" rY) (D69:Me K "is_joined" "Joined.is_joined" iV f69) (D70:Me K "holds" "NoSquare.holds" ki f70) (D71:De K "cells_of" rZ) (D72:De K "checked_floor" kT) (D73:De K "strikes_by_line" jr) (D74:De K "count_strikes" kU) (D75:Me K "holds" "Joined.holds" l6 f75) (D76:Me K "holds" "Ring.holds" oH f76) (D77:De K "read_rule" pT) (D78:De K "ways_strikes" l7) (D79:De K "read_rules" oI) (D80:De K "strikes_by_number" ij) (D81:Me K "__init__" "Puzzle.__init__" js f81) (D82:De K "strikes" ud) (D83:De K "allowed" ue) (D84:De K "law" se) (g_KINDS:GT0 K "KINDS" mC) (g_LINE_KINDS:GT0 K "LINE_KINDS" dB) (g_NUMBER_KINDS:GT0 K "NUMBER_KINDS" cA) (g_OF_ALL_CELLS:GT0 K "OF_ALL_CELLS" fD) (g_WITH_NUMBER:GT0 K "WITH_NUMBER" fV) (g_WITH_SIGN:GT0 K "WITH_SIGN" fJ) (gd_RULES_OF_KIND_:GD0 w K "RULES_OF_KIND" gd_RULES_OF_KIND) (Go:nsIn K mainGlobals "FIGURES"=some (some (.str (tx [48,49,50,51,52,53,54,55,56,57]) tk_FIGURES))) (F4:nsIn K mainGlobals "MOST_CELLS"=some (some (.int 16 tk_MOST_CELLS))) (FW:nsIn K mainGlobals "MOST_FIGURES"=some (some (.int 9 tk_MOST_FIGURES))) (F2:nsIn K mainGlobals "MOST_NUMBER"=some (some (.int 99 tk_MOST_NUMBER))) (F5:nsIn K mainGlobals "MOST_RULES"=some (some (.int 12 tk_MOST_RULES))) (Gd:nsIn K mainGlobals "MOST_SIDE"=some (some (.int 6 tk_MOST_SIDE))) (F6:nsIn K mainGlobals "MOST_SIGNS"=some (some (.int 6 tk_MOST_SIGNS))) (Ge:nsIn K mainGlobals "MOST_WAYS"=some (some (.int 32 tk_MOST_WAYS))) (z:Zn K) (LT:PySem.W.tabIn K "_law_cells"=some (c0,P0)) (LK:CdP K c0 P0) (LM:mainGlobals≠P0):
  ∃ fd:FuncData,(∀(s:Shared) (v:Value),BindsTo s fd ⟨[v],[]⟩ [("_law_script",v)])/\∀ base:Heap,K.In base->base.Ns mainGlobals mg->base.BuiltinsAt mg P0->FnOk l.prog w K mg base CX0 10 fa fd ["_law_script"] (sV K):=by
 obtain⟨f,fd,a,F⟩:=D84.ex;have e:=hfa.symm.trans (PySem.W.mg_of X G a);cases e;obtain⟨oc,od,kV,doc,pm,an,Gz,ct,osl,rfl,lk,hcd⟩:=F.ex;refine⟨fnOf "law" "law" (cM se) (bJ se) (aJ se) .none kV doc pm an Gz ct,fun s v=>.of_eq rfl,fun base KB _ LB=>?_⟩;let Z:Z5:=⟨l.prog,w,K,mg,base⟩;have Bz:Bt3 Z:=Dr X G z;have LC:=LK.hd KB;let c:RCl RK:=mkC x1 x2 x3 x4 x5 x6 x7 x8;let d:RCl PzK:=mkD y1;have CC:C8 K x1 x2 x3 x4 x5 x6 x7 x8:=⟨Q_Unlike.cl,Q_Sum.cl,Q_Rising.cl,Q_Seen.cl,Q_Count.cl,Q_Joined.cl,Q_NoSquare.cl,Q_Ring.cl⟩;have FB:=Bz.ns Go;have E5:=Bz.ns F4;have EQ:=Bz.ns FW;have EY:=Bz.ns F2;have Fa:=Bz.ns F5;have EX:=Bz.ns Gd;have E6:=Bz.ns F6;have Fo:=Bz.ns Ge;have Ea:FldK Z.K c "amount":=fk8 CC n_c_amount;have Ed:FldK Z.K c "cells":=fk8 CC n_c_cells;have Eg:FldK Z.K c "floor":=fk8 CC n_c_floor;have Ek:FldK Z.K c "mark":=fk8 CC n_c_mark;have Ex:FldK Z.K c "words":=fk8 CC n_c_words;have Ep:FldK Z.K d "floor":=⟨fun _ _=>⟨Q_Puzzle.cl,n_d_floor⟩⟩;have Ey:FldK Z.K d "given":=⟨fun _ _=>⟨Q_Puzzle.cl,n_d_given⟩⟩;have EF:FldK Z.K d "laws":=⟨fun _ _=>⟨Q_Puzzle.cl,n_d_laws⟩⟩;have F0:=g_KINDS.of Bz;have Es:=g_LINE_KINDS.of Bz;have En:=g_NUMBER_KINDS.of Bz;have EU:=g_OF_ALL_CELLS.of Bz;have EZ:=g_WITH_NUMBER.of Bz;have Fn:=g_WITH_SIGN.of Bz;have EI:=GD0.of (Z:=Z) gd_RULES_OF_KIND_ Bz;have Ec:=wP Bz D0;have DZ:=uw Bz D1;have EG:=yT Bz D2;have Fi:=wb Bz D3;have FN:=AA Bz D4;have Et:=AB Bz D5;have EH:=yU Bz D6;have Em:=wQ Bz D7;have Eu:=we Bz D8;have Fj:=wg Bz D9;have T10:=qk Bz Ea Ed Eg Ek Ex D10;have FQ:aC Z "Unlike" (c.A .Unlike) c:=T10.mke Bz Q_Unlike;have K_Sum:aC Z "Sum" (c.A .Sum) c:=T10.mke Bz Q_Sum;have FP:aC Z "Rising" (c.A .Rising) c:=T10.mke Bz Q_Rising;have Ga:aC Z "Seen" (c.A .Seen) c:=T10.mke Bz Q_Seen;have FZ:aC Z "Count" (c.A .Count) c:=T10.mke Bz Q_Count;have FO:aC Z "Joined" (c.A .Joined) c:=T10.mke Bz Q_Joined;have Fu:aC Z "NoSquare" (c.A .NoSquare) c:=T10.mke Bz Q_NoSquare;have F9:aC Z "Ring" (c.A .Ring) c:=T10.mke Bz Q_Ring;have T11:=wj Bz Ex D11;have F8:Ay Z c:=⟨fun i hi=>T11.at (c8 CC i) (at8 a11 i) fun _ _ _ _ h=>⟨i,h⟩⟩;have T12:=ux Bz Ed D12;have Eo:lS Z c:=⟨fun i hi=>T12.at (c8 CC i) (at8 a12 i) fun _ _ _ _ h=>⟨i,h⟩⟩;have T13:=sX Bz Ea D13;have Ew:qj Z c:=⟨fun i hi=>T13.at (c8 CC i) (at8 a13 i) fun _ _ _ _ h=>⟨i,h⟩⟩;have T14:=wk Bz Ek D14;have FV:Az Z c:=⟨fun i hi=>T14.at (c8 CC i) (at8 a14 i) fun _ _ _ _ h=>⟨i,h⟩⟩;have T15:=ql Bz Ed D15;have Eh:ic Z c:=⟨fun i hi=>T15.at (c8 CC i) (at8 a15 i) fun _ _ _ _ h=>⟨i,h⟩⟩;have FL:=fk1 (k:=.Joined) rfl Ed;have FT:=fk1 (k:=.Joined) rfl Ek;have T16_Joined:=iE (c:=(mk1 c .Joined)) Bz FL FT D16;have FX:gy Z (mk1 c .Joined):=⟨fun i hi=>by cases lN hi;exact T16_Joined.at Q_Joined.cl (at8 a16 .Joined) fun _ _ _ _ h=>⟨.Joined,h⟩⟩;have FY:=fk1 (k:=.Ring) rfl Ed;have F3:=fk1 (k:=.Ring) rfl Ek;have T16_Ring:=iE (c:=(mk1 c .Ring)) Bz FY F3 D16;have F7:gy Z (mk1 c .Ring):=⟨fun i hi=>by cases lN hi;exact T16_Ring.at Q_Ring.cl (at8 a16 .Ring) fun _ _ _ _ h=>⟨.Ring,h⟩⟩;have T16:=iE Bz Ed Ek D16;have Er:gy Z c:=⟨fun i hi=>T16.at (c8 CC i) (at8 a16 i) fun _ _ _ _ h=>⟨i,h⟩⟩;have Fg:=wl Bz FB EQ D17;have T18:=rG (c:=c) Bz Ep D18;have Fs:sW Z c d:=⟨fun i hi=>by cases i;exact T18.at Q_Puzzle.cl Gg fun _ _ _ _ h=>h⟩;have T19:=rH (c:=c) Bz Ey D19;have Gf:xR Z c d:=⟨fun i hi=>by cases i;exact T19.at Q_Puzzle.cl Gh fun _ _ _ _ h=>h⟩;have T20:=rJ (c:=c) Bz EF D20;have Ej:jE Z c d:=⟨fun i hi=>by cases i;exact T20.at Q_Puzzle.cl Gi fun _ _ _ _ h=>h⟩;have Ef:=rK Bz D21;have E4:=uy Bz D22;have EJ:=wR Bz D23;have E3:=uz Bz LT LC LB LM D24;have Fd:=uA Bz D25;have ED:=oy Bz D26;have Ee:=o5 Bz Ec D27;have ER:=AC Bz EG D28;have Fh:=wn Bz EG D29;have FC:=yV Bz FN Et D30;have Eb:=wS Bz Et D31;have FE:=yW Bz Ec DZ D32;have FD:=yX Bz F8 EI D33;have Ei:=AD Bz Eo D34;have Fx:=wT Bz Et D35;have Ez:=wU Bz Eo D36;have ES:=AE Bz Eo D37;have EE:=o6 Bz Eu D38;have T39:=rP Bz Eh D39;have T40:=wq Bz Ea Eh D40;have T41:=rQ Bz Eh D41;have T42:=uB Bz Ea Eh D42;have T43:=sY Bz Ea Er D43;have El:=qm Bz Fg D44;have E7:=uC Bz Ec DZ D45;have Fz:=wV Bz E3 E4 D46;have Fc:=uD Bz EJ Ef D47;have Fw:=wW Bz Ee E5 EX E6 D48;have FG:=yY Bz Fh DZ Fi D49;have Fe:=yZ Bz ER D50;have Fv:=wX Bz FC D51;have Gb:=Cn Bz Eb D52;have FF:=y2 Bz Ee D53;have ET:=rV Bz FD Ec Ej Eo D54;have EK:=qo Bz Eb D55;have E8:=uE Bz Eb D56;have EL:=qp Bz Ez ES Ei Ej D57;have E2:=sZ Bz EH Em Ei Eb Ew D58;have EB:=oE Bz Ei Ej D59;have Ff:=fk1 (k:=.Ring) rfl Eg;have T60_Ring:=lA (c:=(mk1 c .Ring)) Bz ER Ff D60;have Ft:kf Z (mk1 c .Ring):=⟨fun i hi=>by cases lN hi;exact T60_Ring.at Q_Ring.cl Gr fun _ _ _ _ h=>h⟩;have EA:=rW Bz El D61;have E9:=uF Bz DZ El D62;have FH:=y3 Bz FZ FO Fu F9 FP Ga K_Sum FQ D63;have EN:=qq Bz E7 D64;have Fq:=wr Bz ET FE FF Ec Fs F0 D65;have Fk:=wt Bz Fv D66;have EV:=rX Bz Ez ES EK E8 D67;have FA:=wY Bz EL EB Es En D68;have FM:=fk1 (k:=.Joined) rfl Eg;have T69_Joined:=ii (c:=(mk1 c .Joined)) Bz Fe FM D69;have FK:iK Z (mk1 c .Joined):=⟨fun i hi=>by cases lN hi;exact T69_Joined.at Q_Joined.cl Gm fun _ _ _ _ h=>⟨.Joined,h⟩⟩;have T69_Ring:=ii (c:=(mk1 c .Ring)) Bz Fe Ff D69;have FU:iK Z (mk1 c .Ring):=⟨fun i hi=>by cases lN hi;exact T69_Ring.at Q_Ring.cl Gs fun _ _ _ _ h=>⟨.Ring,h⟩⟩;have T70:=o7 Bz Fj FG Eg Er D70;have Fy:=wZ Bz DZ E9 EU D71;have EO:=qr Bz Fw D72;have EC:=oG Bz EV Gf Fs Ej D73;have EM:=qt Bz Fx Fk Em Ei Ew FV D74;have T75_Joined:=r8 (c:=(mk1 c .Joined)) Bz FK FX D75;have T76_Ring:=uG (c:=(mk1 c .Ring)) Bz Ft FU F7 D76;have F1:xS Z c:=⟨fun i hi=>by cases i with | Rule=>exact(GM hi).elim | Unlike=>exact T39.at Q_Unlike.cl Gj fun _ _ _ _ h=>h | Sum=>exact T40.at Q_Sum.cl Gv fun _ _ _ _ h=>h | Rising=>exact T41.at Q_Rising.cl Gk fun _ _ _ _ h=>h | Seen=>exact T42.at Q_Seen.cl Gq fun _ _ _ _ h=>h | Count=>exact T43.at Q_Count.cl Gp fun _ _ _ _ h=>h | Joined=>exact T75_Joined.at Q_Joined.cl Gn (fun vs H Q E h=>by obtain⟨r,p,f,ws,cs,xs,n,m,h,w,g,e,x,y⟩:=h;exact⟨r,p,f,ws,cs,xs,n,m,h,w,g,e,⟨rfl,x.ex⟩,y⟩) | NoSquare=>exact T70.at Q_NoSquare.cl Gc fun _ _ _ _ h=>h | Ring=>exact T76_Ring.at Q_Ring.cl Gu (fun vs H Q E h=>by obtain⟨r,p,f,ws,cs,xs,n,m,h,w,g,e,x,y⟩:=h;exact⟨r,p,f,ws,cs,xs,n,m,h,w,g,e,⟨rfl,x.ex⟩,y⟩)⟩;have Fp:=wu Bz Fy EA FH EY EZ Fn D77;have EW:=sd Bz EH Em Ei Eb Gb EE Eu Fo F1 D78;have Fb:=uH Bz Fp Fa D79;have Ev:=mV Bz EM E2 EW Ej D80;have T81:=oJ Bz EN EO Fb Ep Ey EF D81;have FS:jo Z "Puzzle" (d.A .Puzzle) c d:=T81.mke Bz Q_Puzzle;have FI:=y4 Bz EC Ev Es En D82;have FJ:=y7 Bz Fq FI D83;exact(Du Bz Ef Fc Fd Fz ED FJ FA FS F).imp fun vs H Q E h=>by obtain⟨a,ns,e,hS,hn,T9,k⟩:=h;exact⟨a,ns,e,hS,hn,fun k hk=>by cases k <;> first | rfl | exact absurd rfl hk,rfl,T9,k⟩
def walk {q:Program} {loose:List Str} {XP:(Str->Option Value)->Heap->Prop} {YP:World->Heap->Prop} {d:DefRec} {K:Params->Frag} {c0 P0:Addr} (hn:l.most=some 63) (hdf:d.params.defaults=[])
  (hY:∀(w:World) (h:Heap),YP w h->(K w.params).In h/\h.get? P0=some (PySem.W.tabObj #[])) (hT:∀ w:World,PySem.W.tabIn (K w.params) "_law_cells"=some (c0,P0)) (hC:∀ w:World,CdP (K w.params) c0 P0) (hL:∀ w:World,(K w.params).lookup P0=none)
  (F:∀(w:World) (mg:Str->Option Value) (fa:Addr) (h:Heap),(K w.params).In h->h.Ns mainGlobals mg->mg d.name=↑fa->
   ∃ fd:FuncData,(∀(s:Shared) (u:Value),BindsTo s fd ⟨[u],[]⟩ [("_law_script",u)])/\∀ base:Heap,(K w.params).In base->base.Ns mainGlobals mg->base.BuiltinsAt mg P0->FnOk l.prog w (K w.params) mg base CX0 10 fa fd ["_law_script"] (sV (K w.params))):
  PySem.W.WalkO q loose XP YP l.row.toRowW d [] (fun f vs=>PySem.call f vs):=
 L2.Bh (n:=63) (k:=10) (x:="_law_script") (CX:=fun _=>CX0) (sp:=fun w=>sV (K w.params)) (c':=c0) hn #[1] hdf ⟨rfl,by decide,by decide⟩ hY hL (fun w h X=>(hC w).tab X) F (fun w _ a ns hl eT hS=>⟨a,ns,rfl,hS,hl,by rw[xN (hT w)];exact eT,fun _=>rfl⟩) fun _ _ _ _ _ z=>z
variable{P:Program}{w:World}{K:Frag}{mg:Str->Option Value}{base:Heap}
def o8 {w:World} {K:Frag} {p:Addr} {ep:Nat} {dh0:Int} {dt0:Tok} {dq0:Addr} {dod0:Option Addr} {dn0:Nat} {dsl0:Array (Option Value)} {du0_0:Tok} {dh1:Int} {dt1:Tok} {dq1:Addr} {dod1:Option Addr} {dn1:Nat} {dsl1:Array (Option Value)} {du1_0:Tok} {dh2:Int} {dt2:Tok} {dq2:Addr} {dod2:Option Addr} {dn2:Nat} {dsl2:Array (Option Value)} {du2_0:Tok} {dh3:Int} {dt3:Tok} {dq3:Addr} {dod3:Option Addr} {dn3:Nat} {dsl3:Array (Option Value)} {du3_0:Tok} {dh4:Int} {dt4:Tok} {dq4:Addr} {dod4:Option Addr} {dn4:Nat} {dsl4:Array (Option Value)} {du4_0:Tok} {dh5:Int} {dt5:Tok} {dq5:Addr} {dod5:Option Addr} {dn5:Nat} {dsl5:Array (Option Value)} {du5_0:Tok} {dh6:Int} {dt6:Tok} {dq6:Addr} {dod6:Option Addr} {dn6:Nat} {dsl6:Array (Option Value)} {du6_0 du6_1:Tok} {dh7:Int} {dt7:Tok} {dq7:Addr} {dod7:Option Addr} {dn7:Nat} {dsl7:Array (Option Value)} {du7_0:Tok} {dh8:Int} {dt8:Tok} {dq8:Addr} {dod8:Option Addr} {dn8:Nat} {dsl8:Array (Option Value)} {du8_0:Tok}
  (a:nsIn K mainGlobals "RULES_OF_KIND"=some ↑p) (b:K.lookup p=some ⟨.type "dict",none,.dict #[⟨dh0,.str (tx [111,110,108,121]) dt0,.ref dq0⟩,⟨dh1,.str (tx [112,108,97,99,101]) dt1,.ref dq1⟩,⟨dh2,.str (tx [99,111,117,110,116]) dt2,.ref dq2⟩,⟨dh3,.str (tx [115,116,101,112]) dt3,.ref dq3⟩,⟨dh4,.str (tx [115,117,109]) dt4,.ref dq4⟩,⟨dh5,.str (tx [115,113,117,97,114,101]) dt5,.ref dq5⟩,⟨dh6,.str (tx [114,101,97,99,104]) dt6,.ref dq6⟩,⟨dh7,.str (tx [116,117,114,110]) dt7,.ref dq7⟩,⟨dh8,.str (tx [112,97,105,114]) dt8,.ref dq8⟩] ep,#[]⟩) (k0:K.lookup dq0=some ⟨.type "tuple",dod0,.seq #[.str (tx [117,110,108,105,107,101]) du0_0] dn0,dsl0⟩) (h0:dh0=hashStr w (tx [111,110,108,121])) (k1:K.lookup dq1=some ⟨.type "tuple",dod1,.seq #[.str (tx [117,110,108,105,107,101]) du1_0] dn1,dsl1⟩) (h1:dh1=hashStr w (tx [112,108,97,99,101])) (k2:K.lookup dq2=some ⟨.type "tuple",dod2,.seq #[.str (tx [99,111,117,110,116]) du2_0] dn2,dsl2⟩) (h2:dh2=hashStr w (tx [99,111,117,110,116])) (k3:K.lookup dq3=some ⟨.type "tuple",dod3,.seq #[.str (tx [114,105,115,105,110,103]) du3_0] dn3,dsl3⟩) (h3:dh3=hashStr w (tx [115,116,101,112])) (k4:K.lookup dq4=some ⟨.type "tuple",dod4,.seq #[.str (tx [115,117,109]) du4_0] dn4,dsl4⟩) (h4:dh4=hashStr w (tx [115,117,109])) (k5:K.lookup dq5=some ⟨.type "tuple",dod5,.seq #[.str (tx [110,111,115,113,117,97,114,101]) du5_0] dn5,dsl5⟩) (h5:dh5=hashStr w (tx [115,113,117,97,114,101])) (k6:K.lookup dq6=some ⟨.type "tuple",dod6,.seq #[.str (tx [106,111,105,110,101,100]) du6_0,.str (tx [114,105,110,103]) du6_1] dn6,dsl6⟩) (h6:dh6=hashStr w (tx [114,101,97,99,104])) (k7:K.lookup dq7=some ⟨.type "tuple",dod7,.seq #[.str (tx [114,105,110,103]) du7_0] dn7,dsl7⟩) (h7:dh7=hashStr w (tx [116,117,114,110])) (k8:K.lookup dq8=some ⟨.type "tuple",dod8,.seq #[.str (tx [117,110,108,105,107,101]) du8_0] dn8,dsl8⟩) (h8:dh8=hashStr w (tx [112,97,105,114])):GD0 w K "RULES_OF_KIND" gd_RULES_OF_KIND:=
 ⟨p,_,_,_,a,b,⟨rfl,rfl,rfl⟩,rfl,(.cons h0 k0 rfl rfl (Hs (ay (HA rfl))) (.cons ⟨_,rfl⟩ .nil) (.cons h1 k1 rfl rfl (Hs (ay (HA rfl))) (.cons ⟨_,rfl⟩ .nil) (.cons h2 k2 rfl rfl (Hs (ay (HA rfl))) (.cons ⟨_,rfl⟩ .nil) (.cons h3 k3 rfl rfl (Hs (ay (HA rfl))) (.cons ⟨_,rfl⟩ .nil) (.cons h4 k4 rfl rfl (Hs (ay (HA rfl))) (.cons ⟨_,rfl⟩ .nil) (.cons h5 k5 rfl rfl (Hs (ay (HA rfl))) (.cons ⟨_,rfl⟩ .nil) (.cons h6 k6 rfl rfl (Hs (ay (HA rfl))) (.cons ⟨_,rfl⟩ (.cons ⟨_,rfl⟩ .nil)) (.cons h7 k7 rfl rfl (Hs (ay (HA rfl))) (.cons ⟨_,rfl⟩ .nil) (.cons h8 k8 rfl rfl (Hs (ay (HA rfl))) (.cons ⟨_,rfl⟩ .nil) .nil))))))))),by decide+kernel⟩
end L2
end
open PySem PySem.W PyProof.Rows
namespace PySem.W.Fast
def tw13243847143051272797:=()
def tw2862141209404413048:=()
def tw9180288537150378432:=()
def tw9880728780055572738:=()
def tw9877963663536064108:=()
def tw6373564352398494881:=()
def tw18117276519161719186:=()
def tw12235510830681856120:=()
def tw4101591051301900026:=()
def tw8029990807961543077:=()
def tw1486767760144943503:=()
def tw1067703636155434806:=()
def tw2447740837890223351:=()
def tw396063862321523131:=()
def tw4518010178315652319:=()
def tw13289184556557188057:=()
def tw6273143512987010060:=()
def tw647679908758443261:=()
def tw8790052902201628895:=()
def tw6495759271733945339:=()
def tw12516233699001852287:=()
def tw1710402941976766064:=()
def tw13205134501732616226:=()
def tw8845592875539182527:=()
def tw13590790066795948511:=()
def tw14156444106463319548:=()
def tw7248376780223415200:=()
def tw7015271636942322964:=()
def tw4442799884867566753:=()
def tw2697078769694636482:=()
def tw17861906669817739192:=()
def tw10550245467780606758:=()
def tw4406245220380423240:=()
def tw9132269262828598978:=()
def tw3556901250685968474:=()
def tw10984366181152857232:=()
def tw16472126101548003469:=()
def tw1905448133041144442:=()
def tw4018935991077895994:=()
def tw13127007026928928812:=()
def tw10934616836918084934:=()
def tw11566571118887884144:=()
def tw10007201264086458116:=()
def tw3532198927282568185:=()
def tw2522623465101707335:=()
def tw9797945733173826443:=()
def tw15509046898738323393:=()
def tw5546109792182499204:=()
def tw8661027983938128408:=()
def tw13358249547647144838:=()
def tw2124632909642413353:=()
def tw11325444311234405904:=()
def tw5312787185230668042:=()
def tw11949626400693002821:=()
def tw16508201179942304484:=()
def tw7321072129033055143:=()
def tw17322108849479479024:=()
def tw5710522484099494880:=()
def tw11605524950695169481:=()
def tw17034946876018889653:=()
def tw17550461596240291421:=()
def tw4655477179088516826:=()
def tw15707036978841988172:=()
def tw1530311002848600139:=()
def tw12647954438687340406:=()
def tw8452401009319198708:=()
def tw4555218112018115453:=()
def tw11827474249176381681:=()
def tw13149307441778223565:=()
def tw17233576180252689235:=()
def tw11620252581291454765:=()
def tw1535074375798405748:=()
def tw12595005159432112172:=()
def tw899266228534779415:=()
def tw9235145684612169568:=()
def tw3410101764993834457:=()
def tw6197016808607489391:=()
def tw10826973279852441829:=()
def tw2704330823841654791:=()
def tw1167232375313655675:=()
def tw9917823158979696252:=()
def tw7185789028553502459:=()
def tw14508663927897987368:=()
def tw2261791327853988471:=()
def tw14958339561691955342:=()
def tw3029933390120295867:=()
def tw5829813281463918686:=()
def tw3512827307974536429:=()
def tw5172384697371806798:=()
def tw2333282444105502199:=()
def tw6327189861200539911:=()
def tw12556847183920963668:=()
def tw1525550193309424940:=()
def tw16356886816053290363:=()
def tw10362926061012489811:=()
def tw13205449855445973777:=()
def tw9916629298126384101:=()
def tw10476091520755534966:=()
def tw4527182720753056047:=()
def tw9811246058287944792:=()
def tw493723688879450482:=()
def tw7794579656936868308:=()
def tw13645362618364583541:=()
def tw13994548003881040244:=()
def tw13423560113740886648:=()
def tw11130185077682609028:=()
def tw841818949949794875:=()
def tw3993095997301405065:=()
def tw5950192629904891341:=()
def tw1868755056913770810:=()
def tw1341122822322672637:=()
def tw16815428628292330408:=()
def tw10658539091340886022:=()
def tw10646062972115287722:=()
def tw9602167659648752561:=()
def tw3551003071167375767:=()
def tw587353631222154392:=()
def tw7316233578391274681:=()
def tw9362539270256894792:=()
def tw7342221759521627541:=()
def tw13548917712696695838:=()
def tw7103498185069846707:=()
def tw13998721166444016120:=()
def tw14759058236781207205:=()
def tw5840743599000087511:=()
def tw13981812209926547538:=()
def tw10458992027237122302:=()
def tw14127002456007827566:=()
def tw6392392965442276428:=()
def tw7282520837071370989:=()
def tw17794614219703097501:=()
def tw13179255436052572442:=()
def tw553059430739648308:=()
def tw17963452677988147932:=()
def tw2606334468622875089:=()
def tw17197607230735800568:=()
def tw13162392790460706616:=()
def tw1953412294122789863:=()
def tw15390640540421393433:=()
def tw1663904249613884643:=()
def tw11800441998518528648:=()
def tw13701513579444686121:=()
def tw9118294878209000606:=()
def tw16287898303264166203:=()
def tw1370071202119037505:=()
def tw1891125810106843356:=()
def tw1905148378203799121:=()
def tw2916390513299727088:=()
def tw10310875121504696705:=()
def tw10404376541038615820:=()
def tw2691662501289819794:=()
def tw3590787081734349832:=()
def tw10846741269079814761:=()
def tw11169123936022316664:=()
def tw16167623884159244211:=()
def tw4350798664239003868:=()
def tw10573659165092385676:=()
def tw13051567608352989880:=()
def tw8537164086923608488:=()
def tw720824667781449283:=()
def tw1095103189427296803:=()
def tw4161500041865684795:=()
def tw9272294306173892888:=()
def tw2579055466834843838:=()
def tw3792484598998314557:=()
def tw369357051976187661:=()
def tw5587954300980513369:=()
def tw15333959169622438849:=()
def tw10702335254678943569:=()
def tw8758019397817330461:=()
def tw12640899508809434851:=()
def tw6860104859348334984:=()
def tw17654978348794151178:=()
def tw15057629844328792294:=()
def tw8068590170648937087:=()
def tw16446930694635356911:=()
def tw16796812580913079420:=()
def tw8022086031749308702:=()
def tw18007858648310380883:=()
def tw9208504596112869372:=()
def tw12439980174127009101:=()
def tw4018636721389272188:=()
def tw12505605238887167457:=()
def tw6202457661857711958:=()
def tw2633364232144306274:=()
def tw18029576139884433718:=()
def tw2048571099042864306:=()
def tw13104934575824941684:=()
def tw17640528467273104060:=()
def tw17087014435400545940:=()
def tw5335770662797530039:=()
def tw13926320777037502704:=()
def tw1644286593691267672:=()
def tw6943640884075308193:=()
def tw9079152946606550331:=()
def tw13626069037527044810:=()
def tw5494163387174035173:=()
def tw1899577543446676230:=()
def tw14461844595023194653:=()
def tw118153406710751416:=()
def tw399332133489040892:=()
def tw11741461814840048896:=()
def tw12246980565895696995:=()
def tw8900094274902037549:=()
def tw3213294063810797884:=()
def tw2929426869913838478:=()
def tw4994111600024540469:=()
def tw15895574506541428644:=()
def tw7877289267162618893:=()
def tw9544396259815324578:=()
def tw4891047059553598075:=()
def tw5200790112309834153:=()
def tw16883141480815600232:=()
def tw13163052247446927998:=()
def tw12338260397671686142:=()
def tw1575058959328368332:=()
def tw12135965456473717928:=()
def tw5505958184432006127:=()
def tw13226788152162281230:=()
def tw16735612962189988528:=()
def tw2633151663352518326:=()
def tw6579030075194828805:=()
def tw10069462570596567014:=()
def tw12141284580328021621:=()
def tw15682654436751151225:=()
def tw7599477861923757100:=()
def tw4867902385499017926:=()
def tw4842196966354893541:=()
def tw8064384046705419308:=()
def tw12669761339296127816:=()
def tw7693249479631512728:=()
def tw5031566249062396225:=()
def tw406825527748077970:=()
def tw6140040570919675283:=()
def tw12998676687057653157:=()
def tw6806655134465638582:=()
def tw15302075295309643151:=()
def tw3156587622807780333:=()
def tw7168198017217935262:=()
def tw7913482780879741104:=()
def tw6846194053470528583:=()
def tw1321638229881440512:=()
def tw6142374957143980378:=()
def tw7044796470852909615:=()
def tw1524950238828478454:=()
def tw1988589589836840079:=()
def tw8968126438147588131:=()
def tw10349052641471351095:=()
def tw11357332024349371621:=()
def tw3299118501737806829:=()
def tw492977084074972388:=()
def tw11129986720797203186:=()
def tw7152556480435668565:=()
def tw8518589890269981950:=()
def tw14600369860209556850:=()
def tw7663505786015467608:=()
def tw13454260254638580216:=()
def tw11423015443699006438:=()
def tw9313741749109668281:=()
def tw8223677036137069880:=()
def tw15453078139117781259:=()
def tw8067472214859902751:=()
def tw17683766236539342757:=()
def tw13012290080257555701:=()
def tw3848438117996531135:=()
def tw3967836761127210866:=()
def tw15718059806697434536:=()
def tw8607048241717145213:=()
def tw17754323115293851964:=()
def tw9005008131168821510:=()
def tw2944705886591465705:=()
def tw1228596158630159110:=()
def tw6934090936068234964:=()
def tw3787083523477331187:=()
def tw13353026435604572263:=()
def tw11420640881424976345:=()
def tw9238187860963943937:=()
def tw17780890800791621073:=()
def tw3554571523665630929:=()
def tw5081747156859432968:=()
def tw2124508095791489816:=()
def tw6953230328399449441:=()
def tw13140400831816375411:=()
def tw10854842826234139837:=()
def tw6129321687857533352:=()
def tw6512636089895897035:=()
def tw14965887128784548172:=()
def tw9491629529163605427:=()
def tw2477084005608900113:=()
def tw4018904607916157586:=()
def tw15665343523314064100:=()
def tw6600257796436244288:=()
def tw2696742887459929777:=()
def tw9803334203710832998:=()
def tw3500133590035228033:=()
def tw13660821427516297384:=()
def tw12484585356101490275:=()
def tw16796074291158389700:=()
def tw128207419230915914:=()
def tw5509698178231601567:=()
def tw8054538442359131463:=()
def tw5222842690078848853:=()
def tw9087850108875081465:=()
def tw17163881152890522787:=()
def tw16997817871465586987:=()
def tw8912389401919631674:=()
def tw14524748691791821250:=()
def tw9748910849146596243:=()
def tw11524289406052471373:=()
def tw1661079546395670732:=()
def tw8044700204024114794:=()
def tw1902924045679205690:=()
def tw3044667494142870008:=()
def tw15680869885037454274:=()
def tw11387731749553647020:=()
def tw4537818538509905196:=()
def tw2607172594372112117:=()
def tw12220091343004430598:=()
def tw16647348215223989332:=()
def tw12420891177300442733:=()
def tw12844727569179571829:=()
def tw5168734946279850593:=()
def tw767506137228016678:=()
def tw10207131408335491190:=()
def tw10614804668963594744:=()
def tw10767425117952648095:=()
def tw17190218867156816782:=()
def tw10950113760371420652:=()
def tw15828602900097099101:=()
def tw18166193623243123851:=()
def tw14614800987848259258:=()
def tw3951860603332905685:=()
def tw2551050531158466928:=()
def tw3041436191415002899:=()
def tw499665987144251118:=()
def tw15866723379180813687:=()
def tw10550353328743942883:=()
def tw13144609282426078356:=()
def tw9937077493504666995:=()
def tw13623089555304810641:=()
def tw18347335155228495700:=()
def tw12427223407540265815:=()
def tw7031604937268633719:=()
def tw1340404072015264687:=()
def tw15503454169967136583:=()
def tw8100991766359096155:=()
def tw5800140867354877917:=()
def tw67492543436663942:=()
def tw15182050751501315288:=()
def tw9217856002539727265:=()
def tw18079850122602215699:=()
def tw11244165505228729588:=()
def tw14211965680363366095:=()
def tw13242931283668344922:=()
def tw17745023741585477643:=()
def tw14070138864895779839:=()
def tw13701135762330010696:=()
def tw6355252046275809709:=()
def tw13150060473728133314:=()
def tw6331366855369022778:=()
def tw3706307070158974526:=()
def tw15787635447867264768:=()
def tw7908627871883273294:=()
def tw9605844793510467924:=()
def tw14593676557825213963:=()
def tw15880789909280374854:=()
def tw5973377601687444458:=()
def tw16176534243173544003:=()
def tw7169776802873947884:=()
def tw11575229571648289802:=()
def tw13911346836625692834:=()
def tw14472153802093721000:=()
def tw17353230303012917991:=()
def tw1362495294336089150:=()
def tw8317518102297011190:=()
def tw11283595925404963802:=()
def tw7470993755955717269:=()
def tw3930891897678708263:=()
def tw10709293108913988747:=()
def tw9668002475317820285:=()
def tw15179037494517418947:=()
def tw12681901403409519629:=()
def tw8776053188414452293:=()
def tw4135473172946294109:=()
def tw1448029329884004845:=()
def tw8921955234604710793:=()
def tw9638075462307675346:=()
def tw9979193045334919680:=()
def tw6965946942329039707:=()
def tw1619459328777460124:=()
def tw16597263828717266759:=()
def tw14750500275604826381:=()
def tw13970838742702305794:=()
def tw15516906922930100706:=()
def tw15390580740957845919:=()
def tw13587899709356430696:=()
def tw4962945330355116717:=()
def tw13702705126263220682:=()
def tw679323877749939837:=()
def tw16159179578352660210:=()
def tw4843492341755698127:=()
def tw12341426700063719903:=()
def tw18065693348966468174:=()
def tw1793312130539894236:=()
def tw554122239504903053:=()
def tw5466754190697826000:=()
def tw1729520174171768809:=()
def tw4074869848452705512:=()
def tw4197268642943047597:=()
def tw2909557804878107184:=()
def tw10006969940864022025:=()
def tw12537267937259711113:=()
def tw10996145600268917102:=()
def tw16273818797566505906:=()
def tw6373274797906366477:=()
def tw16155692733828875051:=()
def tw1969873456235263519:=()
def tw432358118931446481:=()
def tw12365937601654957896:=()
def tw16483138962913550116:=()
def tw10973834255052754679:=()
def tw18234919238397099350:=()
def tw13993945247849507894:=()
def tw13589494336584715809:=()
def tw9721201977276878400:=()
def tw7228491293009051136:=()
def tw17117328351189674278:=()
def tw786329674615677142:=()
def tw15606476626398270229:=()
def tw11149087617288211141:=()
def tw3835553267083067636:=()
def tw5455639283127765548:=()
def tw587079235051131592:=()
def tw17311736424212215187:=()
def tw4541923472401999263:=()
def tw9735645763891394563:=()
def tw5608015865973491092:=()
def tw1158017646550391777:=()
def tw15308392903590547129:=()
def tw6523524981939706520:=()
def tw3284318568761216227:=()
def tw10459819333328966177:=()
def tw11547748492641744200:=()
def tw13873382048438135909:=()
def tw6004120178549594745:=()
def tw5472459796535557975:=()
def tw799163490405565793:=()
def tw10758031784734273203:=()
def tw6871820854429080278:=()
def tw9433564019129700152:=()
def tw10162251488133682015:=()
def tw17620296339276170183:=()
def tw8747137362954817185:=()
def tw1653494564365457386:=()
def tw7782759161644479488:=()
def tw9261132261342558802:=()
def tw12335710002229096210:=()
def tw3207464330441752542:=()
def tw3259118842135756521:=()
def tw12304472694587947510:=()
def tw3809529443907570506:=()
def tw3697267397893515103:=()
def tw10560863935366215231:=()
def tw1718434206942380069:=()
def tw9926649404828983863:=()
def tw9068637740546749579:=()
def tw13005734291089905019:=()
def tw5283469764038416634:=()
def tw16774136882696392460:=()
def tw1463720246419935205:=()
def tw2244043448191617019:=()
def tw920732822202484703:=()
def tw1082579597720387065:=()
def tw7422026736692924471:=()
def tw14622001975061098093:=()
def tw9808956991528973394:=()
def tw7164117239885483675:=()
def tw11559191695631562574:=()
def tw15330534306847597881:=()
def tw2460712363021224266:=()
def tw12647842581150087787:=()
def tw2815619642648459463:=()
def tw10335442585379711499:=()
def tw8385926667794589740:=()
def tw9810292373519574585:=()
def tw2950178142625897512:=()
def tw6239934136475517372:=()
def tw17278659264873134521:=()
def tw1475183799229449340:=()
def tw415435270037940975:=()
def tw10972281963445662239:=()
def tw15330560634807739525:=()
def tw10999150327055712173:=()
def tw9935478964534938548:=()
def tw4087958062787758608:=()
def tw7114926617723298175:=()
def tw10798217814954845482:=()
def tw11352258321315110987:=()
def tw12286436886019528383:=()
def tw5275028520348492499:=()
def tw1761699423042696461:=()
def tw12300602645883567403:=()
def tw4737012881911279216:=()
def tw3740380290285130147:=()
def tw7381208682165703208:=()
def tw3723878467524198923:=()
def tw15293839995544501956:=()
def tw17816209418485582812:=()
def tw8490982040076189289:=()
def tw1482877547254343908:=()
def tw7835933099972655244:=()
def tw774009668748545099:=()
def tw4779133079799496013:=()
def tw10530750011579576400:=()
def tw8814818829486778076:=()
def tw8967453621261383053:=()
def tw18208178720901924836:=()
def tw16449345535768841787:=()
def tw3428024271005591035:=()
def tw13455327810576659732:=()
def tw9433131949653502880:=()
def tw516967057058736710:=()
def tw8538389347107190541:=()
def tw15984937716189395629:=()
def tw3235251658863636239:=()
def tw5484850189672302260:=()
def tw11305862505129649022:=()
def tw7100731769694194202:=()
def tw5274631277942063256:=()
def tw6814265388437538188:=()
def tw5374489320257542845:=()
def tw5399779392217064978:=()
def tw12735206149832604119:=()
def tw16782669408812250686:=()
end PySem.W.Fast
set_option maxRecDepth 100000 in
set_option maxHeartbeats 0 in
theorem PySem.Challenge.cw_cluemaker_k38_whole_no_answer_is_struck_holds : PySem.Challenge.rw_cluemaker_k38_whole_no_answer_is_struck.Holds := by
  w_on; o_law; k_head; (case hw => w_witness2)
  k_fill
  refine' L2.walk (l := PySem.Challenge.rw_cluemaker_k38_whole_no_answer_is_struck) (c0 := _) rfl rfl (fun w h Y => ⟨Y.1, Y.2 _ (List.Mem.head _)⟩) ?T ?C ?L ?F
  case T => intro w; (refine' L2.vV ?a ?b ?e ?l ?v; (case a => k_is); (case b => k_is); (case e => rfl); (case l => k_is); case v => rfl)
  case C => intro w; (refine' L2.CdP.mk' ?a ?b ?d ?e ?f ?g ?i ?j ?k ?l; (case a => k_is); (case b => rfl); (case d => rfl); (case e => rfl); (case f => rfl); (case g => rfl); (case i => rfl); (case j => rfl); (case k => rfl); case l => decide)
  case L => intro w; first | k_is | rfl | decide
  case F =>
    intro w mg fa h KX G hmg
    refine' L2.Dv KX G hmg ?_ ?_ ?_ ?_ ?_ ?_ ?_ ?_ ?_ ?_ ?_ ?_ ?_ ?_ ?_ ?_ ?_ ?_ ?_ ?_ ?_ ?_ ?_ ?_ ?_ ?_ ?_ ?_ ?_ ?_ ?_ ?_ ?_ ?_ ?_ ?_ ?_ ?_ ?_ ?_ ?_ ?_ ?_ ?_ ?_ ?_ ?_ ?_ ?_ ?_ ?_ ?_ ?_ ?_ ?_ ?_ ?_ ?_ ?_ ?_ ?_ ?_ ?_ ?_ ?_ ?_ ?_ ?_ ?_ ?_ ?_ ?_ ?_ ?_ ?_ ?_ ?_ ?_ ?_ ?_ ?_ ?_ ?_ ?_ ?_ ?_ ?_ ?_ ?_ ?_ ?_ ?_ ?_ ?_ ?_ ?_ ?_ ?_ ?_ ?_ ?_ ?_ ?_ ?_ ?_ ?_ ?_ ?_ ?_ ?_ ?_ ?_ ?_ ?_ ?_ ?_ ?_ ?_ ?_ ?_ ?_ ?_ ?_ ?_ ?_ ?_ ?_ ?_ ?_ ?_ ?_ ?_ ?_ ?_ ?_ ?_ ?_ ?_ ?_ ?_ ?_
    all_goals first
      | (refine' L2.vV ?a ?b ?e ?l ?v; (case a => k_is); (case b => k_is); (case e => rfl); (case l => k_is); case v => rfl)
      | (refine' L2.CdP.mk' ?a ?b ?d ?e ?f ?g ?i ?j ?k ?l; (case a => k_is); (case b => rfl); (case d => rfl); (case e => rfl); (case f => rfl); (case g => rfl); (case i => rfl); (case j => rfl); (case k => rfl); case l => decide)
      | (refine' L2.De.of ?a (L2.zv ?l ?c ?k); (case a => k_is); (case l => k_is); (case c => k_is); case k => k_is)
      | (refine' L2.Me.of (L2.zv ?l ?c ?k) ?n; (case l => k_is); (case c => k_is); (case k => k_is); case n => k_is)
      | (refine' L2.ClsP.mk ?a ?b ?c ?d ⟨?e, ?f, ?g, ?h⟩; (case a => k_is); (case b => k_is); (case c => k_is); (case d => k_is); (case e => k_is); (case f => k_is); (case g => k_is); case h => k_is)
      | (unfold L2.At8; refine' ⟨?_, ?_, ?_, ?_, ?_, ?_, ?_, ?_⟩ <;> k_is)
      | (refine' L2.GT0.mk' ?a ?b ?x ?y ?c ?d; (case a => k_is); (case b => k_is); (case x => rfl); (case y => rfl); (case c => exact Nat.le_of_lt (L2.ay (by decide))); (case d => repeat' (first | exact .nil | refine' .cons ⟨_, rfl⟩ ?_)))
      | (refine' L2.o8 ?a ?b ?k0 ?h0 ?k1 ?h1 ?k2 ?h2 ?k3 ?h3 ?k4 ?h4 ?k5 ?h5 ?k6 ?h6 ?k7 ?h7 ?k8 ?h8; (case a => k_is); (case b => k_is); (case k0 => k_is); (case h0 => first | exact rfl | with_unfolding_all rfl); (case k1 => k_is); (case h1 => first | exact rfl | with_unfolding_all rfl); (case k2 => k_is); (case h2 => first | exact rfl | with_unfolding_all rfl); (case k3 => k_is); (case h3 => first | exact rfl | with_unfolding_all rfl); (case k4 => k_is); (case h4 => first | exact rfl | with_unfolding_all rfl); (case k5 => k_is); (case h5 => first | exact rfl | with_unfolding_all rfl); (case k6 => k_is); (case h6 => first | exact rfl | with_unfolding_all rfl); (case k7 => k_is); (case h7 => first | exact rfl | with_unfolding_all rfl); (case k8 => k_is); case h8 => first | exact rfl | with_unfolding_all rfl)
      | (unfold L2.Zn; refine' ⟨?_, ?_, ?_, ?_, ?_, ?_, ?_, ?_, ?_, ?_, ?_, ?_, ?_, ?_, ?_, ?_, ?_, ?_, ?_⟩ <;> (unfold L2.Nn; k_is))
      | (unfold L2.Nn; k_is)
      | k_is
      | decide
      | skip
